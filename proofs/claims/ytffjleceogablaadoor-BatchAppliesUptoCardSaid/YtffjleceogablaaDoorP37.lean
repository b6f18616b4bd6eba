/-
  The landed table: Put, Delete.
  The landed table: Of.
-/
import Derived.Test.YtffjleceogablaaDoorP36
import Derived.Deep.RegionLaw
import Derived.Test.YtffjleceogablaaDoorP09
namespace Go.Proofs.YtffjleceogablaaDoor
open Go.RowKit Go.WideShapes
set_option maxRecDepth 100000

section
variable {W W' : World} {b : Nat} {l : List Tb.R} {A : Nat → Prop}
/-- A table turned: its own block, and new ones. -/
def Turned (W : World) (b : Nat) (A : Nat → Prop) (l : List Tb.R) (W' : World) : Prop := ∃ A2, Tbl W' b l A2 ∧ (∀ k, A2 k → A k ∨ W.heap.size ≤ k) ∧ Keeps (fun k => k = b) W W'
/-- Behind the last store. -/
theorem Turned.of {p q : Option Addr} {T2 : Tb.Tr} {m : Nat} {X : Nat → Prop} {w2 w3 : World} {l2 : List Tb.R} (hX : ∀ k, X k → A k ∧ k ≠ b) (hA : A b) (hlt : ∀ k, A k → k < W.heap.size) (hs : Tb.Sorted l2) (hl : l2.length ≤ 4398046511104) (hm : m ≤ 9223372036854775807) (k2 : Keeps (fun k => k = b) W w2) (q3 : Qt w2 w3) (c3 : CTab w3 b p m) (hmm : m = Tb.bytes l2) (e2 : T2.list = l2) (i : IsT (fun k => X k ∨ W.heap.size ≤ k) w3 q T2) : Turned W b A l2 (w3.setCell ⟨b, 0, none⟩ (.pointer q)) := by
  have hb := hlt b hA
  have ks : Keeps (fun k => k = b) w3 (w3.setCell ⟨b, 0, none⟩ (.pointer q)) := Keeps.setCell (S := fun k => k = b) (p := ⟨b, 0, none⟩) (Keeps.refl _ w3) (fun _ => rfl) _
  have K : Keeps (fun k => k = b) W (w3.setCell ⟨b, 0, none⟩ (.pointer q)) := Keeps.trans (Keeps.trans k2 q3 (fun _ _ e => e.elim)) ks (fun _ _ e => e)
  have hi := i.kept ks (fun k hk e => by
    subst e
    rcases hk with hk | hk
    · exact (hX _ hk).2 rfl
    · omega)
  refine ⟨fun k => (A k ∨ W.heap.size ≤ k) ∧ k < (w3.setCell ⟨b, 0, none⟩ (.pointer q)).heap.size, ⟨⟨q, T2, _, hmm ▸ c3.set0 q, e2, hi.lt, fun k hk => ⟨⟨hk.1.imp (fun h => (hX k h).1) id, hk.2⟩, fun e => ?_⟩⟩, ⟨.inl hA, Nat.lt_of_lt_of_le hb K.size⟩, fun k hk => hk.2, hs, hl, hmm ▸ hm⟩, fun k hk => hk.1, K⟩
  subst e
  rcases hk.1 with h | h
  · exact (hX _ h).2 rfl
  · omega
set_option maxHeartbeats 3200000 in
theorem put11_any (h : Tbl W b l A) (k v : ByteArray) (hk : k.size ≤ 281474976710656) (hv : v.size ≤ 281474976710656) (hlen : (Tb.put l k.data.toList v.data.toList).length ≤ 4398046511104) (hsum : Tb.bytes l + (k.size + v.size) ≤ 9223372036854775807) :
    Calls Tryd.prog 48 #[ptrV b, .string k, .string v] W fun e W' => e = .returned (.bool (Tb.get l k.data.toList).isSome) ∧ Turned W b A (Tb.put l k.data.toList v.data.toList) W' := by
  have GT := get11_any h k
  obtain ⟨p, T, X, c, e, i, x⟩ := h.is
  have HC := Lib.hid c
  have HI := Lib.hid i
  have HX := Lib.hid x
  have HA := Lib.hid h.own
  have HLT := Lib.hid h.lt
  have HS := Lib.hid h.sorted
  have HL := Lib.hid hlen
  have HE := Lib.hid e
  have CK := Lib.hid (fun w => textClone_any k w hk)
  have CV := Lib.hid (fun w => textClone_any v w hv)
  have hpl : Tb.bytes (Tb.put l k.data.toList v.data.toList) ≤ Tb.bytes l + (k.size + v.size) := by
    have := Tb.put_bytes l k.data.toList v.data.toList
    rwa [show k.data.toList.length = k.size from rfl, show v.data.toList.length = v.size from rfl] at this
  have HM := Lib.hid (show Tb.bytes (Tb.put l k.data.toList v.data.toList) ≤ 9223372036854775807 from Nat.le_trans hpl hsum)
  have c1 := c.sum
  have f1 := c.open1
  have f0 := c.open0
  unfold GotV at GT
  cases hg : Tb.get l k.data.toList with
  | none =>
    rw [hg] at GT
    have NM := Lib.hid (Tb.put_new (v := v.data.toList) hg)
    have SZ := Lib.hid (show (k.data.toList.length : Int) = k.size ∧ (v.data.toList.length : Int) = v.size from ⟨rfl, rfl⟩)
    have WI := Lib.hid (fun (w2 w : World) (k2 : Keeps (fun j => j = b) W w2) (q : Qt w2 w) => with_any (X := fun j => X j ∨ W.heap.size ≤ j) k v T p w (((HI.out.kept k2 (fun j hj => (HX.out j hj).2)).qt q).more (fun j _ hj => .inl hj)) (by rw [HE.out]; exact HS.out) (by rw [HE.out]; exact Nat.le_trans HL.out (by decide)) (fun j hj => .inr (Nat.le_trans k2.size (Nat.le_trans q.size hj))))
    rw [HE.out] at WI
    generalize Tb.bytes l = m at *
    clear h c e i hpl x hk hv
    go_enter Tryd.func48, Tryd.ntmps48
    go_wp2_with fail
    refine GT.mono ?_
    rintro e w1 ⟨rfl, rfl⟩
    have K0 : Keeps (fun j => j = b) w1 w1 := Keeps.refl _ w1
    go_wp2_with fail
    generalize hw2 : w1.setCell ⟨b, 1, none⟩ (.int .i64 ((m : Int) + ((k.size : Int) + (v.size : Int)))) = w2 at *
    have C2 : CTab w2 b p (Tb.bytes (Tb.put l k.data.toList v.data.toList)) := hw2 ▸ HC.out.set1 (by have := NM.out; rw [SZ.out.1, SZ.out.2] at this; exact this)
    have K2 := Lib.hid (show Keeps (fun j => j = b) w1 w2 from hw2 ▸ Keeps.setCell (S := fun j => j = b) (p := ⟨b, 1, none⟩) K0 (fun _ => rfl) _)
    have QD := Lib.hid (show Qt w2 w2.drew from Keeps.drew (Qt.refl w2))
    have KC := Lib.hid (fun (w : World) (q : Qt w2 w) => (show w.cell? ⟨b, 0, none⟩ = some (.pointer p) ∧ w.frozen? ⟨b, 0, none⟩ = false from ⟨(C2.qt q).tree, (C2.qt q).open0⟩))
    have CC := Lib.hid (fun (w : World) (q : Qt w2 w) => C2.qt q)
    have d0 := C2.tree
    have g0 := C2.open0
    clear hw2 C2 K0 c1 f1 f0
    go_region_law (first
      | (go_simp; go_at_call 67; refine (CK.out _).mono ?_; rintro e wA ⟨rfl, qA⟩; have QA := Lib.hid (Qt.trans QD.out qA); obtain ⟨dA, gA⟩ := KC.out _ QA.out; clear CK qA)
      | (go_simp; go_at_call 67; refine (CV.out _).mono ?_; rintro e wB ⟨rfl, qB⟩; have QB := Lib.hid (Qt.trans QA.out qB); obtain ⟨dB, gB⟩ := KC.out _ QB.out; clear CV qB)
      | (go_simp; go_at_call 66; refine (WI.out _ _ K2.out QB.out).mono ?_; rintro e wC ⟨pC, TC, rfl, eC, iC, qC⟩; have QC := Lib.hid (Qt.trans QB.out qC); obtain ⟨dC, gC⟩ := KC.out _ QC.out; have IC := Lib.hid iC; have EC := Lib.hid eC; clear WI eC iC qC))
    all_goals
      have FIN := Lib.hid (Turned.of (W := w1) (A := A) HX.out HA.out HLT.out (Tb.put_sorted HS.out k.data.toList v.data.toList) HL.out HM.out K2.out QC.out (CC.out _ QC.out) rfl EC.out IC.out)
      clear dC gC
      go_wp2
      go_ret
      exact ⟨rfl, FIN.out⟩
  | some u =>
    obtain ⟨U, hU, hUl⟩ : ∃ U : ByteArray, strV ((some u : Option Tb.Txt).getD []) = .string U ∧ u.length = U.size := ⟨⟨u.toArray⟩, rfl, rfl⟩
    rw [hg, hU] at GT
    have NM := Lib.hid (Tb.put_some (v := v.data.toList) h.sorted hg)
    have SZ := Lib.hid (show (k.data.toList.length : Int) = k.size ∧ (v.data.toList.length : Int) = v.size ∧ (u.length : Int) = U.size from ⟨rfl, rfl, by rw [hUl]⟩)
    have hko : k.size + U.size ≤ Tb.bytes l := by
      have h1 := Tb.del_sum h.sorted hg
      rw [hUl, show k.data.toList.length = k.size from rfl] at h1
      omega
    clear hU hUl
    have WI := Lib.hid (fun (w2 w : World) (k2 : Keeps (fun j => j = b) W w2) (q : Qt w2 w) => with_any (X := fun j => X j ∨ W.heap.size ≤ j) k v T p w (((HI.out.kept k2 (fun j hj => (HX.out j hj).2)).qt q).more (fun j _ hj => .inl hj)) (by rw [HE.out]; exact HS.out) (by rw [HE.out]; exact Nat.le_trans HL.out (by decide)) (fun j hj => .inr (Nat.le_trans k2.size (Nat.le_trans q.size hj))))
    rw [HE.out] at WI
    generalize Tb.bytes l = m at *
    clear h c e i hpl x hk hv
    go_enter Tryd.func48, Tryd.ntmps48
    go_wp2_with fail
    refine GT.mono ?_
    rintro e w1 ⟨rfl, rfl⟩
    have K0 : Keeps (fun j => j = b) w1 w1 := Keeps.refl _ w1
    go_wp2_with fail
    generalize hw2 : (w1.setCell ⟨b, 1, none⟩ (.int .i64 ((m : Int) - ((k.size : Int) + (U.size : Int))))).setCell ⟨b, 1, none⟩ (.int .i64 ((m : Int) - ((k.size : Int) + (U.size : Int)) + ((k.size : Int) + (v.size : Int)))) = w2 at *
    have C2 : CTab w2 b p (Tb.bytes (Tb.put l k.data.toList v.data.toList)) := hw2 ▸ (HC.out.set1 (i := (m : Int) - ((k.size : Int) + (U.size : Int))) (n := m - (k.size + U.size)) (by omega)).set1 (by have := NM.out; rw [SZ.out.1, SZ.out.2.1, SZ.out.2.2] at this; exact this)
    have K2 := Lib.hid (show Keeps (fun j => j = b) w1 w2 from hw2 ▸ Keeps.setCell (S := fun j => j = b) (p := ⟨b, 1, none⟩) (Keeps.setCell (S := fun j => j = b) (p := ⟨b, 1, none⟩) K0 (fun _ => rfl) _) (fun _ => rfl) _)
    have QD := Lib.hid (show Qt w2 w2.drew from Keeps.drew (Qt.refl w2))
    have KC := Lib.hid (fun (w : World) (q : Qt w2 w) => (show w.cell? ⟨b, 0, none⟩ = some (.pointer p) ∧ w.frozen? ⟨b, 0, none⟩ = false from ⟨(C2.qt q).tree, (C2.qt q).open0⟩))
    have CC := Lib.hid (fun (w : World) (q : Qt w2 w) => C2.qt q)
    have d0 := C2.tree
    have g0 := C2.open0
    clear hw2 C2 K0 c1 f1 f0
    go_region_law (first
      | (go_simp; go_at_call 67; refine (CK.out _).mono ?_; rintro e wA ⟨rfl, qA⟩; have QA := Lib.hid (Qt.trans QD.out qA); obtain ⟨dA, gA⟩ := KC.out _ QA.out; clear CK qA)
      | (go_simp; go_at_call 67; refine (CV.out _).mono ?_; rintro e wB ⟨rfl, qB⟩; have QB := Lib.hid (Qt.trans QA.out qB); obtain ⟨dB, gB⟩ := KC.out _ QB.out; clear CV qB)
      | (go_simp; go_at_call 66; refine (WI.out _ _ K2.out QB.out).mono ?_; rintro e wC ⟨pC, TC, rfl, eC, iC, qC⟩; have QC := Lib.hid (Qt.trans QB.out qC); obtain ⟨dC, gC⟩ := KC.out _ QC.out; have IC := Lib.hid iC; have EC := Lib.hid eC; clear WI eC iC qC))
    all_goals
      have FIN := Lib.hid (Turned.of (W := w1) (A := A) HX.out HA.out HLT.out (Tb.put_sorted HS.out k.data.toList v.data.toList) HL.out HM.out K2.out QC.out (CC.out _ QC.out) rfl EC.out IC.out)
      clear dC gC
      go_wp2
      go_ret
      exact ⟨rfl, FIN.out⟩

set_option maxHeartbeats 3200000 in
theorem del11_any (h : Tbl W b l A) (k : ByteArray) :
    Calls Tryd.prog 47 #[ptrV b, .string k] W fun e W' => e = .returned (.bool (Tb.get l k.data.toList).isSome) ∧ Turned W b A (Tb.del l k.data.toList) W' := by
  have GT := get11_any h k
  obtain ⟨p, T, X, c, e, i, x⟩ := h.is
  have HC := Lib.hid c
  have HI := Lib.hid i
  have HX := Lib.hid x
  have HA := Lib.hid h.own
  have HLT := Lib.hid h.lt
  have HS := Lib.hid h.sorted
  have HLL := Lib.hid h.len
  have HL := Lib.hid (Nat.le_trans (List.length_filter_le _ _) h.len : (Tb.del l k.data.toList).length ≤ 4398046511104)
  have HE := Lib.hid e
  have HM := Lib.hid (show Tb.bytes (Tb.del l k.data.toList) ≤ 9223372036854775807 from Nat.le_trans (Tb.del_bytes _ _) h.sum)
  have c0 := c.tree
  have c1 := c.sum
  have f1 := c.open1
  have f0 := c.open0
  unfold GotV at GT
  cases hg : Tb.get l k.data.toList with
  | none =>
    rw [hg] at GT
    have FIN := Lib.hid (show Turned W b A (Tb.del l k.data.toList) W from by rw [Tb.del_same hg]; exact ⟨A, h, fun _ hk => .inl hk, Keeps.refl _ _⟩)
    clear h c e i x
    go_enter Tryd.func47, Tryd.ntmps47
    go_wp2_with fail
    refine GT.mono ?_
    rintro e w1 ⟨rfl, rfl⟩
    go_wp2
    go_ret
    exact ⟨rfl, FIN.out⟩
  | some u =>
    obtain ⟨U, hU, hUl⟩ : ∃ U : ByteArray, strV ((some u : Option Tb.Txt).getD []) = .string U ∧ u.length = U.size := ⟨⟨u.toArray⟩, rfl, rfl⟩
    rw [hg, hU] at GT
    have hko : Tb.bytes (Tb.del l k.data.toList) + (k.size + U.size) = Tb.bytes l := by
      have h1 := Tb.del_sum h.sorted hg
      rw [hUl, show k.data.toList.length = k.size from rfl] at h1
      exact h1
    have hsum := h.sum
    clear hU hUl
    have WO := Lib.hid (fun (w2 w : World) (k2 : Keeps (fun j => j = b) W w2) (q : Qt w2 w) => without_any (X := fun j => X j ∨ W.heap.size ≤ j) T k p w (((HI.out.kept k2 (fun j hj => (HX.out j hj).2)).qt q).more (fun j _ hj => .inl hj)) (by rw [HE.out]; exact HS.out) (by rw [HE.out]; exact Nat.le_trans HLL.out (by decide)) (fun j hj => .inr (Nat.le_trans k2.size (Nat.le_trans q.size hj))))
    rw [HE.out] at WO
    generalize Tb.bytes l = m at *
    clear h c e i x
    go_enter Tryd.func47, Tryd.ntmps47
    go_wp2_with fail
    refine GT.mono ?_
    rintro e w1 ⟨rfl, rfl⟩
    have K0 : Keeps (fun j => j = b) w1 w1 := Keeps.refl _ w1
    go_wp2_with fail
    generalize hw2 : w1.setCell ⟨b, 1, none⟩ (.int .i64 ((m : Int) - ((k.size : Int) + (U.size : Int)))) = w2 at *
    have C2 : CTab w2 b p (Tb.bytes (Tb.del l k.data.toList)) := hw2 ▸ HC.out.set1 (by omega)
    have K2 := Lib.hid (show Keeps (fun j => j = b) w1 w2 from hw2 ▸ Keeps.setCell (S := fun j => j = b) (p := ⟨b, 1, none⟩) K0 (fun _ => rfl) _)
    have KC := Lib.hid (fun (w : World) (q : Qt w2 w) => C2.qt q)
    clear hw2 K0 c0 c1 f1 f0 hko hsum
    refine (WO.out _ _ K2.out (Qt.refl w2)).mono ?_
    rintro e w3 ⟨p3, T3, rfl, e3, i3, q3⟩
    have C3 := KC.out _ q3
    have c0 := C3.tree
    have f0 := C3.open0
    have FIN := Lib.hid (Turned.of (W := w1) (A := A) HX.out HA.out HLT.out (Tb.del_sorted HS.out k.data.toList) HL.out HM.out K2.out q3 C3 rfl e3 i3)
    clear C3 C2 i3 q3 e3 WO GT
    go_wp2
    go_ret
    exact ⟨rfl, FIN.out⟩
end
end Go.Proofs.YtffjleceogablaaDoor
namespace Go.Proofs.YtffjleceogablaaDoor
open Go.RowKit Go.WideShapes
set_option maxRecDepth 100000

def OfTAt (w : World) (b : Nat) (rows : List Tb.R) (iv : Value) (wr : World) : Prop :=
  ∃ (i : Nat) (A : Nat → Prop), i ≤ rows.length ∧ iv = .int .i64 i ∧ Tbl wr b (Tb.ofL (rows.take i)) A ∧ (∀ k, A k → w.heap.size ≤ k) ∧ Qt w wr
set_option maxHeartbeats 3200000 in
theorem of11_any {v : Value} {g o : Nat} {rows : List Tb.R} (w : World) (hr : RowsIn w v g o rows) (hb : Tb.bytes rows ≤ 9223372036854775807) (ht : ∀ r ∈ rows, r.1.length ≤ 281474976710656 ∧ r.2.length ≤ 281474976710656) (hn : rows.length ≤ 1048576) :
    Calls Tryd.prog 46 #[v] w fun e w' => ∃ b A, e = .returned (ptrV b) ∧ Tbl w' b (Tb.ofL rows) A ∧ (∀ k, A k → w.heap.size ≤ k) ∧ Qt w w' := by
  have HR := Lib.hid hr
  have HL := Lib.hid hn
  have HB := Lib.hid hb
  have HT := Lib.hid ht
  obtain ⟨a, cap, rfl, ha⟩ := hr.val
  have NW := new11_any w
  clear hr ha hb ht hn
  go_enter Tryd.func46, Tryd.ntmps46
  go_wp2_with fail
  refine NW.mono ?_
  rintro e W0 ⟨b, rfl, t0, hb, q0⟩
  have START := Lib.hid (show OfTAt w b rows (.int .i64 0) W0 from ⟨0, _, Nat.zero_le _, rfl, t0, fun k hk => by subst hk; exact hb, q0⟩)
  clear t0 q0 NW
  go_wp2_with fail
  go_loopw [9] (fun iv wr => OfTAt w b rows iv wr) (fun iv _ => rows.length - (intOf iv).toNat)
  case atStart => exact START.out
  case round =>
    obtain ⟨i, A, hi, rfl, hT, hA, hq⟩ := hrel
    have HTb := Lib.hid hT
    have HA := Lib.hid hA
    have QW := Lib.hid hq
    by_cases hlt : i < rows.length
    · have zlt : decide ((i : Int) < (rows.length : Int)) = true := decide_eq_true (by omega)
      have zlt' : decide (i < rows.length) = true := decide_eq_true hlt
      obtain ⟨r, c1, hri, e0⟩ := HR.out.elem hlt
      injection e0 with e0 q1 q2
      clear q1 q2
      subst e0
      obtain ⟨x1, x2⟩ := HR.out.cell hri
      have x1 := QW.out.cellv x1
      have x2 := QW.out.cellv x2
      obtain ⟨K, hK, hKl⟩ : ∃ K : ByteArray, strV r.1 = .string K ∧ K.data.toList = r.1 := ⟨⟨r.1.toArray⟩, rfl, rfl⟩
      obtain ⟨V, hV, hVl⟩ : ∃ V : ByteArray, strV r.2 = .string V ∧ V.data.toList = r.2 := ⟨⟨r.2.toArray⟩, rfl, rfl⟩
      rw [hK] at x1
      rw [hV] at x2
      have k0 : (0 : Int) ≤ (i : Int) := by omega
      have k1 : (i : Int) < (rows.length : Int) := by omega
      have hw1 := pl_w1 (k := i) (by have := HL.out; omega)
      have HM := Lib.hid (pl_meas hlt)
      have HN := Lib.hid (show Tb.ofL (rows.take (i + 1)) = Tb.put (Tb.ofL (rows.take i)) r.1 r.2 by rw [List.take_add_one, hri]; exact Tb.ofL_snoc _ _)
      obtain ⟨wb, hwb⟩ : ∃ W, wr.alloc (.cells #[.string K, .string V] 64) = W := ⟨_, rfl⟩
      have qb : Qt wr wb := hwb ▸ (Qt.refl wr).alloc _
      have c1 : wb.cell? ⟨wr.heap.size, 0, none⟩ = some (.string K) := by rw [← hwb, cell_of_row _ _ _ _ _ _ (heap_alloc_new wr _)]; rfl
      have c2 : wb.cell? ⟨wr.heap.size, 1, none⟩ = some (.string V) := by rw [← hwb, cell_of_row _ _ _ _ _ _ (heap_alloc_new wr _)]; rfl
      have hsz : K.size = r.1.length ∧ V.size = r.2.length := ⟨by rw [← hKl]; rfl, by rw [← hVl]; rfl⟩
      have htx := HT.out r (List.mem_of_getElem? hri)
      have hlen : (Tb.put (Tb.ofL (rows.take i)) K.data.toList V.data.toList).length ≤ 4398046511104 := by
        have h1 := Tb.ofL_length (rows.take (i + 1))
        have h2 := List.length_take_le (i + 1) rows
        have h3 := HN.out
        rw [← hKl, ← hVl] at h3
        rw [← h3]
        have := HL.out
        have h4 : (rows.take (i + 1)).length ≤ rows.length := by rw [List.length_take]; omega
        omega
      have hsum : Tb.bytes (Tb.ofL (rows.take i)) + (K.size + V.size) ≤ 9223372036854775807 := by
        have h1 := Tb.ofL_bytes (rows.take i)
        have h2 := Tb.bytes_take hri
        have h3 := Tb.take_bytes rows (i + 1)
        have := HB.out
        rw [hsz.1, hsz.2]
        omega
      have PU := put11_any (HTb.out.qt qb) K V (by rw [hsz.1]; exact htx.1) (by rw [hsz.2]; exact htx.2) hlen hsum
      rw [hKl, hVl] at PU
      have HLT := Lib.hid hlt
      have QB := Lib.hid (Qt.trans hq qb)
      clear hK hKl hV hVl hri hlt hi hT hA hq qb hsz htx hlen hsum
      go_wp2_with fail
      refine PU.mono ?_
      rintro e w7 ⟨rfl, A2, t2, a2, k2⟩
      have zb := QB.out.size
      have hob := HA.out b HTb.out.own
      have FN := Lib.hid (show OfTAt w b rows (.int .i64 ((i : Int) + 1)) w7 from
        ⟨i + 1, A2, HLT.out, by push_cast; rfl, by rw [HN.out]; exact t2, fun k hk => by
          rcases a2 k hk with h | h
          · exact HA.out k h
          · omega, Keeps.trans QB.out k2 (fun j hj e => by subst e; omega)⟩)
      clear t2 a2 k2 PU c1 c2 x1 x2 hwb
      go_wp2
      first | exact ⟨FN.out, HM.out⟩ | (rw [hw1]; exact ⟨FN.out, HM.out⟩)
    · obtain rfl : i = rows.length := by omega
      have zlt : decide ((rows.length : Int) < (rows.length : Int)) = false := decide_eq_false (by omega)
      have zlt' : decide (rows.length < rows.length) = false := decide_eq_false (by omega)
      clear hi hT hA hq hlt
      go_wp2
      go_ret
      have h1 := HTb.out
      rw [List.take_length] at h1
      exact ⟨b, A, rfl, h1, HA.out, QW.out⟩
end Go.Proofs.YtffjleceogablaaDoor
