/-
  The document's own batch: its reader's text.
  The document's own batch: its reader's op.
-/
import Derived.Test.YtffjleceogablaaDoorP21
import Derived.Test.YtffjleceogablaaDoorP05
import Derived.Test.YtffjleceogablaaDoorP03
import Derived.Test.YtffjleceogablaaDoorP08
namespace Go.Proofs.YtffjleceogablaaDoor
open Go.RowKit
set_option maxRecDepth 100000

/-- What text answers. -/
def TxtQ (q : Nat) (s : ByteArray) (p : Nat) (D : Nat ⊕ (List UInt8 × Nat)) (w : World) (e : Ending) (w' : World) : Prop :=
  (match D with
    | .inl er => e = .returned (.string ⟨#[]⟩) ∧ ∃ p2, RdQ q s p2 er w'
    | .inr (v, n) => e = .returned (strV v) ∧ RdQ q s (p + n) 0 w') ∧ Keeps (fun k => k = q) w w'
theorem txtQ_err {q p er p2 : Nat} {s : ByteArray} {D : Nat ⊕ (List UInt8 × Nat)} {w W : World} (hD : D = .inl er) (R : RdQ q s p2 er W) (K : Keeps (fun k => k = q) w W) : TxtQ q s p D w (.returned (.string ⟨#[]⟩)) W := by
  subst hD
  exact ⟨⟨rfl, p2, R⟩, K⟩
theorem txtQ_set {q p2 : Nat} (er : Nat) {s : ByteArray} {w W : World} (R : RdQ q s p2 0 W) (K : Keeps (fun k => k = q) w W) : RdQ q s p2 er (W.setCell ⟨q, 2, none⟩ (.int .i64 (er : Int))) ∧ Keeps (fun k => k = q) w (W.setCell ⟨q, 2, none⟩ (.int .i64 (er : Int))) :=
  ⟨R.set2 rfl, Keeps.setCell (S := fun k => k = q) K (fun _ => rfl) _⟩
set_option maxHeartbeats 3200000 in
theorem rtextQ_any (q : Nat) (s : ByteArray) (p : Nat) (w : World) (h : RdQ q s p 0 w) (hp : p ≤ s.size) (hs : s.size ≤ 140737488355328) :
    Calls Tryd.prog 63 #[.pointer (some ⟨q, 0, none⟩)] w (TxtQ q s p (textD 2147483647 (rest s p)) w) := by
  have NU := rnumber_any q s p w h hp hs
  clear h
  go_enter Tryd.func63, Tryd.ntmps63
  go_wp2_with fail
  refine NU.mono ?_
  rintro e w1 ⟨hm, hk⟩
  have K := Lib.hid hk
  clear NU hk
  cases hD : varintD (rest s p) with
  | inl er =>
    rw [hD] at hm
    obtain ⟨rfl, R⟩ := hm
    have her := vd_err _ _ _ _ hD
    have Fin := Lib.hid (show textD 2147483647 (rest s p) = .inl er by unfold textD; rw [hD])
    have c2 := R.c2
    have R1 := Lib.hid R
    clear R hD
    rcases her with rfl | rfl
    all_goals
      go_wp2
      go_quiet (fail)
      go_wp2
      go_ret
      exact txtQ_err Fin.out (p2 := p) R1.out (K.out.drewN _)
  | inr xn =>
    obtain ⟨x, n⟩ := xn
    rw [hD] at hm
    obtain ⟨rfl, R⟩ := hm
    obtain ⟨hx, hpn, hn10⟩ := varintD_len hp hD
    obtain ⟨m, hm⟩ : ∃ m, p + n = m := ⟨_, rfl⟩
    rw [hm] at R hpn
    have c0 := R.c0
    have c1 := R.c1
    have c2 := R.c2
    have f1 := R.f 1
    have f2 := R.f 2
    have R1 := Lib.hid R
    have HD := Lib.hid hD
    have HM := Lib.hid hm
    clear R hD hm
    by_cases h3 : 2147483647 < x
    · have Fin := Lib.hid (show textD 2147483647 (rest s p) = .inl 3 by unfold textD; rw [HD.out]; simp only; rw [if_pos (by omega)])
      have z3 : (2147483647 : Int) < (x : Int) := by omega
      obtain ⟨R2, K2⟩ := txtQ_set 3 R1.out K.out
      have c3 := R2.c2
      have R3 := Lib.hid R2
      have K3 := Lib.hid K2
      clear h3 R2 K2
      go_wp2
      go_quiet (fail)
      go_wp2
      go_ret
      exact txtQ_err Fin.out R3.out (K3.out.drewN _)
    · have z3 : (x : Int) ≤ 2147483647 := by omega
      have hw : IntKind.u64.wrap ((s.size : Int) - (m : Int)) = (s.size : Int) - (m : Int) := by rw [IntKind.wrap_u64]; omega
      have hwx : IntKind.i64.wrap (x : Int) = (x : Int) := by rw [IntKind.wrap_i64]; omega
      by_cases h1 : s.size - m < x
      · have Fin := Lib.hid (show textD 2147483647 (rest s p) = .inl 1 by
          unfold textD; rw [HD.out]; simp only; rw [if_neg (by omega), if_pos (by rw [rest_length]; have := HM.out; omega)])
        have z1 : (s.size : Int) - (m : Int) < (x : Int) := by omega
        have RK := Lib.hid (fun nq => txtQ_set (W := w1.drewN nq) 1 R1.out (K.out.drewN nq))
        clear h3 h1
        go_wp2
        go_quiet (fail)
        go_wp2
        go_ret
        exact txtQ_err Fin.out (RK.out _).1 (RK.out _).2
      · have z1 : (x : Int) ≤ (s.size : Int) - (m : Int) := by omega
        have Fin := Lib.hid (show textD 2147483647 (rest s p) = .inr (((rest s p).drop n).take x, n + x) by
          unfold textD; rw [HD.out]; simp only; rw [if_neg (by omega), if_neg (by rw [rest_length]; have := HM.out; omega)])
        have RX := Lib.hid (fun nq => RdQ.set1 (w := w1.drewN nq) (i := (m : Int) + (x : Int)) (n := m + x) R1.out (by omega))
        have KX := Lib.hid (fun nq => (Keeps.setCell (S := fun k => k = q) (K.out.drewN nq) (p := ⟨q, 1, none⟩) (fun _ => rfl) (.int .i64 ((m : Int) + (x : Int)))))
        clear h3 h1
        go_wp2
        go_quiet (fail)
        go_wp2
        generalize hW : World.setCell (World.drewN _ _) _ _ = W9
        have R9 := Lib.hid (hW ▸ RX.out _)
        have K9 := Lib.hid (hW ▸ KX.out _)
        have d0 := R9.out.c0
        have d1 := R9.out.c1
        have e1 : ((m + x : Nat) : Int) = (m : Int) + (x : Int) := by omega
        rw [e1] at d1
        clear hW RX KX c0 c1 c2 f1 f2 e1
        have e2 : (m : Int) + (x : Int) - (x : Int) = (m : Int) := by omega
        have b1 : (0 : Int) ≤ (m : Int) := by omega
        have b2 : (m : Int) ≤ (m : Int) + (x : Int) := by omega
        have b3 : (m : Int) + (x : Int) ≤ (s.size : Int) := by omega
        have b4 : ((m : Int) + (x : Int)).toNat = m + x := by omega
        go_quiet (fail)
        go_wp2
        go_ret
        rw [Fin.out]
        refine ⟨⟨?_, ?_⟩, K9.out.drewN _⟩
        · have HV : strV (((rest s p).drop n).take x) = .string (s.extract m (m + x)) := by
            unfold strV
            rw [← string_of_list (t := s.extract m (m + x)) (v := ((rest s p).drop n).take x) (by rw [extract_take, rest_drop, HM.out])]
          rw [HV]
          rfl
        · have := R9.out
          rw [show m + x = p + (n + x) by have := HM.out; omega] at this
          exact this
end Go.Proofs.YtffjleceogablaaDoor
namespace Go.Proofs.YtffjleceogablaaDoor
open Go.RowKit Go.WideShapes
set_option maxRecDepth 100000

/-- What op answers. -/
def OpQ (q : Nat) (s : ByteArray) (p : Nat) (D : Nat ⊕ (Bt.O × Nat)) (w : World) (e : Ending) (w' : World) : Prop :=
  (match D with
    | .inl er => ∃ o p2, e = .returned (opV o) ∧ RdQ q s p2 er w'
    | .inr (o, n) => e = .returned (opV o) ∧ RdQ q s (p + n) 0 w') ∧ Keeps (fun k => k = q) w w'
/-- A struct of an op in block B. -/
def OpB (W : World) (B : Nat) (o : Bt.O) : Prop := W.heap[B]? = some (.cells #[.bool o.del, strV o.key, strV o.val] 29 (0, 0))
section
variable {W W' : World} {B : Nat} {o : Bt.O}
theorem OpB.lt (h : OpB W B o) : B < W.heap.size := lt_of_block h
theorem OpB.c0 (h : OpB W B o) : W.cell? ⟨B, 0, none⟩ = some (.bool o.del) := by rw [Lib.cell_of_heap h]; rfl
theorem OpB.c1 (h : OpB W B o) : W.cell? ⟨B, 1, none⟩ = some (strV o.key) := by rw [Lib.cell_of_heap h]; rfl
theorem OpB.c2 (h : OpB W B o) : W.cell? ⟨B, 2, none⟩ = some (strV o.val) := by rw [Lib.cell_of_heap h]; rfl
theorem OpB.f (h : OpB W B o) (i : Nat) : W.frozen? ⟨B, i, none⟩ = false := Lib.frozen_of_heap h i
theorem OpB.kept {S : Nat → Prop} (h : OpB W B o) (k : Keeps S W W') (hS : ¬ S B) : OpB W' B o := (k.block B h.lt hS).trans h
theorem OpB.set0 (h : OpB W B o) (d : Bool) : OpB (W.setCell ⟨B, 0, none⟩ (.bool d)) B ⟨d, o.key, o.val⟩ := by
  unfold OpB at *
  simp [World.setCell, Array.getElem?_modify, h]
theorem OpB.set1 (h : OpB W B o) {k : List UInt8} {v : Value} (hv : strV k = v) : OpB (W.setCell ⟨B, 1, none⟩ v) B ⟨o.del, k, o.val⟩ := by
  subst hv
  unfold OpB at *
  simp [World.setCell, Array.getElem?_modify, h]
theorem OpB.set2 (h : OpB W B o) {k : List UInt8} {v : Value} (hv : strV k = v) : OpB (W.setCell ⟨B, 2, none⟩ v) B ⟨o.del, o.key, k⟩ := by
  subst hv
  unfold OpB at *
  simp [World.setCell, Array.getElem?_modify, h]
theorem OpB.all (h : OpB W B o) (a b c : Value) : (((W.setCell ⟨B, 0, none⟩ a).setCell ⟨B, 1, none⟩ b).setCell ⟨B, 2, none⟩ c).heap[B]? = some (.cells #[a, b, c] 29 (0, 0)) := by
  unfold OpB at *
  simp [World.setCell, Array.getElem?_modify, h]
theorem opB_new (W : World) : OpB (W.alloc (.cells #[.bool false, .string ⟨#[]⟩, .string ⟨#[]⟩] 29)) W.heap.size ⟨false, [], []⟩ := heap_alloc_new W _
end
/-- Where op stands behind its first steps: the result's box, the op's box, the reader. -/
structure RoSt (w : World) (q : Nat) (s : ByteArray) (p e B C : Nat) (o : Bt.O) (W : World) : Prop where
  rd : RdQ q s p e W
  box : OpB W C o
  res : OpB W B ⟨false, [], []⟩
  kp : Keeps (fun k => k = q) w W
  hq : q < B
  hB : B < C
  hw : w.heap.size ≤ B
section
variable {w W W' : World} {q p e B C : Nat} {s : ByteArray} {o : Bt.O}
theorem RoSt.set1 (h : RoSt w q s p e B C o W) {i : Int} {n : Nat} (hi : i = (n : Int)) : RoSt w q s n e B C o (W.setCell ⟨q, 1, none⟩ (.int .i64 i)) :=
  have k : Keeps (fun k => k = q) W (W.setCell ⟨q, 1, none⟩ (.int .i64 i)) := Keeps.setCell (S := fun k => k = q) (Keeps.refl _ _) (fun _ => rfl) _
  ⟨h.rd.set1 hi, h.box.kept k (by have := h.hq; have := h.hB; omega), h.res.kept k (by have := h.hq; omega), h.kp.trans k (fun _ _ e => e), h.hq, h.hB, h.hw⟩
theorem RoSt.set2 (h : RoSt w q s p e B C o W) {i : Int} {n : Nat} (hi : i = (n : Int)) : RoSt w q s p n B C o (W.setCell ⟨q, 2, none⟩ (.int .i64 i)) :=
  have k : Keeps (fun k => k = q) W (W.setCell ⟨q, 2, none⟩ (.int .i64 i)) := Keeps.setCell (S := fun k => k = q) (Keeps.refl _ _) (fun _ => rfl) _
  ⟨h.rd.set2 hi, h.box.kept k (by have := h.hq; have := h.hB; omega), h.res.kept k (by have := h.hq; omega), h.kp.trans k (fun _ _ e => e), h.hq, h.hB, h.hw⟩
theorem RoSt.boxed (h : RoSt w q s p e B C o W) {i : Nat} {v : Value} {o2 : Bt.O} (hb : OpB (W.setCell ⟨C, i, none⟩ v) C o2) : RoSt w q s p e B C o2 (W.setCell ⟨C, i, none⟩ v) :=
  have k : Keeps (fun k => k = C) W (W.setCell ⟨C, i, none⟩ v) := Keeps.setCell (S := fun k => k = C) (Keeps.refl _ _) (fun _ => rfl) _
  ⟨h.rd.kept k (by have := h.hq; have := h.hB; omega), hb, h.res.kept k (by have := h.hB; omega), Keeps.trans h.kp k (fun i hi e => by have := h.hw; have := h.hB; omega), h.hq, h.hB, h.hw⟩
theorem RoSt.drewN (h : RoSt w q s p e B C o W) (n : Nat) : RoSt w q s p e B C o (W.drewN n) := ⟨h.rd, h.box, h.res, h.kp.drewN n, h.hq, h.hB, h.hw⟩
theorem RoSt.call (h : RoSt w q s p e B C o W) {p2 e2 : Nat} (r : RdQ q s p2 e2 W') (k : Keeps (fun k => k = q) W W') : RoSt w q s p2 e2 B C o W' :=
  ⟨r, h.box.kept k (by have := h.hq; have := h.hB; omega), h.res.kept k (by have := h.hq; omega), h.kp.trans k (fun _ _ e => e), h.hq, h.hB, h.hw⟩
theorem RoSt.b3 (h : RoSt w q s p e B C o W) {K V : Value} (hK : strV o.key = K) (hV : strV o.val = V) : W.cell? ⟨C, 0, none⟩ = some (.bool o.del) ∧ W.cell? ⟨C, 1, none⟩ = some K ∧ W.cell? ⟨C, 2, none⟩ = some V :=
  ⟨h.box.c0, hK ▸ h.box.c1, hV ▸ h.box.c2⟩
theorem RoSt.r6 (h : RoSt w q s p e B C o W) : W.cell? ⟨B, 0, none⟩ = some (.bool false) ∧ W.cell? ⟨B, 1, none⟩ = some (.string ⟨#[]⟩) ∧ W.cell? ⟨B, 2, none⟩ = some (.string ⟨#[]⟩) ∧ W.frozen? ⟨B, 0, none⟩ = false ∧ W.frozen? ⟨B, 1, none⟩ = false ∧ W.frozen? ⟨B, 2, none⟩ = false :=
  ⟨h.res.c0, h.res.c1, h.res.c2, h.res.f 0, h.res.f 1, h.res.f 2⟩
theorem RoSt.fin (h : RoSt w q s p e B C o W) (a b c : Value) : (((W.setCell ⟨B, 0, none⟩ a).setCell ⟨B, 1, none⟩ b).setCell ⟨B, 2, none⟩ c).heap[B]? = some (.cells #[a, b, c] 29 (0, 0)) ∧
    RdQ q s p e (((W.setCell ⟨B, 0, none⟩ a).setCell ⟨B, 1, none⟩ b).setCell ⟨B, 2, none⟩ c) ∧ Keeps (fun k => k = q) w (((W.setCell ⟨B, 0, none⟩ a).setCell ⟨B, 1, none⟩ b).setCell ⟨B, 2, none⟩ c) := by
  have k : Keeps (fun k => k = B) W (((W.setCell ⟨B, 0, none⟩ a).setCell ⟨B, 1, none⟩ b).setCell ⟨B, 2, none⟩ c) :=
    Keeps.setCell (S := fun k => k = B) (Keeps.setCell (S := fun k => k = B) (Keeps.setCell (S := fun k => k = B) (Keeps.refl _ _) (fun _ => rfl) _) (fun _ => rfl) _) (fun _ => rfl) _
  have hw := h.hw
  exact ⟨h.res.all a b c, h.rd.kept k (by have := h.hq; omega), Keeps.trans h.kp k (fun i hi e => by omega)⟩
end
theorem opD_cons (fst : Bool) (before : Tb.Txt) (b : UInt8) (r : Tb.Txt) : Bt.opD fst before (b :: r) = if 1 < b.toNat then .inl 7 else match textD 2147483647 r with
    | .inl e => .inl e
    | .inr (k, n) => if fst = false ∧ Tb.lt before k = false then .inl 4 else if b.toNat = 1 then .inr (⟨true, k, []⟩, 1 + n) else match textD 2147483647 (r.drop n) with
      | .inl e => .inl e
      | .inr (v, m) => .inr (⟨false, k, v⟩, 1 + n + m) := rfl
theorem rest_cons {s : ByteArray} {p : Nat} (h : p < s.size) : rest s p = s[p] :: rest s (p + 1) := by
  have h' : p < s.data.toList.length := by simpa using h
  unfold rest
  rw [List.drop_eq_getElem_cons h']
  rfl
theorem leq_ltQ (a b : Tb.Txt) : (Tb.lt b a || b == a) = !Tb.lt a b := by
  cases h : Tb.lt a b with
  | true =>
    have h1 := Tb.lt_asymm h
    have h2 : (b == a) = false := beq_eq_false_iff_ne.2 (fun e => Tb.lt_ne h e.symm)
    rw [h1, h2]; rfl
  | false =>
    cases h1 : Tb.lt b a with
    | true => rfl
    | false => rw [Tb.lt_total h1 h]; simp
theorem leqQ {K1 K2 : ByteArray} {v : Bool} (hl : Tb.lt K1.data.toList K2.data.toList = v) : (Op.bytesLess K2.toList K1.toList || K2.toList == K1.toList) = !v := by
  have := leq_ltQ K1.data.toList K2.data.toList
  rw [hl] at this
  rw [ByteArray.toList_eq, ByteArray.toList_eq]
  exact this
set_option maxHeartbeats 12800000 in
theorem ropQ_any (q : Nat) (s : ByteArray) (p : Nat) (fst : Bool) (K0 : ByteArray) (w : World) (h : RdQ q s p 0 w) (hp : p ≤ s.size) (hs : s.size ≤ 140737488355328) :
    Calls Tryd.prog 45 #[.pointer (some ⟨q, 0, none⟩), .bool fst, .string K0] w (OpQ q s p (Bt.opD fst K0.data.toList (rest s p)) w) := by
  obtain ⟨B, hB⟩ : ∃ b, b = w.heap.size := ⟨_, rfl⟩
  have S0 := fun x y (hx : x = Obj.cells #[.bool false, .string ⟨#[]⟩, .string ⟨#[]⟩] 29) (hy : y = Obj.cells #[.bool false, .string ⟨#[]⟩, .string ⟨#[]⟩] 29) => (show RoSt w q s p 0 B (B + 1) ⟨false, [], []⟩ ((w.alloc x).alloc y) from by
    subst hx hy hB
    have k : Qt w ((w.alloc (.cells #[.bool false, .string ⟨#[]⟩, .string ⟨#[]⟩] 29)).alloc (.cells #[.bool false, .string ⟨#[]⟩, .string ⟨#[]⟩] 29)) := ((Qt.refl w).alloc _).alloc _
    have b := opB_new (w.alloc (.cells #[.bool false, .string ⟨#[]⟩, .string ⟨#[]⟩] 29))
    rw [World.size_alloc] at b
    exact ⟨h.qt k, b, (opB_new w).kept ((Qt.refl _).alloc _) (fun e => e), k.mono (fun _ _ e => e.elim), h.lt, Nat.lt_succ_self _, Nat.le_refl _⟩)
  clear h
  go_enter Tryd.func45, Tryd.ntmps45
  go_wp2
  rw [← hB]
  generalize hW : World.alloc (World.alloc _ _) _ = W
  have HS := Lib.hid (hW ▸ S0 _ _ rfl rfl)
  clear hW S0 hB
  have c0 := HS.out.rd.c0
  have c1 := HS.out.rd.c1
  by_cases hlt : p < s.size
  · have z0 : (p : Int) < (s.size : Int) := by omega
    have z0' : decide ((p : Int) ≥ (s.size : Int)) = false := decide_eq_false (by omega)
    have k0 : (0 : Int) ≤ (p : Int) := by omega
    have HB := Lib.hid (s[p].toNat_lt)
    obtain ⟨bn, hbn⟩ : ∃ bn, s[p].toNat = bn := ⟨_, rfl⟩
    have HO := Lib.hid (rest_cons hlt)
    have HBN := Lib.hid hbn
    clear hbn
    go_quiet (fail)
    go_wp2
    go_quiet (fail)
    rw [HBN.out]
    generalize hWq : World.drewN (World.drewN W _) _ = W5
    have H5 := Lib.hid (hWq ▸ (HS.out.drewN _).drewN _)
    clear hWq c0 c1 HS z0 z0'
    have c1 := H5.out.rd.c1
    have f1 := H5.out.rd.f 1
    have H6 := Lib.hid (H5.out.set1 (i := (p : Int) + 1) (n := p + 1) (by omega))
    have c2 := H6.out.rd.c2
    have f2 := H6.out.rd.f 2
    clear k0
    by_cases h7 : 1 < bn
    · have FD := Lib.hid (show Bt.opD fst K0.data.toList (rest s p) = .inl 7 by rw [HO.out, opD_cons, if_pos (by rw [HBN.out]; exact h7)])
      have z7 : (1 : Int) < (bn : Int) := by omega
      have z7' : decide ((1 : Int) < (bn : Int)) = true := decide_eq_true z7
      have S7 := Lib.hid (H6.out.set2 (i := 7) (n := 7) rfl)
      obtain ⟨d0, d1, d2⟩ := S7.out.b3 (K := .string ⟨#[]⟩) (V := .string ⟨#[]⟩) rfl rfl
      obtain ⟨r0, r1, r2, g0, g1, g2⟩ := S7.out.r6
      clear h7
      go_wp2
      refine bodyPost_ret (results_cell_row (p := 6) (ty := 29) (by kernel_rfl) _ _ B 29 #[.bool false, .string ⟨#[]⟩, .string ⟨#[]⟩] (0, 0) _ rfl (S7.out.fin _ _ _).1 Tryd.underlying29 rfl (by kernel_rfl)) rfl ⟨?_, (S7.out.fin _ _ _).2.2⟩
      rw [FD.out]
      exact ⟨⟨false, [], []⟩, _, rfl, (S7.out.fin _ _ _).2.1⟩
    · have hb01 : bn = 0 ∨ bn = 1 := by omega
      clear h7
      rcases hb01 with rfl | rfl
      · have b1 := H6.out.box.f 0
        have b2 := H6.out.box.c0
        have H7 := Lib.hid (H6.out.boxed (H6.out.box.set0 false))
        have T1 := rtextQ_any q s (p + 1) _ H7.out.rd (by omega) hs
        go_wp2_with fail
        refine T1.mono ?_
        rintro e w7 ⟨hm, hk⟩
        clear T1 b1 b2 c1 f1 c2 f2
        cases hD : textD 2147483647 (rest s (p + 1)) with
        | inl er =>
          rw [hD] at hm
          obtain ⟨rfl, p2, R⟩ := hm
          have her := textD_err hD
          have FD := Lib.hid (show Bt.opD fst K0.data.toList (rest s p) = .inl er by rw [HO.out, opD_cons, if_neg (by rw [HBN.out]; decide), hD])
          have H8 := Lib.hid (H7.out.call R hk)
          have a1 := H8.out.box.f 1
          have a2 := H8.out.box.c1
          have H9 := Lib.hid (H8.out.boxed (H8.out.box.set1 (k := []) (v := .string ⟨#[]⟩) rfl))
          have c2 := H9.out.rd.c2
          obtain ⟨d0, d1, d2⟩ := H9.out.b3 (K := .string ⟨#[]⟩) (V := .string ⟨#[]⟩) rfl rfl
          obtain ⟨r0, r1, r2, g0, g1, g2⟩ := H9.out.r6
          clear hD hk R
          have he3 : er = 1 ∨ er = 2 ∨ er = 3 := by omega
          clear her
          rcases he3 with rfl | rfl | rfl
          all_goals
            go_wp2
            refine bodyPost_ret (results_cell_row (p := 6) (ty := 29) (by kernel_rfl) _ _ B 29 #[.bool false, .string ⟨#[]⟩, .string ⟨#[]⟩] (0, 0) _ rfl (H9.out.fin _ _ _).1 Tryd.underlying29 rfl (by kernel_rfl)) rfl ⟨?_, (H9.out.fin _ _ _).2.2⟩
            rw [FD.out]
            exact ⟨⟨false, [], []⟩, _, rfl, (H9.out.fin _ _ _).2.1⟩
        | inr kn =>
          obtain ⟨k, n⟩ := kn
          rw [hD] at hm
          obtain ⟨rfl, R⟩ := hm
          obtain ⟨hpn, hn1, hvl⟩ := textD_len (by omega) hD
          obtain ⟨K, hK⟩ : ∃ K : ByteArray, strV k = .string K := ⟨_, rfl⟩
          have hKl : K.data.toList = k := by unfold strV at hK; injection hK with hK; rw [← hK]
          rw [hK]
          have H8 := Lib.hid (H7.out.call R hk)
          have a1 := H8.out.box.f 1
          have a2 := H8.out.box.c1
          have H9 := Lib.hid (H8.out.boxed (H8.out.box.set1 (k := k) (v := .string K) hK))
          have c2 := H9.out.rd.c2
          have HK := Lib.hid hK
          have HKL := Lib.hid hKl
          have HD := Lib.hid hD
          have HPN := Lib.hid hpn
          obtain ⟨d0, d1, d2⟩ := H9.out.b3 (V := .string ⟨#[]⟩) hK rfl
          obtain ⟨r0, r1, r2, g0, g1, g2⟩ := H9.out.r6
          clear hD hk R hpn hn1 hvl hKl hK
          by_cases hor : fst = false ∧ Tb.lt K0.data.toList k = false
          · obtain ⟨rfl, hl⟩ := hor
            have FD := Lib.hid (show Bt.opD false K0.data.toList (rest s p) = .inl 4 by rw [HO.out, opD_cons, if_neg (by rw [HBN.out]; decide), HD.out]; simp only; rw [if_pos ⟨trivial, hl⟩])
            have zl := leqQ (K1 := K0) (K2 := K) (v := false) (by rw [HKL.out]; exact hl)
            have f2 := H9.out.rd.f 2
            have S4 := Lib.hid (H9.out.set2 (i := 4) (n := 4) rfl)
            have c4 := S4.out.rd.c2
            clear hl d0 r0 r1 r2 g0 g1 g2
            have e1 := d1
            obtain ⟨d0, d1, d2⟩ := S4.out.b3 (V := .string ⟨#[]⟩) HK.out rfl
            obtain ⟨r0, r1, r2, g0, g1, g2⟩ := S4.out.r6
            go_wp2
            refine bodyPost_ret (results_cell_row (p := 6) (ty := 29) (by kernel_rfl) _ _ B 29 #[.bool false, .string K, .string ⟨#[]⟩] (0, 0) _ rfl (S4.out.fin _ _ _).1 Tryd.underlying29 rfl (by kernel_rfl)) rfl ⟨?_, (S4.out.fin _ _ _).2.2⟩
            rw [FD.out]
            exact ⟨⟨false, k, []⟩, _, by unfold opV; rw [show strV (Bt.O.key ⟨false, k, []⟩) = .string K from HK.out]; rfl, (S4.out.fin _ _ _).2.1⟩
          · have hor2 : fst = true ∨ (fst = false ∧ Tb.lt K0.data.toList k = true) := by
              cases fst with
              | true => exact .inl rfl
              | false =>
                cases hh : Tb.lt K0.data.toList k with
                | true => exact .inr ⟨rfl, rfl⟩
                | false => exact absurd ⟨rfl, hh⟩ hor
            have HOR := Lib.hid hor
            clear hor
            have T2 := rtextQ_any q s (p + 1 + n) _ H9.out.rd HPN.out hs
            rcases hor2 with rfl | ⟨rfl, hl⟩
            · go_wp2_with fail
              refine T2.mono ?_
              rintro e w9 ⟨hm, hk⟩
              clear T2 d0 d1 d2 r0 r1 r2 g0 g1 g2 a1 a2 c2
              cases hD2 : textD 2147483647 (rest s (p + 1 + n)) with
              | inl er =>
                rw [hD2] at hm
                obtain ⟨rfl, p2, R⟩ := hm
                have her := textD_err hD2
                have FD := Lib.hid (show Bt.opD true K0.data.toList (rest s p) = .inl er by rw [HO.out, opD_cons, if_neg (by rw [HBN.out]; decide), HD.out]; simp only; rw [if_neg HOR.out, if_neg (by rw [HBN.out]; decide), rest_drop, hD2])
                have H10 := Lib.hid (H9.out.call R hk)
                have a1 := H10.out.box.f 2
                have a2 := H10.out.box.c2
                have H11 := Lib.hid (H10.out.boxed (H10.out.box.set2 (k := []) (v := .string ⟨#[]⟩) rfl))
                obtain ⟨d0, d1, d2⟩ := H11.out.b3 (V := .string ⟨#[]⟩) HK.out rfl
                obtain ⟨r0, r1, r2, g0, g1, g2⟩ := H11.out.r6
                clear hD2 hk R
                go_wp2
                refine bodyPost_ret (results_cell_row (p := 6) (ty := 29) (by kernel_rfl) _ _ B 29 #[.bool false, .string K, .string ⟨#[]⟩] (0, 0) _ rfl (H11.out.fin _ _ _).1 Tryd.underlying29 rfl (by kernel_rfl)) rfl ⟨?_, (H11.out.fin _ _ _).2.2⟩
                rw [FD.out]
                exact ⟨⟨false, k, []⟩, _, by unfold opV; rw [show strV (Bt.O.key ⟨false, k, []⟩) = .string K from HK.out]; rfl, (H11.out.fin _ _ _).2.1⟩
              | inr vm =>
                obtain ⟨v, m⟩ := vm
                rw [hD2] at hm
                obtain ⟨rfl, R⟩ := hm
                obtain ⟨V, hV⟩ : ∃ V : ByteArray, strV v = .string V := ⟨_, rfl⟩
                rw [hV]
                have FD := Lib.hid (show Bt.opD true K0.data.toList (rest s p) = .inr (⟨false, k, v⟩, 1 + n + m) by rw [HO.out, opD_cons, if_neg (by rw [HBN.out]; decide), HD.out]; simp only; rw [if_neg HOR.out, if_neg (by rw [HBN.out]; decide), rest_drop, hD2])
                have H10 := Lib.hid (H9.out.call R hk)
                have a1 := H10.out.box.f 2
                have a2 := H10.out.box.c2
                have H11 := Lib.hid (H10.out.boxed (H10.out.box.set2 (k := v) (v := .string V) hV))
                have HV := Lib.hid hV
                obtain ⟨d0, d1, d2⟩ := H11.out.b3 HK.out hV
                obtain ⟨r0, r1, r2, g0, g1, g2⟩ := H11.out.r6
                clear hD2 hk R hV
                go_wp2
                refine bodyPost_ret (results_cell_row (p := 6) (ty := 29) (by kernel_rfl) _ _ B 29 #[.bool false, .string K, .string V] (0, 0) _ rfl (H11.out.fin _ _ _).1 Tryd.underlying29 rfl (by kernel_rfl)) rfl ⟨?_, (H11.out.fin _ _ _).2.2⟩
                rw [FD.out]
                refine ⟨?_, ?_⟩
                · show Ending.returned (.agg #[.bool false, .string K, .string V]) = .returned (.agg #[.bool false, strV k, strV v])
                  rw [HK.out, HV.out]
                · have hh := (H11.out.fin (.bool false) (.string K) (.string V)).2.1
                  rw [show p + 1 + n + m = p + (1 + n + m) by omega] at hh
                  exact hh
            · have zl := leqQ (K1 := K0) (K2 := K) (v := true) (by rw [HKL.out]; exact hl)
              clear hl
              go_wp2_with fail
              refine T2.mono ?_
              rintro e w9 ⟨hm, hk⟩
              clear T2 d0 d1 d2 r0 r1 r2 g0 g1 g2 a1 a2 c2 zl
              cases hD2 : textD 2147483647 (rest s (p + 1 + n)) with
              | inl er =>
                rw [hD2] at hm
                obtain ⟨rfl, p2, R⟩ := hm
                have her := textD_err hD2
                have FD := Lib.hid (show Bt.opD false K0.data.toList (rest s p) = .inl er by rw [HO.out, opD_cons, if_neg (by rw [HBN.out]; decide), HD.out]; simp only; rw [if_neg HOR.out, if_neg (by rw [HBN.out]; decide), rest_drop, hD2])
                have H10 := Lib.hid (H9.out.call R hk)
                have a1 := H10.out.box.f 2
                have a2 := H10.out.box.c2
                have H11 := Lib.hid (H10.out.boxed (H10.out.box.set2 (k := []) (v := .string ⟨#[]⟩) rfl))
                obtain ⟨d0, d1, d2⟩ := H11.out.b3 (V := .string ⟨#[]⟩) HK.out rfl
                obtain ⟨r0, r1, r2, g0, g1, g2⟩ := H11.out.r6
                clear hD2 hk R
                go_wp2
                refine bodyPost_ret (results_cell_row (p := 6) (ty := 29) (by kernel_rfl) _ _ B 29 #[.bool false, .string K, .string ⟨#[]⟩] (0, 0) _ rfl (H11.out.fin _ _ _).1 Tryd.underlying29 rfl (by kernel_rfl)) rfl ⟨?_, (H11.out.fin _ _ _).2.2⟩
                rw [FD.out]
                exact ⟨⟨false, k, []⟩, _, by unfold opV; rw [show strV (Bt.O.key ⟨false, k, []⟩) = .string K from HK.out]; rfl, (H11.out.fin _ _ _).2.1⟩
              | inr vm =>
                obtain ⟨v, m⟩ := vm
                rw [hD2] at hm
                obtain ⟨rfl, R⟩ := hm
                obtain ⟨V, hV⟩ : ∃ V : ByteArray, strV v = .string V := ⟨_, rfl⟩
                rw [hV]
                have FD := Lib.hid (show Bt.opD false K0.data.toList (rest s p) = .inr (⟨false, k, v⟩, 1 + n + m) by rw [HO.out, opD_cons, if_neg (by rw [HBN.out]; decide), HD.out]; simp only; rw [if_neg HOR.out, if_neg (by rw [HBN.out]; decide), rest_drop, hD2])
                have H10 := Lib.hid (H9.out.call R hk)
                have a1 := H10.out.box.f 2
                have a2 := H10.out.box.c2
                have H11 := Lib.hid (H10.out.boxed (H10.out.box.set2 (k := v) (v := .string V) hV))
                have HV := Lib.hid hV
                obtain ⟨d0, d1, d2⟩ := H11.out.b3 HK.out hV
                obtain ⟨r0, r1, r2, g0, g1, g2⟩ := H11.out.r6
                clear hD2 hk R hV
                go_wp2
                refine bodyPost_ret (results_cell_row (p := 6) (ty := 29) (by kernel_rfl) _ _ B 29 #[.bool false, .string K, .string V] (0, 0) _ rfl (H11.out.fin _ _ _).1 Tryd.underlying29 rfl (by kernel_rfl)) rfl ⟨?_, (H11.out.fin _ _ _).2.2⟩
                rw [FD.out]
                refine ⟨?_, ?_⟩
                · show Ending.returned (.agg #[.bool false, .string K, .string V]) = .returned (.agg #[.bool false, strV k, strV v])
                  rw [HK.out, HV.out]
                · have hh := (H11.out.fin (.bool false) (.string K) (.string V)).2.1
                  rw [show p + 1 + n + m = p + (1 + n + m) by omega] at hh
                  exact hh
      · have b1 := H6.out.box.f 0
        have b2 := H6.out.box.c0
        have H7 := Lib.hid (H6.out.boxed (H6.out.box.set0 true))
        have T1 := rtextQ_any q s (p + 1) _ H7.out.rd (by omega) hs
        go_wp2_with fail
        refine T1.mono ?_
        rintro e w7 ⟨hm, hk⟩
        clear T1 b1 b2 c1 f1 c2 f2
        cases hD : textD 2147483647 (rest s (p + 1)) with
        | inl er =>
          rw [hD] at hm
          obtain ⟨rfl, p2, R⟩ := hm
          have her := textD_err hD
          have FD := Lib.hid (show Bt.opD fst K0.data.toList (rest s p) = .inl er by rw [HO.out, opD_cons, if_neg (by rw [HBN.out]; decide), hD])
          have H8 := Lib.hid (H7.out.call R hk)
          have a1 := H8.out.box.f 1
          have a2 := H8.out.box.c1
          have H9 := Lib.hid (H8.out.boxed (H8.out.box.set1 (k := []) (v := .string ⟨#[]⟩) rfl))
          have c2 := H9.out.rd.c2
          obtain ⟨d0, d1, d2⟩ := H9.out.b3 (K := .string ⟨#[]⟩) (V := .string ⟨#[]⟩) rfl rfl
          obtain ⟨r0, r1, r2, g0, g1, g2⟩ := H9.out.r6
          clear hD hk R
          have he3 : er = 1 ∨ er = 2 ∨ er = 3 := by omega
          clear her
          rcases he3 with rfl | rfl | rfl
          all_goals
            go_wp2
            refine bodyPost_ret (results_cell_row (p := 6) (ty := 29) (by kernel_rfl) _ _ B 29 #[.bool true, .string ⟨#[]⟩, .string ⟨#[]⟩] (0, 0) _ rfl (H9.out.fin _ _ _).1 Tryd.underlying29 rfl (by kernel_rfl)) rfl ⟨?_, (H9.out.fin _ _ _).2.2⟩
            rw [FD.out]
            exact ⟨⟨true, [], []⟩, _, rfl, (H9.out.fin _ _ _).2.1⟩
        | inr kn =>
          obtain ⟨k, n⟩ := kn
          rw [hD] at hm
          obtain ⟨rfl, R⟩ := hm
          obtain ⟨hpn, hn1, hvl⟩ := textD_len (by omega) hD
          obtain ⟨K, hK⟩ : ∃ K : ByteArray, strV k = .string K := ⟨_, rfl⟩
          have hKl : K.data.toList = k := by unfold strV at hK; injection hK with hK; rw [← hK]
          rw [hK]
          have H8 := Lib.hid (H7.out.call R hk)
          have a1 := H8.out.box.f 1
          have a2 := H8.out.box.c1
          have H9 := Lib.hid (H8.out.boxed (H8.out.box.set1 (k := k) (v := .string K) hK))
          have c2 := H9.out.rd.c2
          have HK := Lib.hid hK
          have HKL := Lib.hid hKl
          have HD := Lib.hid hD
          have HPN := Lib.hid hpn
          obtain ⟨d0, d1, d2⟩ := H9.out.b3 (V := .string ⟨#[]⟩) hK rfl
          obtain ⟨r0, r1, r2, g0, g1, g2⟩ := H9.out.r6
          clear hD hk R hpn hn1 hvl hKl hK
          by_cases hor : fst = false ∧ Tb.lt K0.data.toList k = false
          · obtain ⟨rfl, hl⟩ := hor
            have FD := Lib.hid (show Bt.opD false K0.data.toList (rest s p) = .inl 4 by rw [HO.out, opD_cons, if_neg (by rw [HBN.out]; decide), HD.out]; simp only; rw [if_pos ⟨trivial, hl⟩])
            have zl := leqQ (K1 := K0) (K2 := K) (v := false) (by rw [HKL.out]; exact hl)
            have f2 := H9.out.rd.f 2
            have S4 := Lib.hid (H9.out.set2 (i := 4) (n := 4) rfl)
            have c4 := S4.out.rd.c2
            clear hl d0 r0 r1 r2 g0 g1 g2
            have e1 := d1
            obtain ⟨d0, d1, d2⟩ := S4.out.b3 (V := .string ⟨#[]⟩) HK.out rfl
            obtain ⟨r0, r1, r2, g0, g1, g2⟩ := S4.out.r6
            go_wp2
            refine bodyPost_ret (results_cell_row (p := 6) (ty := 29) (by kernel_rfl) _ _ B 29 #[.bool true, .string K, .string ⟨#[]⟩] (0, 0) _ rfl (S4.out.fin _ _ _).1 Tryd.underlying29 rfl (by kernel_rfl)) rfl ⟨?_, (S4.out.fin _ _ _).2.2⟩
            rw [FD.out]
            exact ⟨⟨true, k, []⟩, _, by unfold opV; rw [show strV (Bt.O.key ⟨true, k, []⟩) = .string K from HK.out]; rfl, (S4.out.fin _ _ _).2.1⟩
          · have hor2 : fst = true ∨ (fst = false ∧ Tb.lt K0.data.toList k = true) := by
              cases fst with
              | true => exact .inl rfl
              | false =>
                cases hh : Tb.lt K0.data.toList k with
                | true => exact .inr ⟨rfl, rfl⟩
                | false => exact absurd ⟨rfl, hh⟩ hor
            have HOR := Lib.hid hor
            clear hor
            have FD := Lib.hid (show Bt.opD fst K0.data.toList (rest s p) = .inr (⟨true, k, []⟩, 1 + n) by rw [HO.out, opD_cons, if_neg (by rw [HBN.out]; decide), HD.out]; simp only; rw [if_neg HOR.out, if_pos HBN.out])
            rcases hor2 with rfl | ⟨rfl, hl⟩
            · go_wp2
              refine bodyPost_ret (results_cell_row (p := 6) (ty := 29) (by kernel_rfl) _ _ B 29 #[.bool true, .string K, .string ⟨#[]⟩] (0, 0) _ rfl (H9.out.fin _ _ _).1 Tryd.underlying29 rfl (by kernel_rfl)) rfl ⟨?_, (H9.out.fin _ _ _).2.2⟩
              rw [FD.out]
              refine ⟨?_, ?_⟩
              · show Ending.returned (.agg #[.bool true, .string K, .string ⟨#[]⟩]) = .returned (.agg #[.bool true, strV k, strV []])
                rw [HK.out]; rfl
              · have hh := (H9.out.fin (.bool true) (.string K) (.string ⟨#[]⟩)).2.1
                rw [show p + 1 + n = p + (1 + n) by omega] at hh
                exact hh
            · have zl := leqQ (K1 := K0) (K2 := K) (v := true) (by rw [HKL.out]; exact hl)
              clear hl
              go_wp2
              refine bodyPost_ret (results_cell_row (p := 6) (ty := 29) (by kernel_rfl) _ _ B 29 #[.bool true, .string K, .string ⟨#[]⟩] (0, 0) _ rfl (H9.out.fin _ _ _).1 Tryd.underlying29 rfl (by kernel_rfl)) rfl ⟨?_, (H9.out.fin _ _ _).2.2⟩
              rw [FD.out]
              refine ⟨?_, ?_⟩
              · show Ending.returned (.agg #[.bool true, .string K, .string ⟨#[]⟩]) = .returned (.agg #[.bool true, strV k, strV []])
                rw [HK.out]; rfl
              · have hh := (H9.out.fin (.bool true) (.string K) (.string ⟨#[]⟩)).2.1
                rw [show p + 1 + n = p + (1 + n) by omega] at hh
                exact hh
  · have z0 : (s.size : Int) ≤ (p : Int) := by omega
    have z0' : decide ((p : Int) ≥ (s.size : Int)) = true := decide_eq_true z0
    have FD := Lib.hid (show Bt.opD fst K0.data.toList (rest s p) = .inl 1 by
      have : rest s p = [] := List.drop_eq_nil_of_le (by simp; omega)
      rw [this]; rfl)
    go_quiet (fail)
    generalize hWq : World.drewN W _ = W5
    have H5 := Lib.hid (hWq ▸ HS.out.drewN _)
    clear hWq c0 c1
    have c2 := H5.out.rd.c2
    have f2 := H5.out.rd.f 2
    have S1 := Lib.hid (H5.out.set2 (i := 1) (n := 1) rfl)
    obtain ⟨d0, d1, d2⟩ := S1.out.b3 (K := .string ⟨#[]⟩) (V := .string ⟨#[]⟩) rfl rfl
    obtain ⟨r0, r1, r2, g0, g1, g2⟩ := S1.out.r6
    go_wp2
    refine bodyPost_ret (results_cell_row (p := 6) (ty := 29) (by kernel_rfl) _ _ B 29 #[.bool false, .string ⟨#[]⟩, .string ⟨#[]⟩] (0, 0) _ rfl (S1.out.fin _ _ _).1 Tryd.underlying29 rfl (by kernel_rfl)) rfl ⟨?_, (S1.out.fin _ _ _).2.2⟩
    rw [FD.out]
    exact ⟨⟨false, [], []⟩, _, rfl, (S1.out.fin _ _ _).2.1⟩
end Go.Proofs.YtffjleceogablaaDoor
