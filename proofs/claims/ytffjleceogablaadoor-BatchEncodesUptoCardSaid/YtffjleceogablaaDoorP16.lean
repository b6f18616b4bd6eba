/-
  The contract of remitlaw12.sameRows: are two lists of rows alike?
  The document's own batch: the contract of place: a key's place, found by halving.
-/
import Derived.Test.YtffjleceogablaaDoorP06
import Derived.BigQuiet
import Derived.LoopTactic
import Derived.Test.YtffjleceogablaaDoorP15
import Derived.Laws.Cover1
namespace Go.Proofs.YtffjleceogablaaDoor
open Go.RowKit Go.WideShapes
set_option maxRecDepth 100000

theorem same_rowsL {l m : List Tb.R} (hl : l.length = m.length) (h : ∀ j, j < l.length → l[j]? = m[j]?) : l = m := by
  apply List.ext_getElem?
  intro j
  rcases Nat.lt_or_ge j l.length with k | k
  · exact h j k
  · rw [List.getElem?_eq_none k, List.getElem?_eq_none (by omega)]
def SameRAt (w : World) (l m : List Tb.R) (iv : Value) (wr : World) : Prop := ∃ k, k ≤ l.length ∧ iv = .int .i64 k ∧ (∀ j, j < k → l[j]? = m[j]?) ∧ Qt w wr

set_option maxHeartbeats 1600000 in
theorem sameR12_any (a b : Value) (g1 o1 g2 o2 : Nat) (l m : List Tb.R) (w : World) (hl : RowsIn w a g1 o1 l) (hm : RowsIn w b g2 o2 m) :
    Calls Tryd.prog 25 #[a, b] w fun e w' => e = .returned (.bool (decide (l = m))) ∧ Qt w w' := by
  obtain ⟨aa, ac, rfl, haa⟩ := hl.val
  obtain ⟨ba, bc, rfl, hba⟩ := hm.val
  by_cases hlen : l.length = m.length
  · have zl : ((l.length : Int) != (m.length : Int)) = false := by rw [bne_eq_false_iff_eq]; omega
    have HLN := Lib.hid hlen
    have HLB := Lib.hid hl.le
    have HA := Lib.hid hl
    have HB := Lib.hid hm
    have START := Lib.hid (show SameRAt w l m (.int .i64 0) w from ⟨0, Nat.zero_le _, rfl, fun j hj => absurd hj (Nat.not_lt_zero j), Qt.refl _⟩)
    clear hl hm hlen haa hba
    go_enter Tryd.func25, Tryd.ntmps25
    go_wp2
    go_loopw [13] (fun iv wr => SameRAt w l m iv wr) (fun iv _ => l.length - (intOf iv).toNat)
    case atStart => exact START.out
    case round =>
      obtain ⟨k, hk, rfl, heq, q⟩ := hrel
      have HQ := Lib.hid q
      have HEQ := Lib.hid heq
      have hkb : (k : Int) ≤ 140737488355328 := by have := HLB.out; omega
      by_cases hlt : k < l.length
      · have zlt : decide ((k : Int) < (l.length : Int)) = true := decide_eq_true (by omega)
        have zlt' : decide (k < l.length) = true := decide_eq_true hlt
        have hltm : k < m.length := by rw [← HLN.out]; exact hlt
        obtain ⟨t, ct, ht, e1⟩ := HA.out.elem hlt
        obtain ⟨u, cu, hu, e2⟩ := HB.out.elem hltm
        injection e1 with e1 q1 q2
        injection e2 with e2 q3 q4
        clear q1 q2 q3 q4
        subst e1 e2
        obtain ⟨t1, t2⟩ := HA.out.cell ht
        obtain ⟨u1, u2⟩ := HB.out.cell hu
        have c1 := q.cellv t1
        have c2 := q.cellv t2
        have d1 := q.cellv u1
        have d2 := q.cellv u2
        have k0 : (0 : Int) ≤ (k : Int) := by omega
        have k1 : (k : Int) < (l.length : Int) := by omega
        have k2 : (k : Int) < (m.length : Int) := by omega
        have HLT := Lib.hid hlt
        have HME := Lib.hid (show l.length - (intOf (.int .i64 ((k : Int) + 1))).toNat < l.length - (intOf (.int .i64 (k : Int))).toNat by simp [intOf]; omega)
        by_cases he : t = u
        · have n1 : ∀ W, (binOp .neq 64 (.agg #[strV t.1, strV t.2]) (.agg #[strV u.1, strV u.2])).run Tryd.prog W = .ok (.bool false) W := fun W => by rw [run_neq_row t u W, decide_eq_true he]; rfl
          have FN := Lib.hid (fun (W : World) (q2 : Qt w W) => (show SameRAt w l m (.int .i64 ((k : Int) + 1)) W from ⟨k + 1, HLT.out, by push_cast; rfl, fun j hj => by
            rcases Nat.lt_or_ge j k with h | h
            · exact HEQ.out j h
            · obtain rfl : j = k := by omega
              rw [ht, hu, he], q2⟩))
          clear t1 t2 u1 u2 ht hu he heq q hk hlt hltm
          go_wp2
          go_quiet (fail)
          have FN2 := Lib.hid (FN.out _ (Keeps.drewN HQ.out nq))
          go_wp2
          exact ⟨FN2.out, HME.out⟩
        · have n1 : ∀ W, (binOp .neq 64 (.agg #[strV t.1, strV t.2]) (.agg #[strV u.1, strV u.2])).run Tryd.prog W = .ok (.bool true) W := fun W => by rw [run_neq_row t u W, decide_eq_false he]; rfl
          have FIN := Lib.hid (show decide (l = m) = false from decide_eq_false (fun e => he (by rw [e, hu] at ht; exact (Option.some.inj ht).symm)))
          clear t1 t2 u1 u2 ht hu he heq q hk hlt hltm
          go_wp2
          go_quiet (fail)
          have QN := Lib.hid (Keeps.drewN HQ.out nq)
          go_wp2
          go_ret
          exact ⟨by rw [FIN.out]; rfl, QN.out⟩
      · obtain rfl : k = l.length := by omega
        have zlt : decide ((l.length : Int) < (l.length : Int)) = false := decide_eq_false (by omega)
        have FIN := Lib.hid (show decide (l = m) = true from decide_eq_true (same_rowsL HLN.out heq))
        clear heq q hk hlt
        go_wp2
        go_ret
        exact ⟨by rw [FIN.out]; rfl, HQ.out⟩
  · have zl : ((l.length : Int) != (m.length : Int)) = true := by rw [bne_iff_ne]; omega
    have FIN := Lib.hid (show decide (l = m) = false from decide_eq_false (fun e => hlen (by rw [e])))
    clear hl hm hlen haa hba
    go_enter Tryd.func25, Tryd.ntmps25
    go_wp2
    go_ret
    exact ⟨by rw [FIN.out]; rfl, Qt.refl _⟩
theorem sameR12_yes {a b : Value} {g1 o1 g2 o2 : Nat} {l : List Tb.R} {w : World} (hl : RowsIn w a g1 o1 l) (hm : RowsIn w b g2 o2 l) :
    Calls Tryd.prog 25 #[a, b] w fun e w' => e = .returned (.bool true) ∧ Qt w w' :=
  (sameR12_any a b g1 o1 g2 o2 l l w hl hm).mono fun _ _ h => by
    rw [decide_eq_true rfl] at h
    exact h
end Go.Proofs.YtffjleceogablaaDoor
namespace Go.Proofs.YtffjleceogablaaDoor
open Go.RowKit Go.WideShapes
set_option maxRecDepth 100000

def HvAt (w : World) (l : List Tb.R) (k : Tb.Txt) (lov hiv : Value) (wr : World) : Prop := ∃ lo hi : Nat, lo ≤ hi ∧ hi ≤ l.length ∧ lov = .int .i64 lo ∧ hiv = .int .i64 hi ∧ lo ≤ Tb.place l k ∧ Tb.place l k ≤ hi ∧ Qt w wr
theorem hv_mid {lo hi n : Nat} (h : lo < hi) (hn : hi ≤ n) (hb : n ≤ 17592186044416) : ∃ m : Nat, m = (lo + hi) / 2 ∧ lo ≤ m ∧ m < hi ∧ wrap64 ((lo : Int) + (hi : Int)) = (lo : Int) + (hi : Int) ∧ wrap64 (((lo : Int) + (hi : Int)).tdiv 2) = (m : Int) ∧ wrap64 ((m : Int) + 1) = (m : Int) + 1 ∧ (0 : Int) ≤ (m : Int) ∧ (m : Int) < (n : Int) := by
  refine ⟨(lo + hi) / 2, rfl, ?_, ?_, ?_, ?_, ?_, ?_, ?_⟩
  · omega
  · omega
  · unfold wrap64; omega
  · rw [Int.tdiv_eq_ediv_of_nonneg (by omega)]; unfold wrap64; omega
  · unfold wrap64; omega
  · omega
  · omega
theorem place_up {l : List Tb.R} {k : Tb.Txt} (hs : Tb.Sorted l) {m : Nat} {r : Tb.R} (hr : l[m]? = some r) (h : Tb.lt r.1 k = true) : m + 1 ≤ Tb.place l k := by
  rcases Nat.lt_or_ge m (Tb.place l k) with e | e
  · exact e
  · obtain ⟨h1, _⟩ := List.getElem?_eq_some_iff.1 hr
    have h2 : (l[Tb.place l k]?) = some (l[Tb.place l k]'(by omega)) := List.getElem?_eq_getElem (by omega)
    have h3 := Tb.sorted_below hs h2 hr e h
    rw [Tb.place_at h2] at h3
    cases h3
theorem place_dn {l : List Tb.R} {k : Tb.Txt} {m : Nat} {r : Tb.R} (hr : l[m]? = some r) (h : Tb.lt r.1 k = false) : Tb.place l k ≤ m := by
  rcases Nat.lt_or_ge m (Tb.place l k) with e | e
  · obtain ⟨r', hr', h'⟩ := Tb.place_lt e
    rw [hr] at hr'
    rw [← Option.some.inj hr', h] at h'
    cases h'
  · exact e
theorem hv_meas {lo hi lo2 hi2 : Nat} (h : hi2 - lo2 < hi - lo) : (intOf (.int .i64 (hi2 : Int))).toNat - (intOf (.int .i64 (lo2 : Int))).toNat < (intOf (.int .i64 (hi : Int))).toNat - (intOf (.int .i64 (lo : Int))).toNat := by
  simp only [intOf, Int.toNat_natCast]
  exact h
set_option maxHeartbeats 1600000 in
theorem rplace12_any {v : Value} {g o : Nat} {l : List Tb.R} (k : ByteArray) (w : World) (hr : RowsIn w v g o l) (hs : Tb.Sorted l) :
    Calls Tryd.prog 32 #[v, .string k] w fun e w' => e = .returned (.tuple #[.int .i64 (Tb.place l k.data.toList : Int), .bool (Tb.has l k.data.toList)]) ∧ Qt w w' := by
  have HR := Lib.hid hr
  have HLE := Lib.hid hr.le
  have HS := Lib.hid hs
  obtain ⟨a, cap, rfl, ha⟩ := hr.val
  clear hr ha hs
  have PB := Lib.hid (Tb.place_le l k.data.toList)
  have START := Lib.hid (show HvAt w l k.data.toList (.int .i64 0) (.int .i64 (l.length : Int)) w from ⟨0, l.length, Nat.zero_le _, Nat.le_refl _, rfl, rfl, Nat.zero_le _, PB.out, Qt.refl _⟩)
  go_enter Tryd.func32, Tryd.ntmps32
  go_wp2
  go_loopw [6, 7] (fun lv hv wr => HvAt w l k.data.toList lv hv wr) (fun lv hv _ => (intOf hv).toNat - (intOf lv).toNat)
  case atStart => exact START.out
  case round =>
    obtain ⟨lo, hi, h1, h2, rfl, rfl, h3, h4, q⟩ := hrel
    have HQ := Lib.hid q
    by_cases hlt : lo < hi
    · have zlt : decide ((lo : Int) < (hi : Int)) = true := decide_eq_true (by omega)
      have zlt' : decide (lo < hi) = true := decide_eq_true hlt
      obtain ⟨m, hm, m1, m2, w1, w2, w4, k0, k1⟩ := hv_mid hlt h2 HLE.out
      clear hm
      obtain ⟨r, c1, hri, e0⟩ := HR.out.elem (k := m) (by omega)
      injection e0 with e0 q1 q2
      clear q1 q2
      subst e0
      obtain ⟨x1, _⟩ := HR.out.cell hri
      have x1 := q.cellv x1
      obtain ⟨K, hK, hKl⟩ : ∃ K : ByteArray, strV r.1 = .string K ∧ K.data.toList = r.1 := ⟨⟨r.1.toArray⟩, rfl, rfl⟩
      rw [hK] at x1
      cases hp : Tb.lt r.1 k.data.toList with
      | true =>
        have zk : Op.bytesLess K.toList k.toList = true := by rw [ByteArray.toList_eq, ByteArray.toList_eq, hKl]; exact hp
        have FN := Lib.hid (show HvAt w l k.data.toList (.int .i64 ((m : Int) + 1)) (.int .i64 (hi : Int)) wr from ⟨m + 1, hi, m2, h2, by push_cast; rfl, rfl, place_up HS.out hri hp, h4, HQ.out⟩)
        have HM := Lib.hid (hv_meas (lo := lo) (hi := hi) (lo2 := m + 1) (hi2 := hi) (by omega))
        clear hK hKl hri hp hlt h1 h2 h3 h4 m1 m2 q
        go_wp2
        rw [w4]
        exact ⟨FN.out, HM.out⟩
      | false =>
        have zk : Op.bytesLess K.toList k.toList = false := by rw [ByteArray.toList_eq, ByteArray.toList_eq, hKl]; exact hp
        have FN := Lib.hid (show HvAt w l k.data.toList (.int .i64 (lo : Int)) (.int .i64 (m : Int)) wr from ⟨lo, m, m1, by omega, rfl, rfl, h3, place_dn hri hp, HQ.out⟩)
        have HM := Lib.hid (hv_meas (lo := lo) (hi := hi) (lo2 := lo) (hi2 := m) (by omega))
        clear hK hKl hri hp hlt h1 h2 h3 h4 m1 m2 q
        go_wp2
        rw [w2]
        exact ⟨FN.out, HM.out⟩
    · obtain rfl : lo = hi := by omega
      obtain rfl : lo = Tb.place l k.data.toList := by omega
      have zlt : decide ((Tb.place l k.data.toList : Int) < (Tb.place l k.data.toList : Int)) = false := decide_eq_false (by omega)
      have zlt' : decide (Tb.place l k.data.toList < Tb.place l k.data.toList) = false := decide_eq_false (by omega)
      have HH := Lib.hid (Tb.has_place HS.out k.data.toList)
      by_cases hin : Tb.place l k.data.toList < l.length
      · have z2 : decide ((Tb.place l k.data.toList : Int) < (l.length : Int)) = true := decide_eq_true (by omega)
        have z2' : decide (Tb.place l k.data.toList < l.length) = true := decide_eq_true hin
        obtain ⟨r, c1, hri, e0⟩ := HR.out.elem hin
        injection e0 with e0 q1 q2
        clear q1 q2
        subst e0
        obtain ⟨x1, _⟩ := HR.out.cell hri
        have x1 := q.cellv x1
        obtain ⟨K, hK, hKl⟩ : ∃ K : ByteArray, strV r.1 = .string K ∧ K.data.toList = r.1 := ⟨⟨r.1.toArray⟩, rfl, rfl⟩
        rw [hK] at x1
        have k0 : (0 : Int) ≤ (Tb.place l k.data.toList : Int) := by omega
        have k1 : (Tb.place l k.data.toList : Int) < (l.length : Int) := by omega
        have FIN := Lib.hid (show (K.toList == k.toList) = Tb.has l k.data.toList by rw [HH.out, hri, ByteArray.toList_eq, ByteArray.toList_eq, hKl]; rfl)
        clear hK hKl hri hlt h1 h2 h3 h4 hin q
        go_wp2
        go_quiet (fail)
        have QN := Lib.hid (Keeps.drewN HQ.out nq)
        go_wp2
        go_ret2
        exact ⟨by rw [FIN.out]; rfl, QN.out⟩
      · have z2 : decide ((Tb.place l k.data.toList : Int) < (l.length : Int)) = false := decide_eq_false (by omega)
        have z2' : decide (Tb.place l k.data.toList < l.length) = false := decide_eq_false hin
        have FIN := Lib.hid (show Tb.has l k.data.toList = false by rw [HH.out, List.getElem?_eq_none (by omega)]; rfl)
        clear hlt h1 h2 h3 h4 hin q
        go_wp2
        go_quiet (fail)
        have QN := Lib.hid (Keeps.drewN HQ.out nq)
        go_wp2
        go_ret2
        exact ⟨by rw [FIN.out]; rfl, QN.out⟩
end Go.Proofs.YtffjleceogablaaDoor
