/-
  The document's own batch: the contract of place: a key's place, found by halving.
-/
import Derived.Test.YtffjleceogablaaDoorBRefP
import Derived.Test.YtffjleceogablaaDoorBSameR
import Derived.Laws.Cover1
namespace Go.Proofs.YtffjleceogablaaDoor
open Go.RowKit Go.WideShapes
set_option maxRecDepth 100000

def HvAt (w : World) (l : List Tb.R) (k : Tb.Txt) (lov hiv : Value) (wr : World) : Prop := ∃ lo hi : Nat, lo ≤ hi ∧ hi ≤ l.length ∧ lov = .int .i64 lo ∧ hiv = .int .i64 hi ∧ lo ≤ Tb.place l k ∧ Tb.place l k ≤ hi ∧ Qt w wr
theorem hv_mid {lo hi n : Nat} (h : lo < hi) (hn : hi ≤ n) (hb : n ≤ 17592186044416) : ∃ m : Nat, m = (lo + hi) / 2 ∧ lo ≤ m ∧ m < hi ∧ wrap64 ((lo : Int) + (hi : Int)) = (lo : Int) + (hi : Int) ∧ wrap64 (((lo : Int) + (hi : Int)).tdiv 2) = (m : Int) ∧ wrap64 ((m : Int) + 1) = (m : Int) + 1 ∧ (0 : Int) ≤ (m : Int) ∧ (m : Int) < (n : Int) := by
  refine ⟨(lo + hi) / 2, rfl, ?_, ?_, ?_, ?_, ?_, ?_, ?_⟩
  · omega
  · omega
  · unfold wrap64; omega
  · rw [Int.tdiv_eq_ediv_of_nonneg (by omega)]; unfold wrap64; omega
  · unfold wrap64; omega
  · omega
  · omega
theorem place_up {l : List Tb.R} {k : Tb.Txt} (hs : Tb.Sorted l) {m : Nat} {r : Tb.R} (hr : l[m]? = some r) (h : Tb.lt r.1 k = true) : m + 1 ≤ Tb.place l k := by
  rcases Nat.lt_or_ge m (Tb.place l k) with e | e
  · exact e
  · obtain ⟨h1, _⟩ := List.getElem?_eq_some_iff.1 hr
    have h2 : (l[Tb.place l k]?) = some (l[Tb.place l k]'(by omega)) := List.getElem?_eq_getElem (by omega)
    have h3 := Tb.sorted_below hs h2 hr e h
    rw [Tb.place_at h2] at h3
    cases h3
theorem place_dn {l : List Tb.R} {k : Tb.Txt} {m : Nat} {r : Tb.R} (hr : l[m]? = some r) (h : Tb.lt r.1 k = false) : Tb.place l k ≤ m := by
  rcases Nat.lt_or_ge m (Tb.place l k) with e | e
  · obtain ⟨r', hr', h'⟩ := Tb.place_lt e
    rw [hr] at hr'
    rw [← Option.some.inj hr', h] at h'
    cases h'
  · exact e
theorem hv_meas {lo hi lo2 hi2 : Nat} (h : hi2 - lo2 < hi - lo) : (intOf (.int .i64 (hi2 : Int))).toNat - (intOf (.int .i64 (lo2 : Int))).toNat < (intOf (.int .i64 (hi : Int))).toNat - (intOf (.int .i64 (lo : Int))).toNat := by
  simp only [intOf, Int.toNat_natCast]
  exact h
set_option maxHeartbeats 1600000 in
theorem rplace12_any {v : Value} {g o : Nat} {l : List Tb.R} (k : ByteArray) (w : World) (hr : RowsIn w v g o l) (hs : Tb.Sorted l) :
    Calls Tryd.prog 32 #[v, .string k] w fun e w' => e = .returned (.tuple #[.int .i64 (Tb.place l k.data.toList : Int), .bool (Tb.has l k.data.toList)]) ∧ Qt w w' := by
  have HR := Lib.hid hr
  have HLE := Lib.hid hr.le
  have HS := Lib.hid hs
  obtain ⟨a, cap, rfl, ha⟩ := hr.val
  clear hr ha hs
  have PB := Lib.hid (Tb.place_le l k.data.toList)
  have START := Lib.hid (show HvAt w l k.data.toList (.int .i64 0) (.int .i64 (l.length : Int)) w from ⟨0, l.length, Nat.zero_le _, Nat.le_refl _, rfl, rfl, Nat.zero_le _, PB.out, Qt.refl _⟩)
  go_enter Tryd.func32, Tryd.ntmps32
  go_wp2
  go_loopw [6, 7] (fun lv hv wr => HvAt w l k.data.toList lv hv wr) (fun lv hv _ => (intOf hv).toNat - (intOf lv).toNat)
  case atStart => exact START.out
  case round =>
    obtain ⟨lo, hi, h1, h2, rfl, rfl, h3, h4, q⟩ := hrel
    have HQ := Lib.hid q
    by_cases hlt : lo < hi
    · have zlt : decide ((lo : Int) < (hi : Int)) = true := decide_eq_true (by omega)
      have zlt' : decide (lo < hi) = true := decide_eq_true hlt
      obtain ⟨m, hm, m1, m2, w1, w2, w4, k0, k1⟩ := hv_mid hlt h2 HLE.out
      clear hm
      obtain ⟨r, c1, hri, e0⟩ := HR.out.elem (k := m) (by omega)
      injection e0 with e0 q1 q2
      clear q1 q2
      subst e0
      obtain ⟨x1, _⟩ := HR.out.cell hri
      have x1 := q.cellv x1
      obtain ⟨K, hK, hKl⟩ : ∃ K : ByteArray, strV r.1 = .string K ∧ K.data.toList = r.1 := ⟨⟨r.1.toArray⟩, rfl, rfl⟩
      rw [hK] at x1
      cases hp : Tb.lt r.1 k.data.toList with
      | true =>
        have zk : Op.bytesLess K.toList k.toList = true := by rw [ByteArray.toList_eq, ByteArray.toList_eq, hKl]; exact hp
        have FN := Lib.hid (show HvAt w l k.data.toList (.int .i64 ((m : Int) + 1)) (.int .i64 (hi : Int)) wr from ⟨m + 1, hi, m2, h2, by push_cast; rfl, rfl, place_up HS.out hri hp, h4, HQ.out⟩)
        have HM := Lib.hid (hv_meas (lo := lo) (hi := hi) (lo2 := m + 1) (hi2 := hi) (by omega))
        clear hK hKl hri hp hlt h1 h2 h3 h4 m1 m2 q
        go_wp2
        rw [w4]
        exact ⟨FN.out, HM.out⟩
      | false =>
        have zk : Op.bytesLess K.toList k.toList = false := by rw [ByteArray.toList_eq, ByteArray.toList_eq, hKl]; exact hp
        have FN := Lib.hid (show HvAt w l k.data.toList (.int .i64 (lo : Int)) (.int .i64 (m : Int)) wr from ⟨lo, m, m1, by omega, rfl, rfl, h3, place_dn hri hp, HQ.out⟩)
        have HM := Lib.hid (hv_meas (lo := lo) (hi := hi) (lo2 := lo) (hi2 := m) (by omega))
        clear hK hKl hri hp hlt h1 h2 h3 h4 m1 m2 q
        go_wp2
        rw [w2]
        exact ⟨FN.out, HM.out⟩
    · obtain rfl : lo = hi := by omega
      obtain rfl : lo = Tb.place l k.data.toList := by omega
      have zlt : decide ((Tb.place l k.data.toList : Int) < (Tb.place l k.data.toList : Int)) = false := decide_eq_false (by omega)
      have zlt' : decide (Tb.place l k.data.toList < Tb.place l k.data.toList) = false := decide_eq_false (by omega)
      have HH := Lib.hid (Tb.has_place HS.out k.data.toList)
      by_cases hin : Tb.place l k.data.toList < l.length
      · have z2 : decide ((Tb.place l k.data.toList : Int) < (l.length : Int)) = true := decide_eq_true (by omega)
        have z2' : decide (Tb.place l k.data.toList < l.length) = true := decide_eq_true hin
        obtain ⟨r, c1, hri, e0⟩ := HR.out.elem hin
        injection e0 with e0 q1 q2
        clear q1 q2
        subst e0
        obtain ⟨x1, _⟩ := HR.out.cell hri
        have x1 := q.cellv x1
        obtain ⟨K, hK, hKl⟩ : ∃ K : ByteArray, strV r.1 = .string K ∧ K.data.toList = r.1 := ⟨⟨r.1.toArray⟩, rfl, rfl⟩
        rw [hK] at x1
        have k0 : (0 : Int) ≤ (Tb.place l k.data.toList : Int) := by omega
        have k1 : (Tb.place l k.data.toList : Int) < (l.length : Int) := by omega
        have FIN := Lib.hid (show (K.toList == k.toList) = Tb.has l k.data.toList by rw [HH.out, hri, ByteArray.toList_eq, ByteArray.toList_eq, hKl]; rfl)
        clear hK hKl hri hlt h1 h2 h3 h4 hin q
        go_wp2
        go_quiet (fail)
        have QN := Lib.hid (Keeps.drewN HQ.out nq)
        go_wp2
        go_ret2
        exact ⟨by rw [FIN.out]; rfl, QN.out⟩
      · have z2 : decide ((Tb.place l k.data.toList : Int) < (l.length : Int)) = false := decide_eq_false (by omega)
        have z2' : decide (Tb.place l k.data.toList < l.length) = false := decide_eq_false hin
        have FIN := Lib.hid (show Tb.has l k.data.toList = false by rw [HH.out, List.getElem?_eq_none (by omega)]; rfl)
        clear hlt h1 h2 h3 h4 hin q
        go_wp2
        go_quiet (fail)
        have QN := Lib.hid (Keeps.drewN HQ.out nq)
        go_wp2
        go_ret2
        exact ⟨by rw [FIN.out]; rfl, QN.out⟩
end Go.Proofs.YtffjleceogablaaDoor
