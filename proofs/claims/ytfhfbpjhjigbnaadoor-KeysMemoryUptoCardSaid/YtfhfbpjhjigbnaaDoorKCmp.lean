/-
  The contracts of comparePart, slices.CompareFunc at it, Compare.
-/
import Derived.Test.YtfhfbpjhjigbnaaDoorKParts
import Derived.LoopTactic
import Derived.WalkLawsBesides
import Derived.Outline
namespace Go.Proofs.YtfhfbpjhjigbnaaDoor
open Go.RowKit Go.WideShapes
set_option maxRecDepth 100000

theorem ret_int {k : IntKind} {a b : Int} (h : a = b) : Ending.returned (.int k a) = .returned (.int k b) := by rw [h]

theorem isNaN_any (x : Int) (w : World) : Calls Tryd.prog 44 #[.int .i64 x] w fun e w' => e = .returned (.bool false) ∧ w = w' := by
  go_enter Tryd.func44, Tryd.ntmps44
  go_wp2
  go_ret
  exact ⟨rfl, rfl⟩

theorem cmp64_any (a b : Int) (w : World) : Calls Tryd.prog 38 #[.int .i64 a, .int .i64 b] w fun e w' => e = .returned (.int .i64 (K.cmpP (.num a) (.num b))) ∧ w = w' := by
  have hcase : (a < b) ∨ (b < a) ∨ a = b := by omega
  rcases hcase with h | h | h
  · have e : K.cmpP (.num a) (.num b) = -1 := by rw [K.cmpP, if_pos h]
    have E := Lib.hid e; clear e
    go_enter Tryd.func38, Tryd.ntmps38
    go_wp2_with (go_at_call 44; refine (isNaN_any _ _).mono ?_; rintro e w' ⟨rfl, rfl⟩)
    go_ret
    exact ⟨ret_int E.out.symm, rfl⟩
  · have h2 : ¬ a < b := by omega
    have e : K.cmpP (.num a) (.num b) = 1 := by rw [K.cmpP, if_neg h2, if_pos h]
    have E := Lib.hid e; clear e
    go_enter Tryd.func38, Tryd.ntmps38
    go_wp2_with (go_at_call 44; refine (isNaN_any _ _).mono ?_; rintro e w' ⟨rfl, rfl⟩)
    go_ret
    exact ⟨ret_int E.out.symm, rfl⟩
  · subst h
    have e : K.cmpP (.num a) (.num a) = 0 := by rw [K.cmpP, if_neg (by omega), if_neg (by omega)]
    have E := Lib.hid e; clear e
    go_enter Tryd.func38, Tryd.ntmps38
    go_wp2_with (go_at_call 44; refine (isNaN_any _ _).mono ?_; rintro e w' ⟨rfl, rfl⟩)
    go_ret
    exact ⟨ret_int E.out.symm, rfl⟩

set_option maxHeartbeats 800000 in
theorem comparePart_any (p q : PD) (w : World) : Calls Tryd.prog 29 #[p.val, q.val] w fun e w' => e = .returned (.int .i64 (K.cmpP p.part q.part)) ∧ Qt w w' := by
  obtain ⟨b1, n1, s1⟩ := p
  obtain ⟨b2, n2, s2⟩ := q
  have HA := Lib.hid (fun o o2 => ((Keeps.refl (fun _ => False) w).alloc o).alloc o2)
  cases b1 <;> cases b2
  · have E := Lib.hid (show K.cmpP (PD.part ⟨false, n1, s1⟩) (PD.part ⟨false, n2, s2⟩) = Lib.compareBytes s1.data.toList s2.data.toList from K.cmpB_eq _ _)
    go_enter Tryd.func29, Tryd.ntmps29
    go_wp2_with fail
    refine (Tryd.strings_Compare s1 s2 _).mono ?_
    rintro e w' ⟨rfl, hw⟩
    subst hw
    go_wp2
    go_ret
    exact ⟨ret_int E.out.symm, HA.out _ _⟩
  · go_enter Tryd.func29, Tryd.ntmps29
    go_wp2
    go_ret
    exact ⟨rfl, HA.out _ _⟩
  · go_enter Tryd.func29, Tryd.ntmps29
    go_wp2
    go_ret
    exact ⟨rfl, HA.out _ _⟩
  · go_enter Tryd.func29, Tryd.ntmps29
    go_wp2_with fail
    refine (cmp64_any n1 n2 _).mono ?_
    rintro e w' ⟨rfl, rfl⟩
    go_wp2
    go_ret
    exact ⟨rfl, HA.out _ _⟩

theorem cmpL_step {a b : List K.PartD} {k : Nat} {p q : K.PartD} (ha : a[k]? = some p) (hb : b[k]? = some q) : K.cmpL (a.drop k) (b.drop k) = if K.cmpP p q = 0 then K.cmpL (a.drop (k + 1)) (b.drop (k + 1)) else K.cmpP p q := by
  obtain ⟨ha1, ha2⟩ := List.getElem?_eq_some_iff.1 ha
  obtain ⟨hb1, hb2⟩ := List.getElem?_eq_some_iff.1 hb
  rw [List.drop_eq_getElem_cons ha1, List.drop_eq_getElem_cons hb1, K.cmpL, ha2, hb2]
theorem cmpL_over {a b : List K.PartD} {k : Nat} (ha : k < a.length) (hb : b.length ≤ k) : K.cmpL (a.drop k) (b.drop k) = 1 := by
  rw [List.drop_eq_getElem_cons ha, List.drop_eq_nil_of_le hb]; rfl
theorem cmpL_under {a b : List K.PartD} {k : Nat} (ha : a.length ≤ k) (hb : k < b.length) : K.cmpL (a.drop k) (b.drop k) = -1 := by
  rw [List.drop_eq_getElem_cons hb, List.drop_eq_nil_of_le ha]; rfl
theorem cmpL_both {a b : List K.PartD} {k : Nat} (ha : a.length ≤ k) (hb : b.length ≤ k) : K.cmpL (a.drop k) (b.drop k) = 0 := by
  rw [List.drop_eq_nil_of_le ha, List.drop_eq_nil_of_le hb]; rfl

theorem part_at {ps : List PD} {k : Nat} {p : PD} (h : ps[k]? = some p) : (ps.map PD.part)[k]? = some p.part := by rw [List.getElem?_map, h]; rfl

/-- The comparison's loop. -/
def CmpAt (ps qs : List PD) (w : World) (i : Value) (wr : World) : Prop :=
  ∃ k : Nat, k ≤ ps.length ∧ k ≤ qs.length ∧ i = .int .i64 k ∧ K.cmpL (ps.map PD.part) (qs.map PD.part) = K.cmpL ((ps.map PD.part).drop k) ((qs.map PD.part).drop k) ∧ Qt w wr

set_option maxHeartbeats 1600000 in
theorem compareFunc_any (v v2 : Value) (g off g2 off2 : Nat) (ps qs : List PD) (w : World) (hs : Parts w v g off ps) (ht : Parts w v2 g2 off2 qs) :
    Calls Tryd.prog 28 #[v, v2, .func (.func 29) #[] #[]] w fun e w' => e = .returned (.int .i64 (K.cmpL (ps.map PD.part) (qs.map PD.part))) ∧ Qt w w' := by
  obtain ⟨a, cap, rfl, ha⟩ := hs.val
  obtain ⟨a2, cap2, rfl, ha2⟩ := ht.val
  have hle := hs.le
  have hle2 := ht.le
  have HS := Lib.hid hs
  have HT := Lib.hid ht
  clear hs ht ha ha2
  go_enter Tryd.func28, Tryd.ntmps28
  go_wp2
  go_loopw [13] (fun i wr => CmpAt ps qs w i wr) (fun i _ => ps.length - (intOf i).toNat)
  case atStart => exact ⟨0, Nat.zero_le _, Nat.zero_le _, rfl, rfl, Qt.refl _⟩
  case round =>
    obtain ⟨k, hk, hk2, rfl, he, hq⟩ := hrel
    have He := Lib.hid he
    have HQ := Lib.hid hq
    by_cases hlt : k < ps.length
    · obtain ⟨p, cap', hpk, hv⟩ := HS.out.elem hlt
      injection hv with hv q1 q2
      clear q1 q2
      subst hv
      obtain ⟨c0, c1, c2⟩ := (HS.out.qt hq).cells k p hpk
      by_cases hlt2 : k < qs.length
      · obtain ⟨q, cap2', hqk, hv⟩ := HT.out.elem hlt2
        injection hv with hv q1 q2
        clear q1 q2
        subst hv
        obtain ⟨d0, d1, d2⟩ := (HT.out.qt hq).cells k q hqk
        have hg2 := World.block_lt_of_cell? wr _ d0
        simp only at hg2
        have hstep := cmpL_step (part_at hpk) (part_at hqk)
        have Hstep := Lib.hid hstep
        have HA := Lib.hid (fun o o2 => ((Keeps.refl (fun _ => False) wr).alloc o).alloc o2)
        clear hstep hq he hpk hqk
        go_wp2_with fail
        refine (comparePart_any p q _).mono ?_
        rintro e w1 ⟨rfl, k1⟩
        have K1 := Lib.hid (Qt.trans (HQ.out.trans (HA.out _ _)) k1)
        clear k1 c0 c1 c2 d0 d1 d2
        by_cases hz : K.cmpP p.part q.part = 0
        · have Hz := Lib.hid hz
          rw [hz]
          clear hz
          go_wp2
          go_roundw
          case rel => exact ⟨k + 1, by omega, by omega, by simp, by rw [He.out, Hstep.out, if_pos Hz.out], K1.out⟩
          case measure => simp [intOf]; omega
        · have hzb : (K.cmpP p.part q.part == 0) = false := by simpa using hz
          go_wp2
          go_ret
          exact ⟨ret_int (by rw [He.out, Hstep.out, if_neg hz]), K1.out⟩
      · have HA := Lib.hid (fun o => (Keeps.refl (fun _ => False) wr).alloc o)
        have hov := cmpL_over (a := ps.map PD.part) (b := qs.map PD.part) (k := k) (by simpa using hlt) (by simp; omega)
        have Hov := Lib.hid hov
        clear hov hq he hpk
        go_wp2
        go_ret
        exact ⟨ret_int (by rw [He.out, Hov.out]), HQ.out.trans (HA.out _)⟩
    · obtain rfl : k = ps.length := by omega
      clear hq he
      by_cases hlt2 : ps.length < qs.length
      · have Hun := Lib.hid (cmpL_under (a := ps.map PD.part) (b := qs.map PD.part) (k := ps.length) (by simp) (by simpa using hlt2))
        go_wp2
        go_ret
        exact ⟨ret_int (by rw [He.out, Hun.out]), HQ.out⟩
      · have Hun := Lib.hid (cmpL_both (a := ps.map PD.part) (b := qs.map PD.part) (k := ps.length) (by simp) (by simp; omega))
        go_wp2
        go_ret
        exact ⟨ret_int (by rw [He.out, Hun.out]), HQ.out⟩

theorem compare_any (v v2 : Value) (g off g2 off2 : Nat) (ps qs : List PD) (w : World) (hs : Parts w v g off ps) (ht : Parts w v2 g2 off2 qs) :
    Calls Tryd.prog 14 #[v, v2] w fun e w' => e = .returned (.int .i64 (K.cmpL (ps.map PD.part) (qs.map PD.part))) ∧ Qt w w' := by
  go_enter Tryd.func14, Tryd.ntmps14
  go_wp2_with fail
  refine (compareFunc_any v v2 g off g2 off2 ps qs w hs ht).mono ?_
  rintro e w' ⟨rfl, k⟩
  have K := Lib.hid k; clear k
  go_wp2
  go_ret
  exact ⟨rfl, K.out⟩
end Go.Proofs.YtfhfbpjhjigbnaaDoor
