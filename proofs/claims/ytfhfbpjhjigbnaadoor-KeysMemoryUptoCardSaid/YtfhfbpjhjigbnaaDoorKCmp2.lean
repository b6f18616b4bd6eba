/-
  The contracts of the reference's order and Compare; Go's order of texts.
-/
import Derived.Test.YtfhfbpjhjigbnaaDoorKCmp
import Derived.Laws.Cover1
import Derived.Deep.RegionHeld3
namespace Go.Proofs.YtfhfbpjhjigbnaaDoor
open Go.RowKit Go.WideShapes
set_option maxRecDepth 100000

theorem bytesLess_eq : ∀ (a b : List UInt8), Op.bytesLess a b = decide (K.cmpB a b < 0)
  | [], [] => rfl
  | [], _ :: _ => rfl
  | _ :: _, [] => rfl
  | a :: x, b :: y => by
    have ih := bytesLess_eq x y
    rw [Op.bytesLess, K.cmpB]
    by_cases h1 : a < b
    · simp [h1]
    · by_cases h2 : b < a
      · have : ¬ a = b := by rintro rfl; exact h1 h2
        simp [h1, h2, this]
      · have : a = b := by
          apply UInt8.toNat_inj.1
          rw [UInt8.lt_iff_toNat_lt] at *
          omega
        subst this
        simp [h1, ih]

/-- How two texts stand, in the walk's words. -/
theorem less_facts (s t : ByteArray) : (K.cmpB s.data.toList t.data.toList = -1 ∧ Op.bytesLess s.toList t.toList = true ∧ (s.toList == t.toList) = false) ∨
    (K.cmpB s.data.toList t.data.toList = 0 ∧ Op.bytesLess s.toList t.toList = false ∧ (s.toList == t.toList) = true) ∨
    (K.cmpB s.data.toList t.data.toList = 1 ∧ Op.bytesLess s.toList t.toList = false ∧ (s.toList == t.toList) = false) := by
  rw [bytesLess_eq, ByteArray.toList_eq, ByteArray.toList_eq]
  have hself := K.cmpB_self s.data.toList
  rcases K.cmpB_range s.data.toList t.data.toList with h | h | h
  · refine .inl ⟨h, by rw [h]; rfl, ?_⟩
    rw [beq_eq_false_iff_ne]
    intro e; rw [← e, hself] at h; cases h
  · refine .inr (.inl ⟨h, by rw [h]; rfl, ?_⟩)
    rw [K.cmpB_zero h]
    simp
  · refine .inr (.inr ⟨h, by rw [h]; rfl, ?_⟩)
    rw [beq_eq_false_iff_ne]
    intro e; rw [← e, hself] at h; cases h

set_option maxHeartbeats 1600000 in
theorem order_any (p q : PD) (w : World) : Calls Tryd.prog 30 #[p.val, q.val] w fun e w' => e = .returned (.int .i64 (K.cmpP p.part q.part)) ∧ Qt w w' := by
  obtain ⟨b1, n1, s1⟩ := p
  obtain ⟨b2, n2, s2⟩ := q
  have HA := Lib.hid (fun o o2 => ((Keeps.refl (fun _ => False) w).alloc o).alloc o2)
  cases b1 <;> cases b2
  · have E := Lib.hid (show K.cmpP (PD.part ⟨false, n1, s1⟩) (PD.part ⟨false, n2, s2⟩) = K.cmpB s1.data.toList s2.data.toList from rfl)
    rcases less_facts s1 s2 with ⟨hc, h1, h2⟩ | ⟨hc, h1, h2⟩ | ⟨hc, h1, h2⟩
    all_goals
      have Hc := Lib.hid hc
      clear hc
      go_enter Tryd.func30, Tryd.ntmps30
      go_wp2
      go_ret
      exact ⟨ret_int (by rw [E.out, Hc.out]), HA.out _ _⟩
  · go_enter Tryd.func30, Tryd.ntmps30
    go_wp2
    go_ret
    exact ⟨rfl, HA.out _ _⟩
  · go_enter Tryd.func30, Tryd.ntmps30
    go_wp2
    go_ret
    exact ⟨rfl, HA.out _ _⟩
  · have hcase : (n1 < n2) ∨ (n2 < n1) ∨ n1 = n2 := by omega
    rcases hcase with h | h | h
    · have E := Lib.hid (show K.cmpP (PD.part ⟨true, n1, s1⟩) (PD.part ⟨true, n2, s2⟩) = -1 by show K.cmpP (.num n1) (.num n2) = -1; rw [K.cmpP, if_pos h])
      go_enter Tryd.func30, Tryd.ntmps30
      go_wp2
      go_ret
      exact ⟨ret_int (by rw [E.out]), HA.out _ _⟩
    · have h2 : ¬ n1 < n2 := by omega
      have E := Lib.hid (show K.cmpP (PD.part ⟨true, n1, s1⟩) (PD.part ⟨true, n2, s2⟩) = 1 by show K.cmpP (.num n1) (.num n2) = 1; rw [K.cmpP, if_neg h2, if_pos h])
      go_enter Tryd.func30, Tryd.ntmps30
      go_wp2
      go_ret
      exact ⟨ret_int (by rw [E.out]), HA.out _ _⟩
    · subst h
      have E := Lib.hid (show K.cmpP (PD.part ⟨true, n1, s1⟩) (PD.part ⟨true, n1, s2⟩) = 0 by show K.cmpP (.num n1) (.num n1) = 0; rw [K.cmpP, if_neg (by omega), if_neg (by omega)])
      go_enter Tryd.func30, Tryd.ntmps30
      go_wp2
      go_ret
      exact ⟨ret_int (by rw [E.out]), HA.out _ _⟩

set_option maxHeartbeats 1600000 in
theorem refCompare_any (v v2 : Value) (g off g2 off2 : Nat) (ps qs : List PD) (w : World) (hs : Parts w v g off ps) (ht : Parts w v2 g2 off2 qs) :
    Calls Tryd.prog 15 #[v, v2] w fun e w' => e = .returned (.int .i64 (K.cmpL (ps.map PD.part) (qs.map PD.part))) ∧ Qt w w' := by
  obtain ⟨a, cap, rfl, ha⟩ := hs.val
  obtain ⟨a2, cap2, rfl, ha2⟩ := ht.val
  have hle := hs.le
  have hle2 := ht.le
  have HS := Lib.hid hs
  have HT := Lib.hid ht
  clear hs ht ha ha2
  go_enter Tryd.func15, Tryd.ntmps15
  go_wp2
  go_loopw [9] (fun i wr => CmpAt ps qs w i wr) (fun i _ => ps.length - (intOf i).toNat)
  case atStart => exact ⟨0, Nat.zero_le _, Nat.zero_le _, rfl, rfl, Qt.refl _⟩
  case round =>
    obtain ⟨k, hk, hk2, rfl, he, hq⟩ := hrel
    have He := Lib.hid he
    have HQ := Lib.hid hq
    by_cases hlt : k < ps.length
    · obtain ⟨p, cap', hpk, hv⟩ := HS.out.elem hlt
      injection hv with hv q1 q2
      clear q1 q2
      subst hv
      obtain ⟨c0, c1, c2⟩ := (HS.out.qt hq).cells k p hpk
      by_cases hlt2 : k < qs.length
      · obtain ⟨q, cap2', hqk, hv⟩ := HT.out.elem hlt2
        injection hv with hv q1 q2
        clear q1 q2
        subst hv
        obtain ⟨d0, d1, d2⟩ := (HT.out.qt hq).cells k q hqk
        have hstep := cmpL_step (part_at hpk) (part_at hqk)
        have Hstep := Lib.hid hstep
        have hne : ((k : Int) == (qs.length : Int)) = false := by simp; omega
        have hb1 : (0 : Int) ≤ (k : Int) := by omega
        have hb2 : (k : Int) < (ps.length : Int) := by omega
        have hb3 : (k : Int) < (qs.length : Int) := by omega
        have HC := Lib.hid (fun (W' : World) (kq : Qt wr.drew W') => show W'.cell? ⟨g, off + k * 3, none⟩ = some (.bool p.b) ∧ W'.cell? ⟨g, off + k * 3 + 1, none⟩ = some (.int .i64 p.n) ∧ W'.cell? ⟨g, off + k * 3 + 2, none⟩ = some (.string p.s) ∧ W'.cell? ⟨g2, off2 + k * 3, none⟩ = some (.bool q.b) ∧ W'.cell? ⟨g2, off2 + k * 3 + 1, none⟩ = some (.int .i64 q.n) ∧ W'.cell? ⟨g2, off2 + k * 3 + 2, none⟩ = some (.string q.s) from
          ⟨kq.cellv c0, kq.cellv c1, kq.cellv c2, kq.cellv d0, kq.cellv d1, kq.cellv d2⟩)
        clear hstep hq he hpk hqk
        go_wp2
        go_region_held3 (fun W' => W'.cell? ⟨g, off + k * 3, none⟩ = some (.bool p.b) ∧ W'.cell? ⟨g, off + k * 3 + 1, none⟩ = some (.int .i64 p.n) ∧ W'.cell? ⟨g, off + k * 3 + 2, none⟩ = some (.string p.s) ∧ W'.cell? ⟨g2, off2 + k * 3, none⟩ = some (.bool q.b) ∧ W'.cell? ⟨g2, off2 + k * 3 + 1, none⟩ = some (.int .i64 q.n) ∧ W'.cell? ⟨g2, off2 + k * 3 + 2, none⟩ = some (.string q.s))
          (first | go_keep | exact HC.out _ k1)
          ((go_at_call 30; refine (order_any p q _).mono ?_; rintro e w1 ⟨rfl, k1⟩))
        have K1 := Lib.hid (Qt.trans (HQ.out.drew) k1)
        clear k1 c0 c1 c2 d0 d1 d2 HC
        by_cases hz : K.cmpP p.part q.part = 0
        · have Hz := Lib.hid hz
          rw [hz]
          clear hz
          go_wp2
          go_roundw
          case rel => exact ⟨k + 1, by omega, by omega, by simp, by rw [He.out, Hstep.out, if_pos Hz.out], K1.out⟩
          case measure => simp [intOf]; omega
        · have hzb : (K.cmpP p.part q.part == 0) = false := by simpa using hz
          go_wp2
          go_ret
          exact ⟨ret_int (by rw [He.out, Hstep.out, if_neg hz]), K1.out⟩
      · obtain rfl : k = qs.length := by omega
        have hov := cmpL_over (a := ps.map PD.part) (b := qs.map PD.part) (k := qs.length) (by simpa using hlt) (by simp)
        have Hov := Lib.hid hov
        clear hov hq he hpk c0 c1 c2
        go_wp2
        go_ret
        exact ⟨ret_int (by rw [He.out, Hov.out]), HQ.out⟩
    · obtain rfl : k = ps.length := by omega
      clear hq he
      by_cases hlt2 : ps.length < qs.length
      · have Hun := Lib.hid (cmpL_under (a := ps.map PD.part) (b := qs.map PD.part) (k := ps.length) (by simp) (by simpa using hlt2))
        go_wp2
        go_ret
        exact ⟨ret_int (by rw [He.out, Hun.out]), HQ.out⟩
      · have Hun := Lib.hid (cmpL_both (a := ps.map PD.part) (b := qs.map PD.part) (k := ps.length) (by simp) (by simp; omega))
        go_wp2
        go_ret
        exact ⟨ret_int (by rw [He.out, Hun.out]), HQ.out⟩
end Go.Proofs.YtfhfbpjhjigbnaaDoor
