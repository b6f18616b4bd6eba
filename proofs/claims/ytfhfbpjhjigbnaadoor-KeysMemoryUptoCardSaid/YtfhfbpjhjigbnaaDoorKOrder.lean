/-
  The contract of remitlaw02.KeysOrder: it answers true.
-/
import Derived.Test.YtfhfbpjhjigbnaaDoorKJoins
import Derived.Test.YtfhfbpjhjigbnaaDoorKSame
namespace Go.Proofs.YtfhfbpjhjigbnaaDoor
open Go.RowKit Go.WideShapes
set_option maxRecDepth 100000

theorem less_of (s t : ByteArray) (c : Int) (h : K.cmpB s.data.toList t.data.toList = c) : Op.bytesLess s.toList t.toList = decide (c < 0) ∧ (s.toList == t.toList) = decide (c = 0) := by
  rcases less_facts s t with ⟨h1, h2, h3⟩ | ⟨h1, h2, h3⟩ | ⟨h1, h2, h3⟩ <;> (rw [h1] at h; subst h; rw [h2, h3]; exact ⟨rfl, rfl⟩)

theorem dm1 : decide ((-1 : Int) = 0) = false := rfl
theorem dz1 : decide ((0 : Int) = 0) = true := rfl
theorem dp1 : decide ((1 : Int) = 0) = false := rfl
theorem dm2 : decide ((-1 : Int) < 0) = true := rfl
theorem dz2 : decide ((0 : Int) < 0) = false := rfl
theorem dp2 : decide ((1 : Int) < 0) = false := rfl

theorem ok_parts {ps : List PD} (h : ∀ p ∈ ps, p.Ok) : ∀ p ∈ ps.map PD.part, p.Ok := by
  intro p hp
  obtain ⟨q, hq, rfl⟩ := List.mem_map.1 hp
  exact (h q hq).part
theorem cmp_key {ps qs : List PD} (hp : ∀ p ∈ ps, p.Ok) (hq : ∀ p ∈ qs, p.Ok) : K.cmpB (⟨(K.joinB (ps.map PD.part)).toArray⟩ : ByteArray).data.toList (⟨(K.joinB (qs.map PD.part)).toArray⟩ : ByteArray).data.toList = K.cmpL (ps.map PD.part) (qs.map PD.part) :=
  K.cmp_join (ok_parts hp) (ok_parts hq)

theorem cmpL_facts {ps qs : List PD} (hp : ∀ p ∈ ps, p.Ok) (hq : ∀ p ∈ qs, p.Ok) : (K.cmpL (ps.map PD.part) (qs.map PD.part) = -1 ∨ K.cmpL (ps.map PD.part) (qs.map PD.part) = 0 ∨ K.cmpL (ps.map PD.part) (qs.map PD.part) = 1) ∧ K.cmpL (qs.map PD.part) (ps.map PD.part) = -K.cmpL (ps.map PD.part) (qs.map PD.part) ∧ sameB ps qs = decide (K.cmpL (ps.map PD.part) (qs.map PD.part) = 0) := by
  rw [← cmp_key hp hq, ← cmp_key hq hp]
  refine ⟨K.cmpB_range _ _, K.cmpB_swap _ _, ?_⟩
  rw [Bool.eq_iff_iff, sameB_iff, decide_eq_true_eq]
  constructor
  · intro h; rw [h]; exact K.cmpB_self _
  · intro h
    have h1 : K.joinB (ps.map PD.part) = K.joinB (qs.map PD.part) := K.cmpB_zero h
    have h2 := K.splitB_join (ok_parts hp)
    rw [h1, K.splitB_join (ok_parts hq)] at h2
    exact (Option.some.inj h2).symm

set_option maxHeartbeats 6400000 in
theorem korder_any (m : Int) (v v2 v3 : Value) (g off g2 off2 g3 off3 : Nat) (ps qs rs : List PD) (w : World) (hm : MaxL m w) (hs : Parts w v g off ps) (ht : Parts w v2 g2 off2 qs) (hu : Parts w v3 g3 off3 rs) (hp : ∀ p ∈ ps, p.Ok) (hq : ∀ p ∈ qs, p.Ok) (hr : ∀ p ∈ rs, p.Ok)
    (hlp : (K.joinB (ps.map PD.part)).length ≤ 1099511627776) (hlq : (K.joinB (qs.map PD.part)).length ≤ 1099511627776) (hlr : (K.joinB (rs.map PD.part)).length ≤ 1099511627776) :
    Calls Tryd.prog 5 #[v, v2, v3] w fun e w' => e = .returned (.bool true) ∧ Qt w w' := by
  obtain ⟨hab, hba, hsm⟩ := cmpL_facts hp hq
  obtain ⟨hbc, _, _⟩ := cmpL_facts hq hr
  obtain ⟨hac, _, _⟩ := cmpL_facts hp hr
  have haa : K.cmpL (ps.map PD.part) (ps.map PD.part) = 0 := by rw [← cmp_key hp hp]; exact K.cmpB_self _
  have htr : K.cmpL (ps.map PD.part) (qs.map PD.part) ≤ 0 → K.cmpL (qs.map PD.part) (rs.map PD.part) ≤ 0 → K.cmpL (ps.map PD.part) (rs.map PD.part) ≤ 0 := by
    rw [← cmp_key hp hq, ← cmp_key hq hr, ← cmp_key hp hr]; exact K.cmpB_trans
  have l1 := less_of _ _ _ (cmp_key hp hq)
  have l2 := less_of _ _ _ (cmp_key hq hr)
  have l3 := less_of _ _ _ (cmp_key hp hr)
  have Jx := Lib.hid (fun W (k : Qt w W) => join_any m v g off ps W (k.cellv hm) (hs.qt k) hp hlp)
  have Jy := Lib.hid (fun W (k : Qt w W) => join_any m v2 g2 off2 qs W (k.cellv hm) (ht.qt k) hq hlq)
  have Jz := Lib.hid (fun W (k : Qt w W) => join_any m v3 g3 off3 rs W (k.cellv hm) (hu.qt k) hr hlr)
  have Cab := Lib.hid (fun W (k : Qt w W) => compare_any v v2 g off g2 off2 ps qs W (hs.qt k) (ht.qt k))
  have Cba := Lib.hid (fun W (k : Qt w W) => compare_any v2 v g2 off2 g off qs ps W (ht.qt k) (hs.qt k))
  have Cbc := Lib.hid (fun W (k : Qt w W) => compare_any v2 v3 g2 off2 g3 off3 qs rs W (ht.qt k) (hu.qt k))
  have Cac := Lib.hid (fun W (k : Qt w W) => compare_any v v3 g off g3 off3 ps rs W (hs.qt k) (hu.qt k))
  have Caa := Lib.hid (fun W (k : Qt w W) => compare_any v v g off g off ps ps W (hs.qt k) (hs.qt k))
  have Sab := Lib.hid (fun W (k : Qt w W) => same_any v v2 g off g2 off2 ps qs W (hs.qt k) (ht.qt k))
  have Li := Lib.hid (lives_any m w hm)
  rw [hba] at Cba
  rw [haa] at Caa
  rw [hsm] at Sab
  generalize K.cmpL (ps.map PD.part) (qs.map PD.part) = ab at *
  generalize K.cmpL (qs.map PD.part) (rs.map PD.part) = bc at *
  generalize K.cmpL (ps.map PD.part) (rs.map PD.part) = ac at *
  generalize (⟨(K.joinB (ps.map PD.part)).toArray⟩ : ByteArray) = X at *
  generalize (⟨(K.joinB (qs.map PD.part)).toArray⟩ : ByteArray) = Y at *
  generalize (⟨(K.joinB (rs.map PD.part)).toArray⟩ : ByteArray) = Z at *
  have L1 := Lib.hid l1
  have L2 := Lib.hid l2
  have L3 := Lib.hid l3
  clear hba hsm haa l1 l2 l3 hm hs ht hu hp hq hr hlp hlq hlr
  go_enter Tryd.func5, Tryd.ntmps5
  go_wp2_with fail
  refine Li.out.mono ?_
  rintro e w1 ⟨rfl, k1⟩
  have K1 := Lib.hid k1; clear k1
  go_wp2_with fail
  refine (Jx.out _ K1.out).mono ?_
  rintro e w2 ⟨rfl, k2⟩
  have K2 := Lib.hid (Qt.trans K1.out k2); clear k2 K1
  go_wp2_with fail
  refine (Jy.out _ K2.out).mono ?_
  rintro e w3 ⟨rfl, k3⟩
  have K3 := Lib.hid (Qt.trans K2.out k3); clear k3 K2
  go_wp2_with fail
  refine (Jz.out _ K3.out).mono ?_
  rintro e w4 ⟨rfl, k4⟩
  have K4 := Lib.hid (Qt.trans K3.out k4); clear k4 K3
  go_wp2_with fail
  refine (Cab.out _ K4.out).mono ?_
  rintro e w5 ⟨rfl, k5⟩
  have K5 := Lib.hid (Qt.trans K4.out k5); clear k5 K4
  go_wp2_with fail
  refine (Cba.out _ K5.out).mono ?_
  rintro e w6 ⟨rfl, k6⟩
  have K6 := Lib.hid (Qt.trans K5.out k6); clear k6 K5
  go_wp2_with fail
  refine (Cbc.out _ K6.out).mono ?_
  rintro e w7 ⟨rfl, k7⟩
  have K7 := Lib.hid (Qt.trans K6.out k7); clear k7 K6
  go_wp2_with fail
  refine (Cac.out _ K7.out).mono ?_
  rintro e w8 ⟨rfl, k8⟩
  have K8 := Lib.hid (Qt.trans K7.out k8); clear k8 K7 Cab Cba Cbc Cac Jx Jy Jz
  rcases hab with rfl | rfl | rfl
  all_goals
    have a1 := L1.out.1
    have a2 := L1.out.2
    simp only [dm1, dz1, dp1, dm2, dz2, dp2] at a1 a2 Sab
    go_wp2_with fail
    refine (Caa.out _ K8.out).mono ?_
    rintro e w9 ⟨rfl, k9⟩
    have K9 := Lib.hid (Qt.trans K8.out k9); clear k9 K8
    go_wp2_with fail
    refine (Sab.out _ K9.out).mono ?_
    rintro e w10 ⟨rfl, k10⟩
    have K10 := Lib.hid (Qt.trans K9.out k10); clear k10 K9
    rcases hbc with rfl | rfl | rfl
    all_goals
      have b1 := L2.out.1
      simp only [dm2, dz2, dp2] at b1
      rcases hac with rfl | rfl | rfl
      all_goals first
        | (exfalso; simp at htr; done)
        | (have c1 := L3.out.1
           simp only [dm2, dz2, dp2] at c1
           clear htr
           go_wp2
           go_ret
           exact ⟨rfl, K10.out⟩)
end Go.Proofs.YtfhfbpjhjigbnaaDoor
