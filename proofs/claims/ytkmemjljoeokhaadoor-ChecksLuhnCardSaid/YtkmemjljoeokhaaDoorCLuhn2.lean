/-
  The contract of remitlaw03.ChecksLuhn: it answers true.
-/
import Derived.Test.YtkmemjljoeokhaaDoorCSlips
import Derived.Test.YtkmemjljoeokhaaDoorCRests
import Derived.IntWalk
namespace Go.Proofs.YtkmemjljoeokhaaDoor
open Go.RowKit Go.WideShapes
set_option maxRecDepth 100000

theorem not_empty {s : ByteArray} {c : UInt8} {a r : List UInt8} (h : s.data.toList = a ++ c :: r) : s.toList.isEmpty = false := by
  rw [Lib.toList_data, h]; simp

/-- What the first slip's text leads to. -/
def One (m : Nat) (x : ByteArray) : Prop := x = ⟨#[]⟩ ∨ (x.toList.isEmpty = false ∧ ∃ n, C.luhnB x.data.toList = some n ∧ n ≠ m)
theorem one_of {s : ByteArray} {j : Nat} {d : UInt8} {hj : j < s.size} {m : Nat} (h : C.luhnB s.data.toList = some m) (hg : C.allDig s.data.toList = true) (hd : C.isDig d = true) : One m (slip1 s j d hj) := by
  rcases slip1_list s j d hj with e | ⟨hne, _, e1, e2⟩
  · exact .inl e
  · right
    refine ⟨not_empty e1, ?_⟩
    rw [e2] at hg
    obtain ⟨m', n, h1, h2, h3⟩ := C.luhnB_one hg hd (Ne.symm hne)
    rw [← e2, h] at h1
    obtain rfl := Option.some.inj h1
    exact ⟨n, by rw [e1]; exact h2, h3⟩
/-- .. and the second's. -/
def Two (s : ByteArray) (j m : Nat) (x : ByteArray) : Prop := x = ⟨#[]⟩ ∨ ∃ h : j + 1 < s.size, x.toList.isEmpty = false ∧
  ((s[j].toNat + s[j + 1].toNat ≠ 105 ∧ ∃ n, C.luhnB x.data.toList = some n ∧ n ≠ m) ∨
   (s[j].toNat + s[j + 1].toNat = 105 ∧ s[j].toNat ≠ 48 ∧ s[j].toNat ≠ 57 ∧ ∃ n, C.luhnB x.data.toList = some n ∧ n ≠ m) ∨
   (s[j].toNat + s[j + 1].toNat = 105 ∧ s[j].toNat = 48) ∨ (s[j].toNat + s[j + 1].toNat = 105 ∧ s[j].toNat = 57))
theorem two_of {s : ByteArray} {j m : Nat} (h : C.luhnB s.data.toList = some m) (hg : C.allDig s.data.toList = true) : Two s j m (slip2 s j) := by
  rcases slip2_list s j with e | ⟨hj, hne, _, e1, e2⟩
  · exact .inl e
  · right
    refine ⟨hj, not_empty e1, ?_⟩
    have key : ¬ (s[j] = 48 ∧ s[j + 1] = 57) → ¬ (s[j] = 57 ∧ s[j + 1] = 48) → ∃ n, C.luhnB (slip2 s j).data.toList = some n ∧ n ≠ m := by
      intro k1 k2
      rw [e2] at hg
      obtain ⟨m', n, h1, h2, h3⟩ := C.luhnB_swap hg hne k1 k2
      rw [← e2, h] at h1
      obtain rfl := Option.some.inj h1
      exact ⟨n, by rw [e1]; exact h2, h3⟩
    by_cases hs : s[j].toNat + s[j + 1].toNat = 105
    · by_cases h48 : s[j].toNat = 48
      · exact .inr (.inr (.inl ⟨hs, h48⟩))
      · by_cases h57 : s[j].toNat = 57
        · exact .inr (.inr (.inr ⟨hs, h57⟩))
        · exact .inr (.inl ⟨hs, h48, h57, key (fun k => h48 (by rw [k.1]; rfl)) (fun k => h57 (by rw [k.1]; rfl))⟩)
    · exact .inl ⟨hs, key (fun k => hs (by rw [k.1, k.2]; rfl)) (fun k => hs (by rw [k.1, k.2]; rfl))⟩

theorem luhnB_good {s : List UInt8} {m : Nat} (h : C.luhnB s = some m) : s ≠ [] ∧ C.allDig s = true ∧ m < 10 := by
  unfold C.luhnB at h
  split at h
  · rename_i k
    injection h with h
    exact ⟨k.1, k.2, by rw [← h]; exact C.luhn_lt _⟩
  · cases h

set_option maxHeartbeats 6400000 in
theorem luhnLaw_any (ad : Nat → Addr) (s : ByteArray) (a : Int) (c : Nat) (w : World) (hz : s.size ≤ 140737488351232) (hc : c < 256) (hE : Errs ad w) (hT : Tab w) :
    Calls Tryd.prog 8 #[.string s, .int .i64 a, .int .u8 c] w fun e w' => e = .returned (.bool true) ∧ Qt w w' := by
  have hs : s.size ≤ maxLen := by unfold maxLen; omega
  have hE' := fun (W : World) (k : Qt w W) => hE.kept k (OffErrs.none ad)
  have HL := Lib.hid (lives_any (ad 7) w hE.form hT)
  have L1 := Lib.hid (fun W (k : Qt w W) => luhn_any (ad 7) s W hs (hE' W k).form)
  cases hr : C.luhnB s.data.toList with
  | none =>
    have NU := Lib.hid (fun W (k : Qt w W) => num_any ad 7 W (hE' W k) (by decide))
    rw [luhnV_none hr] at L1
    rw [errV_form] at NU
    clear hr hT hE hE' hs
    go_enter Tryd.func8, Tryd.ntmps8
    go_wp2_with fail
    refine HL.out.mono ?_
    rintro e w1 ⟨rfl, k1⟩
    have K1 := Lib.hid k1; clear k1
    go_wp2_with fail
    refine (L1.out _ K1.out).mono ?_
    rintro e w2 ⟨rfl, k2⟩
    have K2 := Lib.hid (Qt.trans K1.out k2); clear k2
    go_wp2_with fail
    refine (NU.out _ K2.out).mono ?_
    rintro e w3 ⟨rfl, k3⟩
    have K3 := Lib.hid (Qt.trans K2.out k3); clear k3
    go_wp2
    go_ret
    exact ⟨by simp, K3.out⟩
  | some m =>
    obtain ⟨hne, hg, hm⟩ := luhnB_good hr
    have hpos : 0 < s.size := by
      have h0 : 0 < s.data.toList.length := List.length_pos_iff.2 hne
      exact h0
    obtain ⟨j, hj, hja⟩ := cut_at a hpos (by omega)
    obtain ⟨d, hd, hdv⟩ : ∃ d : UInt8, C.isDig d = true ∧ (48 : Int) + (c : Int) % 10 = (d.toNat : Int) := by
      have hn : (48 + c % 10).toUInt8.toNat = 48 + c % 10 := by rw [Nat.toUInt8, UInt8.toNat_ofNat']; exact Nat.mod_eq_of_lt (by omega)
      exact ⟨(48 + c % 10).toUInt8, by unfold C.isDig; rw [hn]; exact decide_eq_true (by omega), by rw [hn]; omega⟩
    have P1 := one_of (hj := hj) hr hg hd
    have P2 := two_of (j := j) hr hg
    have z1 := slip1_size (s := s) (k := j) (c := d) (hk := hj)
    have z2 := slip2_size (s := s) (k := j)
    have SL := Lib.hid (fun W => slip_any s j d hj W (by omega))
    have HD := Lib.hid hdv
    have NL := Lib.hid (fun (x : ByteArray) (n : Nat) (h : C.luhnB x.data.toList = some n) (hx : x.size ≤ s.size) W (k : Qt w W) => by
      have := luhn_any (ad 7) x W (by omega) (hE' W k).form
      rw [luhnV_some h] at this
      exact this)
    rw [luhnV_some hr] at L1
    generalize slip1 s j d hj = X1 at *
    generalize slip2 s j = X2 at *
    have d1 : decide ((m : Int) < 0) = false := by simp
    have d2 : decide (9 < (m : Int)) = false := by simp; omega
    have d3 : ((s.size : Int) == 0) = false := by rw [beq_eq_false_iff_ne]; omega
    clear hr hne hg hd hdv hT hE hE' hs
    go_enter Tryd.func8, Tryd.ntmps8
    go_wp2_with fail
    refine HL.out.mono ?_
    rintro e w1 ⟨rfl, k1⟩
    have K1 := Lib.hid k1; clear k1
    go_wp2_with fail
    refine (L1.out _ K1.out).mono ?_
    rintro e w2 ⟨rfl, k2⟩
    have K2 := Lib.hid (Qt.trans K1.out k2); clear k2
    go_wp2_with fail
    rw [HD.out]
    refine (SL.out _).mono ?_
    rintro e w3 ⟨rfl, k3⟩
    have K3 := Lib.hid (Qt.trans K2.out k3); clear k3
    rcases P1 with rfl | ⟨i1, n1, hn1, hm1⟩
    · go_wp2
      rcases P2 with rfl | ⟨h2, i2, P2⟩
      · go_quiet (fail)
        go_wp2
        go_ret
        exact ⟨rfl, K3.out.drewN _⟩
      · have i3 : (!X2.toList.isEmpty) = true := by rw [i2]; rfl
        rcases P2 with ⟨f1, n2, hn2, hm2⟩ | ⟨f1, f2, f3, n2, hn2, hm2⟩ | ⟨f1, f2⟩ | ⟨f1, f2⟩
        · have C2 := Lib.hid hn2
          have b1 : ((s[j].toNat : Int) + (s[j + 1].toNat : Int) != 105) = true := by rw [bne_iff_ne]; omega
          have b2 : ((n2 : Int) != (m : Int)) = true := by rw [bne_iff_ne]; omega
          clear hn2 hm2 f1
          have hb1 := s[j].toNat_lt
          have hb2 := s[j + 1].toNat_lt
          have a1 : IntKind.i64.wrap ((j : Int) + 1) = (j : Int) + 1 := IntWalk.i64_in _ (by omega)
          have a2 : (0 : Int) ≤ (j : Int) + 1 := by omega
          have a3 : ((j : Int) + 1).toNat = j + 1 := by omega
          have a4 : (j : Int) + 1 < (s.size : Int) := by omega
          have a5 : IntKind.i64.wrap ((s[j].toNat : Int) + (s[j + 1].toNat : Int)) = (s[j].toNat : Int) + (s[j + 1].toNat : Int) := IntWalk.i64_in _ (by omega)
          go_quiet (fail)
          clear a1 a5
          go_wp2_with fail
          refine (NL.out X2 n2 C2.out z2 _ (K3.out.drewN _)).mono ?_
          rintro e w8 ⟨rfl, k8⟩
          have K8 := Lib.hid (Qt.trans (K3.out.drewN _) k8); clear k8
          go_wp2
          go_ret
          exact ⟨by simp, K8.out⟩
        · have C2 := Lib.hid hn2
          have b1 : ((s[j].toNat : Int) + (s[j + 1].toNat : Int) != 105) = false := by rw [bne_eq_false_iff_eq]; omega
          have b2 : ((n2 : Int) != (m : Int)) = true := by rw [bne_iff_ne]; omega
          have b3 : ((s[j].toNat : Int) != 48) = true := by rw [bne_iff_ne]; omega
          have b4 : ((s[j].toNat : Int) != 57) = true := by rw [bne_iff_ne]; omega
          clear hn2 hm2 f1 f2 f3
          have hb1 := s[j].toNat_lt
          have hb2 := s[j + 1].toNat_lt
          have a1 : IntKind.i64.wrap ((j : Int) + 1) = (j : Int) + 1 := IntWalk.i64_in _ (by omega)
          have a2 : (0 : Int) ≤ (j : Int) + 1 := by omega
          have a3 : ((j : Int) + 1).toNat = j + 1 := by omega
          have a4 : (j : Int) + 1 < (s.size : Int) := by omega
          have a5 : IntKind.i64.wrap ((s[j].toNat : Int) + (s[j + 1].toNat : Int)) = (s[j].toNat : Int) + (s[j + 1].toNat : Int) := IntWalk.i64_in _ (by omega)
          go_quiet (fail)
          clear a1 a5
          go_wp2_with fail
          refine (NL.out X2 n2 C2.out z2 _ (K3.out.drewN _)).mono ?_
          rintro e w8 ⟨rfl, k8⟩
          have K8 := Lib.hid (Qt.trans (K3.out.drewN _) k8); clear k8
          go_wp2
          go_ret
          exact ⟨by simp, K8.out⟩
        · have b1 : ((s[j].toNat : Int) + (s[j + 1].toNat : Int) != 105) = false := by rw [bne_eq_false_iff_eq]; omega
          have b3 : ((s[j].toNat : Int) != 48) = false := by rw [bne_eq_false_iff_eq]; omega
          clear f1 f2
          have hb1 := s[j].toNat_lt
          have hb2 := s[j + 1].toNat_lt
          have a1 : IntKind.i64.wrap ((j : Int) + 1) = (j : Int) + 1 := IntWalk.i64_in _ (by omega)
          have a2 : (0 : Int) ≤ (j : Int) + 1 := by omega
          have a3 : ((j : Int) + 1).toNat = j + 1 := by omega
          have a4 : (j : Int) + 1 < (s.size : Int) := by omega
          have a5 : IntKind.i64.wrap ((s[j].toNat : Int) + (s[j + 1].toNat : Int)) = (s[j].toNat : Int) + (s[j + 1].toNat : Int) := IntWalk.i64_in _ (by omega)
          go_quiet (fail)
          clear a1 a5
          go_wp2
          go_ret
          exact ⟨rfl, K3.out.drewN _⟩
        · have b1 : ((s[j].toNat : Int) + (s[j + 1].toNat : Int) != 105) = false := by rw [bne_eq_false_iff_eq]; omega
          have b3 : ((s[j].toNat : Int) != 48) = true := by rw [bne_iff_ne]; omega
          have b4 : ((s[j].toNat : Int) != 57) = false := by rw [bne_eq_false_iff_eq]; omega
          clear f1 f2
          have hb1 := s[j].toNat_lt
          have hb2 := s[j + 1].toNat_lt
          have a1 : IntKind.i64.wrap ((j : Int) + 1) = (j : Int) + 1 := IntWalk.i64_in _ (by omega)
          have a2 : (0 : Int) ≤ (j : Int) + 1 := by omega
          have a3 : ((j : Int) + 1).toNat = j + 1 := by omega
          have a4 : (j : Int) + 1 < (s.size : Int) := by omega
          have a5 : IntKind.i64.wrap ((s[j].toNat : Int) + (s[j + 1].toNat : Int)) = (s[j].toNat : Int) + (s[j + 1].toNat : Int) := IntWalk.i64_in _ (by omega)
          go_quiet (fail)
          clear a1 a5
          go_wp2
          go_ret
          exact ⟨rfl, K3.out.drewN _⟩
    · have i4 : (!X1.toList.isEmpty) = true := by rw [i1]; rfl
      have C1 := Lib.hid hn1
      have b0 : ((n1 : Int) == (m : Int)) = false := by rw [beq_eq_false_iff_ne]; omega
      clear hn1 hm1
      go_wp2_with fail
      refine (NL.out X1 n1 C1.out z1 _ K3.out).mono ?_
      rintro e w4 ⟨rfl, k4⟩
      have K4 := Lib.hid (Qt.trans K3.out k4); clear k4
      go_wp2
      rcases P2 with rfl | ⟨h2, i2, P2⟩
      · go_quiet (fail)
        go_wp2
        go_ret
        exact ⟨rfl, K4.out.drewN _⟩
      · have i3 : (!X2.toList.isEmpty) = true := by rw [i2]; rfl
        rcases P2 with ⟨f1, n2, hn2, hm2⟩ | ⟨f1, f2, f3, n2, hn2, hm2⟩ | ⟨f1, f2⟩ | ⟨f1, f2⟩
        · have C2 := Lib.hid hn2
          have b1 : ((s[j].toNat : Int) + (s[j + 1].toNat : Int) != 105) = true := by rw [bne_iff_ne]; omega
          have b2 : ((n2 : Int) != (m : Int)) = true := by rw [bne_iff_ne]; omega
          clear hn2 hm2 f1
          have hb1 := s[j].toNat_lt
          have hb2 := s[j + 1].toNat_lt
          have a1 : IntKind.i64.wrap ((j : Int) + 1) = (j : Int) + 1 := IntWalk.i64_in _ (by omega)
          have a2 : (0 : Int) ≤ (j : Int) + 1 := by omega
          have a3 : ((j : Int) + 1).toNat = j + 1 := by omega
          have a4 : (j : Int) + 1 < (s.size : Int) := by omega
          have a5 : IntKind.i64.wrap ((s[j].toNat : Int) + (s[j + 1].toNat : Int)) = (s[j].toNat : Int) + (s[j + 1].toNat : Int) := IntWalk.i64_in _ (by omega)
          go_quiet (fail)
          clear a1 a5
          go_wp2_with fail
          refine (NL.out X2 n2 C2.out z2 _ (K4.out.drewN _)).mono ?_
          rintro e w8 ⟨rfl, k8⟩
          have K8 := Lib.hid (Qt.trans (K4.out.drewN _) k8); clear k8
          go_wp2
          go_ret
          exact ⟨by simp, K8.out⟩
        · have C2 := Lib.hid hn2
          have b1 : ((s[j].toNat : Int) + (s[j + 1].toNat : Int) != 105) = false := by rw [bne_eq_false_iff_eq]; omega
          have b2 : ((n2 : Int) != (m : Int)) = true := by rw [bne_iff_ne]; omega
          have b3 : ((s[j].toNat : Int) != 48) = true := by rw [bne_iff_ne]; omega
          have b4 : ((s[j].toNat : Int) != 57) = true := by rw [bne_iff_ne]; omega
          clear hn2 hm2 f1 f2 f3
          have hb1 := s[j].toNat_lt
          have hb2 := s[j + 1].toNat_lt
          have a1 : IntKind.i64.wrap ((j : Int) + 1) = (j : Int) + 1 := IntWalk.i64_in _ (by omega)
          have a2 : (0 : Int) ≤ (j : Int) + 1 := by omega
          have a3 : ((j : Int) + 1).toNat = j + 1 := by omega
          have a4 : (j : Int) + 1 < (s.size : Int) := by omega
          have a5 : IntKind.i64.wrap ((s[j].toNat : Int) + (s[j + 1].toNat : Int)) = (s[j].toNat : Int) + (s[j + 1].toNat : Int) := IntWalk.i64_in _ (by omega)
          go_quiet (fail)
          clear a1 a5
          go_wp2_with fail
          refine (NL.out X2 n2 C2.out z2 _ (K4.out.drewN _)).mono ?_
          rintro e w8 ⟨rfl, k8⟩
          have K8 := Lib.hid (Qt.trans (K4.out.drewN _) k8); clear k8
          go_wp2
          go_ret
          exact ⟨by simp, K8.out⟩
        · have b1 : ((s[j].toNat : Int) + (s[j + 1].toNat : Int) != 105) = false := by rw [bne_eq_false_iff_eq]; omega
          have b3 : ((s[j].toNat : Int) != 48) = false := by rw [bne_eq_false_iff_eq]; omega
          clear f1 f2
          have hb1 := s[j].toNat_lt
          have hb2 := s[j + 1].toNat_lt
          have a1 : IntKind.i64.wrap ((j : Int) + 1) = (j : Int) + 1 := IntWalk.i64_in _ (by omega)
          have a2 : (0 : Int) ≤ (j : Int) + 1 := by omega
          have a3 : ((j : Int) + 1).toNat = j + 1 := by omega
          have a4 : (j : Int) + 1 < (s.size : Int) := by omega
          have a5 : IntKind.i64.wrap ((s[j].toNat : Int) + (s[j + 1].toNat : Int)) = (s[j].toNat : Int) + (s[j + 1].toNat : Int) := IntWalk.i64_in _ (by omega)
          go_quiet (fail)
          clear a1 a5
          go_wp2
          go_ret
          exact ⟨rfl, K4.out.drewN _⟩
        · have b1 : ((s[j].toNat : Int) + (s[j + 1].toNat : Int) != 105) = false := by rw [bne_eq_false_iff_eq]; omega
          have b3 : ((s[j].toNat : Int) != 48) = true := by rw [bne_iff_ne]; omega
          have b4 : ((s[j].toNat : Int) != 57) = false := by rw [bne_eq_false_iff_eq]; omega
          clear f1 f2
          have hb1 := s[j].toNat_lt
          have hb2 := s[j + 1].toNat_lt
          have a1 : IntKind.i64.wrap ((j : Int) + 1) = (j : Int) + 1 := IntWalk.i64_in _ (by omega)
          have a2 : (0 : Int) ≤ (j : Int) + 1 := by omega
          have a3 : ((j : Int) + 1).toNat = j + 1 := by omega
          have a4 : (j : Int) + 1 < (s.size : Int) := by omega
          have a5 : IntKind.i64.wrap ((s[j].toNat : Int) + (s[j + 1].toNat : Int)) = (s[j].toNat : Int) + (s[j + 1].toNat : Int) := IntWalk.i64_in _ (by omega)
          go_quiet (fail)
          clear a1 a5
          go_wp2
          go_ret
          exact ⟨rfl, K4.out.drewN _⟩
end Go.Proofs.YtkmemjljoeokhaaDoor
