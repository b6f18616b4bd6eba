/-
  The contract of money's Text.
-/
import Derived.Test.YtjjlpjfojgkpkaaGreatDoorMTextM
namespace Go.Proofs.YtjjlpjfojgkpkaaGreatDoor
open Go.RowKit Go.WideShapes
set_option maxRecDepth 100000

theorem repeat_list (c : Nat) : Lib.repeatL [48] c = List.replicate c 48 := by
  induction c with
  | zero => rfl
  | succ c ih => rw [Lib.repeatL, ih, List.replicate_succ]; rfl
theorem retS {a b : ByteArray} (h : a = b) : Ending.returned (.string a) = .returned (.string b) := by rw [h]
theorem dec_len {X : Nat} (h : X < 18446744073709551616) : 1 ≤ (M.dec X).length ∧ (M.dec X).length ≤ 20 := by
  obtain ⟨j, h1, h2, h3⟩ := M.dec_spec X
  rw [h1, M.low_length]
  refine ⟨by omega, ?_⟩
  rcases Nat.lt_or_ge 19 j with hj | hj
  · have h4 : 10 ^ 20 ≤ 10 ^ j := Nat.pow_le_pow_right (by decide) hj
    rcases h3 with h3 | h3
    · omega
    · have h5 : (10 : Nat) ^ 20 ≤ X := Nat.le_trans h4 h3
      have h6 : (10 : Nat) ^ 20 = 100000000000000000000 := by decide
      omega
  · omega
theorem size_toList (s : ByteArray) : s.data.toList.length = s.size := rfl
/-- The text with its point. -/
def pointed (p : ByteArray) (d : Nat) : ByteArray := p.extract 0 (p.size - d) ++ ⟨#[46]⟩ ++ p.extract (p.size - d) p.size
theorem pointed_list {p : ByteArray} {d X : Nat} (hp : p.data.toList = M.pad d X) (hd : 0 < d) : (pointed p d).data.toList = M.text d X := by
  have hs : p.size = (M.pad d X).length := by rw [← hp]; rfl
  rw [M.pad_text, if_neg (by omega), ← hp]
  unfold pointed
  have e : p.data.toList.length = p.size := rfl
  rw [e]
  simp only [ByteArray.data_append, Array.toList_append, ByteArray.data_extract, Array.toList_extract]
  simp
  exact List.take_of_length_le (by simp)

set_option maxHeartbeats 6400000 in
theorem text_any (a n : Int) (w : World) (a0 : -9223372036854775808 ≤ a) (a1 : a < 9223372036854775808) (htab : Tab10 w) :
    Calls Tryz.prog 7 #[.int .i64 a, .int .i64 n] w fun e w' => e = .returned (.string (textB a n)) ∧ Qt w w' := by
  by_cases hn : n < 0 ∨ 6 < n
  · have HR := Lib.hid (show textB a n = ⟨#[]⟩ from if_pos hn)
    have MN := Lib.hid (fun W => mayNo n W hn)
    clear hn htab
    go_enter Tryz.func7, Tryz.ntmps7
    go_wp2_with fail
    refine (MN.out _).mono ?_
    rintro e w1 ⟨rfl, rfl⟩
    go_wp2
    go_ret
    exact ⟨retS HR.out.symm, Qt.refl _⟩
  · have HR := Lib.hid (show textB a n = ⟨(M.textI n.toNat a).toArray⟩ from if_neg hn)
    obtain ⟨d, rfl⟩ := Int.eq_ofNat_of_zero_le (show 0 ≤ n by omega)
    have hd : d ≤ 6 := by omega
    rw [Int.toNat_natCast] at HR
    have MY := Lib.hid (fun W => mayYes d W hd)
    have UN := Lib.hid (fun W => unsigned_any a W a0 a1)
    have hX : a.natAbs < 18446744073709551616 := by omega
    have FU := Lib.hid (fun W (q : Qt w W) => formatU_any a.natAbs W hX (htab.qt q))
    have hl := dec_len hX
    unfold M.textI at HR
    generalize a.natAbs = X at *
    obtain ⟨s0, hs0⟩ : ∃ s0 : ByteArray, s0 = ⟨(M.dec X).toArray⟩ := ⟨_, rfl⟩
    rw [← hs0] at FU
    have hsz : s0.size = (M.dec X).length := by rw [hs0]; simp [ByteArray.size]
    have hlist : s0.data.toList = M.dec X := by rw [hs0]
    have HL := Lib.hid hlist
    have hs1 : 1 ≤ s0.size := by omega
    have hs2 : s0.size ≤ 20 := by omega
    have HZ := Lib.hid hsz
    clear hn hX hl hs0 hsz hlist htab a0 a1
    by_cases hsh : s0.size < d + 1
    · obtain ⟨c, hc⟩ : ∃ c, d + 1 - s0.size = c := ⟨_, rfl⟩
      have EC : (d : Int) + 1 - (s0.size : Int) = (c : Int) := by omega
      have hc0 : (0 : Int) < (c : Int) := by omega
      have RP := Lib.hid (fun W => Tryz.strings_Repeat ⟨#[48]⟩ c W (by omega) (by show 1 * c ≤ _; omega))
      obtain ⟨R, hR⟩ : ∃ R : ByteArray, (⟨(Lib.repeatL (⟨#[48]⟩ : ByteArray).data.toList c).toArray⟩ : ByteArray) = R := ⟨_, rfl⟩
      rw [hR] at RP
      have HP := Lib.hid (show (R ++ s0).data.toList = M.pad d X by
        rw [ByteArray.data_append, Array.toList_append, HL.out, ← hR]
        unfold M.pad
        rw [← HZ.out, hc]
        show Lib.repeatL [48] c ++ _ = _
        rw [repeat_list])
      have hRs : R.size = c := by rw [← hR]; show (Lib.repeatL [48] c).toArray.size = c; rw [repeat_list]; simp
      have hps : (R ++ s0).size = d + 1 := by rw [ByteArray.size_append, hRs]; omega
      by_cases hd0 : d = 0
      · exfalso; omega
      · have hdp : 0 < d := by omega
        have hdd : (0 : Int) < (d : Int) := by omega
        have HT := Lib.hid (pointed_list HP.out hdp)
        obtain ⟨cut, hcut⟩ : ∃ cut, (R ++ s0).size - d = cut := ⟨_, rfl⟩
        have hcc : cut ≤ (R ++ s0).size := by omega
        have ECU : ((R ++ s0).size : Int) - (d : Int) = (cut : Int) := by omega
        have HCU := Lib.hid hcut
        by_cases ha : a < 0
        · rw [if_pos ha] at HR
          have FIN := Lib.hid (show (textB a (d : Int)) = (⟨#[45]⟩ : ByteArray) ++ (pointed (R ++ s0) d) by
            rw [HR.out]
            refine (str_list ?_).symm
            rw [ByteArray.data_append, Array.toList_append, HT.out]
            rfl)
          clear hsh hd0
          go_enter Tryz.func7, Tryz.ntmps7
          go_wp2_with fail
          refine (MY.out _).mono ?_
          rintro e w1 ⟨rfl, rfl⟩
          go_wp2_with fail
          refine (UN.out _).mono ?_
          rintro e w1 ⟨rfl, rfl⟩
          go_wp2_with fail
          refine (FU.out _ (Qt.refl _)).mono ?_
          rintro e w1 ⟨rfl, k1⟩
          have K1 := Lib.hid k1; clear k1
          go_wp2_with fail
          refine (RP.out _).mono ?_
          rintro e w2 ⟨rfl, k2⟩
          have K2 := Lib.hid (Qt.trans K1.out (Qt.of_below k2)); clear k2
          go_wp2
          go_quiet (fail)
          go_wp2
          go_ret
          exact ⟨retS (by rw [FIN.out, pointed, hps, show d + 1 - d = 1 by omega] <;> rfl), Keeps.drewN K2.out _⟩
        · rw [if_neg ha] at HR
          have FIN := Lib.hid (show (textB a (d : Int)) = (pointed (R ++ s0) d) by
            rw [HR.out]
            exact (str_list HT.out).symm)
          clear hsh hd0
          go_enter Tryz.func7, Tryz.ntmps7
          go_wp2_with fail
          refine (MY.out _).mono ?_
          rintro e w1 ⟨rfl, rfl⟩
          go_wp2_with fail
          refine (UN.out _).mono ?_
          rintro e w1 ⟨rfl, rfl⟩
          go_wp2_with fail
          refine (FU.out _ (Qt.refl _)).mono ?_
          rintro e w1 ⟨rfl, k1⟩
          have K1 := Lib.hid k1; clear k1
          go_wp2_with fail
          refine (RP.out _).mono ?_
          rintro e w2 ⟨rfl, k2⟩
          have K2 := Lib.hid (Qt.trans K1.out (Qt.of_below k2)); clear k2
          go_wp2
          go_quiet (fail)
          go_wp2
          go_ret
          exact ⟨retS (by rw [FIN.out, pointed, hps, show d + 1 - d = 1 by omega] <;> rfl), Keeps.drewN K2.out _⟩
    · have HP := Lib.hid (show s0.data.toList = M.pad d X by
        unfold M.pad
        rw [← HZ.out, show d + 1 - s0.size = 0 by omega, HL.out]
        rfl)
      have EC : decide ((0 : Int) < (d : Int) + 1 - (s0.size : Int)) = false := decide_eq_false (by omega)
      have hps : d + 1 ≤ s0.size := by omega
      by_cases hd0 : d = 0
      · have hdd : ¬ (0 : Int) < (d : Int) := by omega
        have HT := Lib.hid (show s0.data.toList = M.text d X by rw [HP.out, hd0, M.pad_zero])
        by_cases ha : a < 0
        · rw [if_pos ha] at HR
          have FIN := Lib.hid (show (textB a (d : Int)) = (⟨#[45]⟩ : ByteArray) ++ (s0) by
            rw [HR.out]
            refine (str_list ?_).symm
            rw [ByteArray.data_append, Array.toList_append, HT.out]
            rfl)
          clear hsh hd0
          go_enter Tryz.func7, Tryz.ntmps7
          go_wp2_with fail
          refine (MY.out _).mono ?_
          rintro e w1 ⟨rfl, rfl⟩
          go_wp2_with fail
          refine (UN.out _).mono ?_
          rintro e w1 ⟨rfl, rfl⟩
          go_wp2_with fail
          refine (FU.out _ (Qt.refl _)).mono ?_
          rintro e w1 ⟨rfl, k1⟩
          have K1 := Lib.hid k1; clear k1
          have K2 := Lib.hid K1.out
          go_wp2
          go_ret
          exact ⟨retS (by rw [FIN.out]), K2.out⟩
        · rw [if_neg ha] at HR
          have FIN := Lib.hid (show (textB a (d : Int)) = (s0) by
            rw [HR.out]
            exact (str_list HT.out).symm)
          clear hsh hd0
          go_enter Tryz.func7, Tryz.ntmps7
          go_wp2_with fail
          refine (MY.out _).mono ?_
          rintro e w1 ⟨rfl, rfl⟩
          go_wp2_with fail
          refine (UN.out _).mono ?_
          rintro e w1 ⟨rfl, rfl⟩
          go_wp2_with fail
          refine (FU.out _ (Qt.refl _)).mono ?_
          rintro e w1 ⟨rfl, k1⟩
          have K1 := Lib.hid k1; clear k1
          have K2 := Lib.hid K1.out
          go_wp2
          go_ret
          exact ⟨retS (by rw [FIN.out]), K2.out⟩
      · have hdp : 0 < d := by omega
        have hdd : (0 : Int) < (d : Int) := by omega
        have HT := Lib.hid (pointed_list HP.out hdp)
        obtain ⟨cut, hcut⟩ : ∃ cut, s0.size - d = cut := ⟨_, rfl⟩
        have hcc : cut ≤ s0.size := by omega
        have ECU : (s0.size : Int) - (d : Int) = (cut : Int) := by omega
        have HCU := Lib.hid hcut
        by_cases ha : a < 0
        · rw [if_pos ha] at HR
          have FIN := Lib.hid (show (textB a (d : Int)) = (⟨#[45]⟩ : ByteArray) ++ (pointed s0 d) by
            rw [HR.out]
            refine (str_list ?_).symm
            rw [ByteArray.data_append, Array.toList_append, HT.out]
            rfl)
          clear hsh hd0
          go_enter Tryz.func7, Tryz.ntmps7
          go_wp2_with fail
          refine (MY.out _).mono ?_
          rintro e w1 ⟨rfl, rfl⟩
          go_wp2_with fail
          refine (UN.out _).mono ?_
          rintro e w1 ⟨rfl, rfl⟩
          go_wp2_with fail
          refine (FU.out _ (Qt.refl _)).mono ?_
          rintro e w1 ⟨rfl, k1⟩
          have K1 := Lib.hid k1; clear k1
          have K2 := Lib.hid K1.out
          go_wp2
          go_quiet (fail)
          go_wp2
          go_ret
          exact ⟨retS (by rw [FIN.out, pointed, HCU.out] <;> rfl), Keeps.drewN K2.out _⟩
        · rw [if_neg ha] at HR
          have FIN := Lib.hid (show (textB a (d : Int)) = (pointed s0 d) by
            rw [HR.out]
            exact (str_list HT.out).symm)
          clear hsh hd0
          go_enter Tryz.func7, Tryz.ntmps7
          go_wp2_with fail
          refine (MY.out _).mono ?_
          rintro e w1 ⟨rfl, rfl⟩
          go_wp2_with fail
          refine (UN.out _).mono ?_
          rintro e w1 ⟨rfl, rfl⟩
          go_wp2_with fail
          refine (FU.out _ (Qt.refl _)).mono ?_
          rintro e w1 ⟨rfl, k1⟩
          have K1 := Lib.hid k1; clear k1
          have K2 := Lib.hid K1.out
          go_wp2
          go_quiet (fail)
          go_wp2
          go_ret
          exact ⟨retS (by rw [FIN.out, pointed, HCU.out] <;> rfl), Keeps.drewN K2.out _⟩
end Go.Proofs.YtjjlpjfojgkpkaaGreatDoor
