/-
  The contract of remitlaw04.MoneyTexts: it answers true.
-/
import Derived.Test.YtjjlpjfojgkpkaaGreatDoorMParseM
import Derived.Test.YtjjlpjfojgkpkaaGreatDoorMBackS
import Derived.Test.YtjjlpjfojgkpkaaGreatDoorMFixed
namespace Go.Proofs.YtjjlpjfojgkpkaaGreatDoor
open Go.RowKit Go.WideShapes
set_option maxRecDepth 100000

theorem textI_size (d : Nat) (a : Int) : (⟨(M.textI d a).toArray⟩ : ByteArray).data.toList = M.textI d a := rfl
theorem parseM_ok (ad : Nat → Addr) {s : List UInt8} {n v : Int} (h : M.parseR s n = (v, 0)) : parseM ad s n = .tuple #[.int .i64 v, .nilIface] := by unfold parseM; rw [h]; rfl
theorem parseM_no (ad : Nat → Addr) {s : List UInt8} {n : Int} {e : Nat} (h : M.parseR s n = (0, e)) (he : 0 < e) : parseM ad s n = .tuple #[.int .i64 0, .iface 158 (.pointer (some (ad e)))] := by unfold parseM; rw [h]; show Value.tuple #[_, errV ad e] = _; rw [errV_pos ad he]
set_option maxHeartbeats 1600000 in
theorem texts_any (ad : Nat → Addr) (a b n : Int) (s : ByteArray) (m : Int) (w : World) (hE : Errs ad w) (hT : Tab10 w) (hm : MaxL4 m w) (hR : VarR w) (hs : s.size ≤ 4194304) (a0 : -9223372036854775808 ≤ a) (a1 : a < 9223372036854775808) (b0 : -9223372036854775808 ≤ b) (b1 : b < 9223372036854775808) (n0 : -9223372036854775808 ≤ n) (n1 : n < 9223372036854775808) :
    Calls Tryz.prog 4 #[.int .i64 a, .int .i64 b, .int .i64 n, .string s] w fun e w' => e = .returned (.bool true) ∧ Qt w w' := by
  have FX := Lib.hid (fixed_any ad w hE hT)
  have TX := Lib.hid (fun W (q : Qt w W) x (x0 : -9223372036854775808 ≤ x) (x1 : x < 9223372036854775808) => text_any x n W x0 x1 (hT.qt q))
  have PA := Lib.hid (fun W (q : Qt w W) t (ht : t.size ≤ 4194304) => parse_any ad t n m W (hE.qt q) (q.cellv hm) (hR.qt q) ht n0 n1)
  have NN := Lib.hid (fun W (q : Qt w W) k (hk : k ≤ 37) (h0 : 0 < k) => show Calls Tryz.prog 9 #[.iface 158 (.pointer (some (ad k)))] W _ from (errV_pos ad h0) ▸ num_any ad k W (hE.qt q) hk)
  clear hE hT hm hR
  by_cases hn : n < 0 ∨ 6 < n
  · have TA := Lib.hid (fun W q => TX.out W q a a0 a1)
    have PT := Lib.hid (fun W q => PA.out W q ⟨#[]⟩ (by show (0 : Nat) ≤ _; decide))
    have PS := Lib.hid (fun W q => PA.out W q s hs)
    rw [show textB a n = ⟨#[]⟩ from if_pos hn] at TA
    rw [parseM_no ad (M.parseR_range hn) (by decide)] at PT PS
    have N6 := Lib.hid (fun W q => NN.out W q 6 (by decide) (by decide))
    have tn : (decide (n < 0) || decide (6 < n)) = true := by simpa using hn
    clear a0 a1 b0 b1 n0 n1 hs TX PA NN
    rcases hn with hn | hn
    · have t1 : decide (n < 0) = true := decide_eq_true hn
      clear hn tn
      go_enter Tryz.func4, Tryz.ntmps4
      go_wp2_with fail
      refine (FX.out).mono ?_
      rintro e w1 ⟨rfl, k1⟩
      have K1 := Lib.hid k1; clear k1
      go_wp2_with fail
      refine (TA.out _ K1.out).mono ?_
      rintro e w2 ⟨rfl, k2⟩
      have K2 := Lib.hid (Qt.trans K1.out k2); clear k2
      go_wp2_with fail
      refine (PT.out _ K2.out).mono ?_
      rintro e w3 ⟨rfl, k3⟩
      have K3 := Lib.hid (Qt.trans K2.out k3); clear k3
      go_wp2_with fail
      refine (PS.out _ K3.out).mono ?_
      rintro e w4 ⟨rfl, k4⟩
      have K4 := Lib.hid (Qt.trans K3.out k4); clear k4
      go_wp2_with fail
      refine (N6.out _ K4.out).mono ?_
      rintro e w5 ⟨rfl, k5⟩
      have K5 := Lib.hid (Qt.trans K4.out k5); clear k5
      go_wp2_with fail
      refine (N6.out _ K5.out).mono ?_
      rintro e w6 ⟨rfl, k6⟩
      have K6 := Lib.hid (Qt.trans K5.out k6); clear k6
      go_wp2
      go_ret
      exact ⟨rfl, K6.out⟩
    · have t1 : decide (n < 0) = false := decide_eq_false (by omega)
      have t2 : decide (6 < n) = true := decide_eq_true hn
      clear hn tn
      go_enter Tryz.func4, Tryz.ntmps4
      go_wp2_with fail
      refine (FX.out).mono ?_
      rintro e w1 ⟨rfl, k1⟩
      have K1 := Lib.hid k1; clear k1
      go_wp2_with fail
      refine (TA.out _ K1.out).mono ?_
      rintro e w2 ⟨rfl, k2⟩
      have K2 := Lib.hid (Qt.trans K1.out k2); clear k2
      go_wp2_with fail
      refine (PT.out _ K2.out).mono ?_
      rintro e w3 ⟨rfl, k3⟩
      have K3 := Lib.hid (Qt.trans K2.out k3); clear k3
      go_wp2_with fail
      refine (PS.out _ K3.out).mono ?_
      rintro e w4 ⟨rfl, k4⟩
      have K4 := Lib.hid (Qt.trans K3.out k4); clear k4
      go_wp2_with fail
      refine (N6.out _ K4.out).mono ?_
      rintro e w5 ⟨rfl, k5⟩
      have K5 := Lib.hid (Qt.trans K4.out k5); clear k5
      go_wp2_with fail
      refine (N6.out _ K5.out).mono ?_
      rintro e w6 ⟨rfl, k6⟩
      have K6 := Lib.hid (Qt.trans K5.out k6); clear k6
      go_wp2
      go_ret
      exact ⟨rfl, K6.out⟩
  · obtain ⟨d, rfl⟩ := Int.eq_ofNat_of_zero_le (show 0 ≤ n by omega)
    have hd : d ≤ 6 := by omega
    have hB : ∀ x, textB x d = ⟨(M.textI d x).toArray⟩ := fun x => by unfold textB; rw [if_neg hn, Int.toNat_natCast]
    have TA := Lib.hid (fun W q => TX.out W q a a0 a1)
    have TB := Lib.hid (fun W q => TX.out W q b b0 b1)
    have hla := M.textI_len hd a0 a1
    have PT := Lib.hid (fun W q => PA.out W q ⟨(M.textI d a).toArray⟩ (by show (M.textI d a).length ≤ _; omega))
    rw [textI_size, parseM_ok ad (M.parse_text hd a0 a1)] at PT
    rw [hB] at TA TB
    have PS := Lib.hid (fun W q => PA.out W q s hs)
    have hl28 : ((M.textI d a).length : Int) ≤ 28 := by omega
    have E1 := Lib.hid (show (M.textI d b == M.textI d a) = (a == b) by
      by_cases h : a = b
      · subst h; simp
      · rw [beq_eq_false_iff_ne.2 h, beq_eq_false_iff_ne]
        exact fun e => h (M.textI_inj e).symm)
    have hd0 : decide ((d : Int) < 0) = false := decide_eq_false (by omega)
    have hd6 : decide (6 < (d : Int)) = false := decide_eq_false (by omega)
    have hd6n : decide (6 < d) = false := decide_eq_false (by omega)
    have hK : (∃ v, M.parseR s.data.toList d = (v, 0)) ∨ ∃ e, (e = 7 ∨ e = 10) ∧ M.parseR s.data.toList d = (0, e) := by
      rcases M.parse_kind (s := s.data.toList) hd with h | ⟨h1, h2⟩
      · exact .inl ⟨_, by rw [← h]⟩
      · exact .inr ⟨_, h2, by rw [← h1]⟩
    have NN' := Lib.hid (fun W q => And.intro (NN.out W q 7 (by decide) (by decide)) (NN.out W q 10 (by decide) (by decide)))
    have TX' := Lib.hid (fun v (h : M.parseR s.data.toList d = (v, 0)) W q => TX.out W q v (by have := (M.parse_back hd (s := s.data.toList) (by rw [h])).2.1; rw [h] at this; exact this) (by have := (M.parse_back hd (s := s.data.toList) (by rw [h])).2.2; rw [h] at this; exact this))
    have EB := Lib.hid (fun v (h : M.parseR s.data.toList d = (v, 0)) => show textB v d = s from by
      have h1 := (M.parse_back hd (s := s.data.toList) (by rw [h])).1
      rw [h] at h1
      rw [hB]
      exact (str_list h1.symm).symm)
    clear hn hla n0 n1 hs hB PA NN TX a0 a1 b0 b1 hd
    generalize M.textI d a = ta at *
    generalize M.textI d b = tb at *
    go_enter Tryz.func4, Tryz.ntmps4
    go_wp2_with fail
    refine (FX.out).mono ?_
    rintro e w1 ⟨rfl, k1⟩
    have K1 := Lib.hid k1; clear k1
    go_wp2_with fail
    refine (TA.out _ K1.out).mono ?_
    rintro e w2 ⟨rfl, k2⟩
    have K2 := Lib.hid (Qt.trans K1.out k2); clear k2
    go_wp2_with fail
    refine (PT.out _ K2.out).mono ?_
    rintro e w3 ⟨rfl, k3⟩
    have K3 := Lib.hid (Qt.trans K2.out k3); clear k3
    go_wp2_with fail
    refine (TB.out _ K3.out).mono ?_
    rintro e w4 ⟨rfl, k4⟩
    have K4 := Lib.hid (Qt.trans K3.out k4); clear k4
    have e1 := E1.out
    rcases hK with ⟨v, hv⟩ | ⟨k, hk, hv⟩
    · rw [parseM_ok ad hv] at PS
      have TV := Lib.hid (TX'.out v hv)
      rw [EB.out v hv] at TV
      clear hv EB TX' NN'
      go_wp2_with fail
      refine (PS.out _ K4.out).mono ?_
      rintro e w5 ⟨rfl, k5⟩
      have K5 := Lib.hid (Qt.trans K4.out k5); clear k5
      go_wp2_with fail
      refine (TV.out _ K5.out).mono ?_
      rintro e w6 ⟨rfl, k6⟩
      have K6 := Lib.hid (Qt.trans K5.out k6); clear k6
      go_wp2
      go_ret
      exact ⟨rfl, K6.out⟩
    · rw [parseM_no ad hv (by omega)] at PS
      clear hv EB TX'
      rcases hk with rfl | rfl
      · go_wp2_with fail
        refine (PS.out _ K4.out).mono ?_
        rintro e w5 ⟨rfl, k5⟩
        have K5 := Lib.hid (Qt.trans K4.out k5); clear k5
        go_wp2_with fail
        refine ((NN'.out _ K5.out).1).mono ?_
        rintro e w6 ⟨rfl, k6⟩
        have K6 := Lib.hid (Qt.trans K5.out k6); clear k6
        go_wp2
        go_ret
        exact ⟨rfl, K6.out⟩
      · go_wp2_with fail
        refine (PS.out _ K4.out).mono ?_
        rintro e w5 ⟨rfl, k5⟩
        have K5 := Lib.hid (Qt.trans K4.out k5); clear k5
        go_wp2_with fail
        refine ((NN'.out _ K5.out).2).mono ?_
        rintro e w6 ⟨rfl, k6⟩
        have K6 := Lib.hid (Qt.trans K5.out k6); clear k6
        go_wp2_with fail
        refine ((NN'.out _ K6.out).2).mono ?_
        rintro e w7 ⟨rfl, k7⟩
        have K7 := Lib.hid (Qt.trans K6.out k7); clear k7
        go_wp2
        go_ret
        exact ⟨rfl, K7.out⟩
end Go.Proofs.YtjjlpjfojgkpkaaGreatDoor
