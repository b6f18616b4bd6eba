/-
  The contracts of the reference's Token, Number.
-/
import Derived.Test.YtalopcbjcgbdfaaDoorIToken
import Derived.Test.YtalopcbjcgbdfaaDoorIRefA
import Derived.IntWalk
namespace Go.Proofs.YtalopcbjcgbdfaaDoor
open Go.RowKit Go.WideShapes
set_option maxRecDepth 100000

def tokenN (n : Int) : Value := if 1 ≤ n ∧ n ≤ 999999999999 then .tuple #[.string (tokS n.toNat), .int .i64 0] else .tuple #[.string ⟨#[]⟩, .int .i64 6]
theorem tokenN_yes {n : Nat} (h : 1 ≤ n) (h2 : n ≤ 999999999999) : tokenN n = .tuple #[.string (tokS n), .int .i64 0] := by unfold tokenN; rw [if_pos ⟨by omega, by omega⟩, Int.toNat_natCast]
theorem tokenN_no {n : Int} (h : ¬ (1 ≤ n ∧ n ≤ 999999999999)) : tokenN n = .tuple #[.string ⟨#[]⟩, .int .i64 6] := if_neg h
def lowS (j n : Nat) : ByteArray := ⟨(M.low j n).toArray⟩
theorem lowS_size (j n : Nat) : (lowS j n).size = j := by show (M.low j n).toArray.size = j; rw [List.size_toArray, M.low_length]
def sizeOfV : Value → Nat
  | .string b => b.size
  | _ => 0
/-- Behind j rounds. -/
def TokAt (n : Nat) (w : World) (x s : Value) (wr : World) : Prop := ∃ j : Nat, j ≤ 12 ∧ x = .int .i64 ((n / 10 ^ j : Nat) : Int) ∧ s = .string (lowS j n) ∧ Qt w wr
theorem low_more (j n X : Nat) (hX : n / 10 ^ j = X) : (⟨#[48 + UInt8.ofNat (X % 10)]⟩ : ByteArray) ++ lowS j n = lowS (j + 1) n := by
  unfold lowS
  apply str_list
  rw [dapp]
  show [48 + UInt8.ofNat (X % 10)] ++ M.low j n = M.low (j + 1) n
  rw [M.low_cons, hX]
  have e : 48 + UInt8.ofNat (X % 10) = M.dg (X % 10) := by
    apply UInt8.toNat_inj.1
    rw [M.dg_toNat (by omega), UInt8.toNat_add, UInt8.toNat_ofNat']
    show (48 + X % 10 % 256) % 256 = _
    omega
  rw [e]; rfl
theorem TokAt.more {n j X : Nat} {w wr w2 : World} (hj : j < 12) (hX : n / 10 ^ j = X) (q : Qt w wr) (k : Qt wr w2) : TokAt n w (.int .i64 ((X : Int) / 10)) (.string (lowS (j + 1) n)) w2 :=
  ⟨j + 1, hj, by rw [← hX]; congr 1; rw [Nat.pow_succ, ← Nat.div_div_eq_div_mul]; push_cast; rfl, rfl, Qt.trans q k⟩

set_option maxHeartbeats 3200000 in
theorem refToken_any (n : Int) (w : World) (lo : -9223372036854775808 ≤ n) (hi : n < 9223372036854775808) :
    Calls Tryd.prog 24 #[.int .i64 n] w fun e w' => e = .returned (tokenN n) ∧ Qt w w' := by
  have HQ := Lib.hid (Qt.refl w)
  by_cases h1 : n < 1
  · have HE := Lib.hid (tokenN_no (n := n) (by omega))
    clear lo hi
    go_enter Tryd.func24, Tryd.ntmps24
    go_wp2
    go_ret2
    exact ⟨by rw [HE.out]; rfl, HQ.out⟩
  · by_cases h2 : 999999999999 < n
    · have HE := Lib.hid (tokenN_no (n := n) (by omega))
      clear lo hi
      go_enter Tryd.func24, Tryd.ntmps24
      go_wp2
      go_ret2
      exact ⟨by rw [HE.out]; rfl, HQ.out⟩
    · obtain ⟨n, rfl⟩ : ∃ m : Nat, n = (m : Int) := ⟨n.toNat, by omega⟩
      have b1 : 1 ≤ n := by omega
      have b2 : n ≤ 999999999999 := by omega
      have HE := Lib.hid (tokenN_yes b1 b2)
      obtain ⟨m, _, hd, htk⟩ := I.tok_some n
      have HT := Lib.hid (tok_str htk)
      have HH := Lib.hid (show (⟨#[80]⟩ : ByteArray) ++ lowS 12 n = ⟨(I.head13 n).toArray⟩ from str_list (by rw [dapp]; rfl))
      have HD := Lib.hid (fun W => refDigits_any ⟨(I.head13 n).toArray⟩ W (by show (I.head13 n).toArray.size + 2 ≤ _; rw [List.size_toArray, I.head13_length]; decide))
      rw [show (⟨(I.head13 n).toArray⟩ : ByteArray).data.toList = I.head13 n from rfl, digN_yes hd] at HD
      have HM := Lib.hid (fun j X w wr w2 => @TokAt.more n j X w wr w2)
      have H0 := Lib.hid (show TokAt n w (.int .i64 (n : Int)) (.string ⟨#[]⟩) w from ⟨0, by decide, by rw [Nat.pow_zero, Nat.div_one], rfl, Qt.refl w⟩)
      have HL := Lib.hid (fun j X h => low_more j n X h)
      have HX := Lib.hid (fun j => Nat.le_trans (Nat.div_le_self n (10 ^ j)) b2)
      have hH : (⟨(I.head13 n).toArray⟩ : ByteArray).size = 13 := by show (I.head13 n).toArray.size = 13; rw [List.size_toArray, I.head13_length]
      have hDs : (⟨(C.two m).toArray⟩ : ByteArray).size = 2 := rfl
      generalize (⟨(I.head13 n).toArray⟩ : ByteArray) = H at *
      generalize (⟨(C.two m).toArray⟩ : ByteArray) = D at *
      clear hd htk lo hi
      go_enter Tryd.func24, Tryd.ntmps24
      go_wp2
      go_loopw [0, 4] (fun x s wr => TokAt n w x s wr) (fun _ s _ => 12 - sizeOfV s)
      case atStart => exact H0.out
      case round =>
        obtain ⟨j, hj, rfl, rfl, q⟩ := hrel
        have hs := lowS_size j n
        have HA := Lib.hid (fun o => (Qt.refl wr).alloc o)
        by_cases hlt : j < 12
        · have hX0 := HX.out j
          generalize hX : n / 10 ^ j = X at *
          have HLX := Lib.hid (HL.out j X hX)
          have F := Lib.hid (fun w2 => HM.out j X w wr w2 hlt hX q)
          have hcv := fun W a => conv1 W a
          have HS2 := Lib.hid (lowS_size (j + 1) n)
          generalize hY : lowS j n = Y at *
          have hYs : Y.size < 12 := by omega
          have HYs := Lib.hid hs
          clear hX q hY hs
          go_wp2
          go_roundw
          case rel =>
            rw [HLX.out]
            exact F.out _ (HA.out _)
          case measure =>
            rw [HLX.out]
            show 12 - (lowS (j + 1) n).size < 12 - Y.size
            rw [HS2.out, HYs.out]; omega
        · obtain rfl : j = 12 := by omega
          have Q := Lib.hid q
          clear q hlt hj HA
          have hs2 : ¬ (lowS 12 n).size < 12 := by omega
          have hs3 : (lowS 12 n).size ≤ 12 := by omega
          clear hs
          generalize hY : lowS 12 n = Y at *
          clear hY
          go_wp2_with fail
          rw [HH.out]
          refine (HD.out _).mono ?_
          rintro e w1 ⟨rfl, k1⟩
          have K1 := Lib.hid (Qt.trans Q.out k1); clear k1
          go_wp2
          go_ret2
          exact ⟨by rw [HE.out, ← HT.out, ← HH.out]; rfl, K1.out⟩

/-! ### Number -/
def numbN (s : List UInt8) : Value := .tuple #[.int .i64 ((I.numV s).1 : Nat), .int .i64 ((I.numV s).2 : Nat)]
theorem numbN_of {s : List UInt8} {v e : Nat} (h : I.numV s = (v, e)) : numbN s = .tuple #[.int .i64 (v : Int), .int .i64 (e : Int)] := by unfold numbN; rw [h]
theorem isTok_bytes (s : ByteArray) (h : s.size = 15) : I.isTok s.data.toList = (decide (s[0].toNat = 80) && allS I.dig (s.extract 1 s.size)) := by
  have e : s.data.toList.length = s.size := rfl
  have e2 : (s.extract 1 s.size).data.toList = s.data.toList.drop 1 := dtail s 1
  unfold I.isTok allS
  rw [e, decide_eq_true h, Bool.true_and, e2]
  congr 1
  have h0 : 0 < s.data.toList.length := by rw [e, h]; decide
  have e3 : s.data.toList.head? = some s[0] := by
    rw [List.head?_eq_getElem?, List.getElem?_eq_getElem h0]; rfl
  rw [e3, Bool.eq_iff_iff, beq_iff_eq, decide_eq_true_iff]
  exact ⟨fun q => by rw [Option.some.inj q]; rfl, fun q => by congr 1; exact UInt8.toNat_inj.1 q⟩
/-- The number that the first digits spell. -/
def numP (s : ByteArray) (i : Nat) : Nat := M.val 0 ((s.data.toList.drop 1).take (i - 1))
theorem numP_one (s : ByteArray) : numP s 1 = 0 := rfl
theorem numP_all (s : ByteArray) : numP s 13 = I.numOf s.data.toList := rfl
theorem numP_next {s : ByteArray} (h : I.isTok s.data.toList = true) {i : Nat} (h1 : 1 ≤ i) (h2 : i < 13) (hi : i < s.size) : 48 ≤ s[i].toNat ∧ s[i].toNat ≤ 57 ∧ numP s i < 1000000000000 ∧ numP s (i + 1) = 10 * numP s i + (s[i].toNat - 48) := by
  obtain ⟨hl, _, ha⟩ := I.isTok_iff.1 h
  have hl' : s.data.toList.length = 15 := hl
  have hg : (s.data.toList.drop 1)[i - 1]'(by rw [List.length_drop]; omega) = s[i] := by
    rw [List.getElem_drop]
    show s.data.toList[1 + (i - 1)] = s.data.toList[i]
    congr 1; omega
  have hd : I.dig s[i] = true := by
    rw [← hg]
    exact List.all_eq_true.1 ha _ (List.getElem_mem _)
  have hdb := of_decide_eq_true (p := 48 ≤ s[i].toNat ∧ s[i].toNat ≤ 57) hd
  refine ⟨hdb.1, hdb.2, ?_, ?_⟩
  · have hx : ((s.data.toList.drop 1).take (i - 1)).all I.dig = true := by
      rw [← List.take_append_drop (i - 1) (s.data.toList.drop 1), List.all_append, Bool.and_eq_true] at ha
      exact ha.1
    have hle : ((s.data.toList.drop 1).take (i - 1)).length = i - 1 := by rw [List.length_take, List.length_drop, hl']; omega
    have := (M.val_lt (i - 1) _ 0 hle hx).2
    have h3 : 10 ^ (i - 1) ≤ 10 ^ 12 := Nat.pow_le_pow_right (by decide) (by omega)
    have h4 : (10 : Nat) ^ 12 = 1000000000000 := by decide
    unfold numP; omega
  · unfold numP
    have e : i + 1 - 1 = (i - 1) + 1 := by omega
    rw [e, List.take_succ_eq_append_getElem (by rw [List.length_drop]; omega), M.val_append, hg, M.val_one (show M.isDg s[i] = true from hd)]

set_option maxHeartbeats 3200000 in
theorem refNumber_any (s : ByteArray) (w : World) :
    Calls Tryd.prog 26 #[.string s] w fun e w' => e = .returned (numbN s.data.toList) ∧ Qt w w' := by
  have HQ := Lib.hid (Qt.refl w)
  by_cases h15 : s.size = 15
  · have b15 : ((s.size : Int) != 15) = false := by rw [bne_eq_false_iff_eq]; omega
    have hT := isTok_bytes s h15
    have h0 : (0 : Nat) < s.size := by omega
    have hc := s[0].toNat_lt
    by_cases h80 : s[0].toNat = 80
    · have b80 : ((s[0].toNat : Int) != 80) = false := by rw [bne_eq_false_iff_eq]; omega
      rw [decide_eq_true h80, Bool.true_and] at hT
      have A1 := Lib.hid (refAll_any (s.extract 1 s.size) false true w (by rw [ByteArray.size_extract]; unfold maxLen; omega))
      rw [allR_dig] at A1
      have h1i : 1 ≤ s.size := by omega
      have h13 : 13 ≤ s.size := by omega
      clear h80
      cases h1 : allS I.dig (s.extract 1 s.size) with
      | false =>
        rw [h1] at A1 hT
        have HE := Lib.hid (numbN_of (numV_form hT))
        clear h1 hT h15
        go_enter Tryd.func26, Tryd.ntmps26
        go_wp2_with fail
        refine A1.out.mono ?_
        rintro e w' ⟨rfl, rfl⟩
        go_wp2
        go_ret2
        exact ⟨by rw [HE.out]; rfl, HQ.out⟩
      | true =>
        rw [h1] at A1 hT
        obtain ⟨x, d, hx, hx1, hd1, ax, ad⟩ := I.isTok_parts hT
        obtain ⟨dg, hdg, hdn⟩ := I.digits_head ax
        have e13 : (s.extract 0 13).data.toList = 80 :: x := by
          rw [dhead, hx]
          show (80 :: (x ++ d)).take 13 = _
          rw [List.take_succ_cons, List.take_left' hx1]
        have e2 : (s.extract 13 s.size).data.toList = d := by
          rw [dtail, hx]
          show (80 :: (x ++ d)).drop 13 = _
          rw [List.drop_succ_cons, List.drop_left' hx1]
        have HD := Lib.hid (fun W => refDigits_any (s.extract 0 13) W (by rw [ByteArray.size_extract]; unfold maxLen; omega))
        rw [e13, digN_yes hdg] at HD
        have hF : C.fits s.data.toList = decide (dg = d) := by
          rw [hx, Bool.eq_iff_iff, decide_eq_true_iff]
          constructor
          · intro q
            have := I.fits_back (p := 80 :: x) hd1 q
            rw [hdg] at this
            exact Option.some.inj this
          · rintro rfl
            exact C.fits_digits hdg
        have hb := bytes_eq (D := ⟨dg.toArray⟩) (E := s.extract 13 s.size)
        rw [e2, show (⟨dg.toArray⟩ : ByteArray).data.toList = dg from rfl] at hb
        generalize (⟨dg.toArray⟩ : ByteArray) = D at *
        by_cases q : dg = d
        · have b1 : (D.toList == (s.extract 13 s.size).toList) = true := by rw [hb, decide_eq_true q]
          have b2 : (!(D.toList == (s.extract 13 s.size).toList)) = false := by rw [b1]; rfl
          have b3 : (D.toList != (s.extract 13 s.size).toList) = false := b2
          rw [decide_eq_true q] at hF
          have HP := Lib.hid (fun i h1 h2 hi => @numP_next s hT i h1 h2 hi)
          have HZ := Lib.hid (fun h => numbN_of (numV_nought hT hF (show I.numOf s.data.toList = 0 from h)))
          have HY := Lib.hid (fun h => numbN_of (numV_yes hT hF (show I.numOf s.data.toList ≠ 0 from h)))
          have HA := Lib.hid (numP_all s)
          clear h1 hT hb q hF e13 e2 hdg hdn hx hx1 hd1 ax ad
          have h15' : s.size ≤ 15 := by omega
          have h15'' : 15 ≤ s.size := by omega
          clear h15
          go_enter Tryd.func26, Tryd.ntmps26
          go_wp2_with fail
          refine A1.out.mono ?_
          rintro e w' ⟨rfl, rfl⟩
          go_wp2_with fail
          refine (HD.out _).mono ?_
          rintro e w1 ⟨rfl, k1⟩
          have K1 := Lib.hid k1; clear k1
          go_wp2
          go_loop [6, 7] (fun n i => ∃ k : Nat, 1 ≤ k ∧ k ≤ 13 ∧ i = .int .i64 k ∧ n = .int .i64 (numP s k : Nat)) (fun _ i => 13 - (intOf i).toNat)
          case atStart => exact ⟨1, by decide, by decide, rfl, rfl⟩
          case round =>
            obtain ⟨k, k1, k13, rfl, rfl⟩ := hrel
            by_cases hlt : k < 13
            · have hks : k < s.size := by omega
              obtain ⟨c1, c2, hn, hnx⟩ := HP.out k k1 hlt hks
              have HN := Lib.hid hnx
              clear hnx
              generalize hPP : numP s k = V at *
              clear hPP
              go_wp2
              go_round
              case rel => exact ⟨k + 1, by omega, by omega, by go_num, by rw [HN.out]; congr 1; omega⟩
              case measure => simp [intOf]; omega
            · obtain rfl : k = 13 := by omega
              have HA1 := HA.out
              by_cases hz : I.numOf s.data.toList = 0
              · have HE := Lib.hid (HZ.out hz)
                have hz2 : ((numP s 13 : Nat) : Int) = 0 := by rw [HA1, hz]; rfl
                clear hz HA1 hlt
                go_wp2
                go_ret2
                exact ⟨by rw [HE.out]; rfl, K1.out⟩
              · have HE := Lib.hid (HY.out hz)
                have hz2 : (((I.numOf s.data.toList : Nat) : Int) == 0) = false := by rw [beq_eq_false_iff_ne]; omega
                generalize numP s 13 = V at *
                subst HA1
                generalize I.numOf s.data.toList = V at *
                clear hz hlt
                go_wp2
                go_ret2
                exact ⟨by rw [HE.out]; rfl, K1.out⟩
        · have b1 : (D.toList == (s.extract 13 s.size).toList) = false := by rw [hb, decide_eq_false q]
          have b2 : (!(D.toList == (s.extract 13 s.size).toList)) = true := by rw [b1]; rfl
          have b3 : (D.toList != (s.extract 13 s.size).toList) = true := b2
          rw [decide_eq_false q] at hF
          have HE := Lib.hid (numbN_of (numV_unfit hT hF))
          clear h1 hT hb q hF e13 e2 hdg hdn hx hx1 hd1 ax ad h15
          go_enter Tryd.func26, Tryd.ntmps26
          go_wp2_with fail
          refine A1.out.mono ?_
          rintro e w' ⟨rfl, rfl⟩
          go_wp2_with fail
          refine (HD.out _).mono ?_
          rintro e w1 ⟨rfl, k1⟩
          have K1 := Lib.hid k1; clear k1
          go_wp2
          go_ret2
          exact ⟨by rw [HE.out]; rfl, K1.out⟩
    · have b80 : ((s[0].toNat : Int) != 80) = true := by rw [bne_iff_ne]; omega
      rw [decide_eq_false h80, Bool.false_and] at hT
      have HE := Lib.hid (numbN_of (numV_form hT))
      clear hT h80 h15
      go_enter Tryd.func26, Tryd.ntmps26
      go_wp2
      go_ret2
      exact ⟨by rw [HE.out]; rfl, HQ.out⟩
  · have b15 : ((s.size : Int) != 15) = true := by rw [bne_iff_ne]; omega
    have HE := Lib.hid (numbN_of (numV_form (tok_no_size h15)))
    clear h15
    go_enter Tryd.func26, Tryd.ntmps26
    go_wp2
    go_ret2
    exact ⟨by rw [HE.out]; rfl, HQ.out⟩
end Go.Proofs.YtalopcbjcgbdfaaDoor
