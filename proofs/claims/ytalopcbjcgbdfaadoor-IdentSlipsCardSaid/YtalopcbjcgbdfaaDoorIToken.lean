/-
  The contracts of package ident's Token, isToken, Number.
-/
import Derived.Test.YtalopcbjcgbdfaaDoorITab
import Derived.Test.YtalopcbjcgbdfaaDoorICheck
import Derived.Test.YtalopcbjcgbdfaaDoorIMask
import Derived.Test.YtalopcbjcgbdfaaDoorShelf
import Derived.StillTailTactics
import Derived.Deep.QuietTactic
import Derived.BigQuiet
namespace Go.Proofs.YtalopcbjcgbdfaaDoor
open Go.RowKit Go.WideShapes
set_option maxRecDepth 100000

def RangeAt (er : Addr) (w : World) : Prop := w.cell? ⟨0, 0, none⟩ = some (.iface 107 (.pointer (some er)))
theorem RangeAt.qt {er : Addr} {w w' : World} (h : RangeAt er w) (k : Qt w w') : RangeAt er w' := k.cellv h
abbrev rangeV (er : Addr) : Value := .iface 107 (.pointer (some er))

/-! ### Token -/
def tokS (n : Nat) : ByteArray := ⟨(I.tok n).toArray⟩
def tokenV (er : Addr) (n : Int) : Value := if 1 ≤ n ∧ n ≤ 999999999999 then .tuple #[.string (tokS n.toNat), .nilIface] else .tuple #[.string ⟨#[]⟩, rangeV er]
theorem tokenV_yes {er : Addr} {n : Nat} (h : 1 ≤ n) (h2 : n ≤ 999999999999) : tokenV er n = .tuple #[.string (tokS n), .nilIface] := by unfold tokenV; rw [if_pos ⟨by omega, by omega⟩, Int.toNat_natCast]
theorem tokenV_no {er : Addr} {n : Int} (h : ¬ (1 ≤ n ∧ n ≤ 999999999999)) : tokenV er n = .tuple #[.string ⟨#[]⟩, rangeV er] := if_neg h
theorem head_str (n : Nat) (h : n ≤ 999999999999) : (⟨#[80]⟩ : ByteArray) ++ ⟨(List.replicate (12 - (M.dec n).length) 48).toArray⟩ ++ ⟨(M.dec n).toArray⟩ = ⟨(I.head13 n).toArray⟩ := by
  apply str_list
  rw [dapp, dapp]
  show [80] ++ List.replicate (12 - (M.dec n).length) 48 ++ M.dec n = I.head13 n
  rw [List.append_assoc, (I.low12 (by omega)).2]; rfl
theorem tok_str {n m : Nat} (h : I.tok n = I.head13 n ++ C.two m) : (⟨(I.head13 n).toArray⟩ : ByteArray) ++ ⟨(C.two m).toArray⟩ = tokS n := by
  unfold tokS
  rw [h]
  exact str_list (by rw [dapp])

set_option maxHeartbeats 3200000 in
theorem iToken_any (er ef : Addr) (n : Int) (w : World) (lo : -9223372036854775808 ≤ n) (hi : n < 9223372036854775808) (hr : RangeAt er w) (hf : FormAt ef w) (ht : Tab10 w) :
    Calls Tryd.prog 23 #[.int .i64 n] w fun e w' => e = .returned (tokenV er n) ∧ Qt w w' := by
  have hr' : w.cell? ⟨0, 0, none⟩ = some (rangeV er) := hr
  have HQ := Lib.hid (Qt.refl w)
  by_cases h1 : n < 1
  · have HE := Lib.hid (tokenV_no (er := er) (n := n) (by omega))
    clear hr hf ht lo hi
    go_enter Tryd.func23, Tryd.ntmps23
    go_wp2
    go_quiet (fail)
    go_wp2
    go_ret2
    exact ⟨by rw [HE.out]; rfl, Keeps.drewN HQ.out _⟩
  · by_cases h2 : 999999999999 < n
    · have HE := Lib.hid (tokenV_no (er := er) (n := n) (by omega))
      clear hr hf ht lo hi
      go_enter Tryd.func23, Tryd.ntmps23
      go_wp2
      go_quiet (fail)
      go_wp2
      go_ret2
      exact ⟨by rw [HE.out]; rfl, Keeps.drewN HQ.out _⟩
    · obtain ⟨n, rfl⟩ : ∃ m : Nat, n = (m : Int) := ⟨n.toNat, by omega⟩
      have b1 : 1 ≤ n := by omega
      have b2 : n ≤ 999999999999 := by omega
      have HE := Lib.hid (tokenV_yes (er := er) b1 b2)
      have IT := Lib.hid (Tryd.strconv_Itoa (n : Int) (by omega) (by omega) w ht)
      rw [itoa_dec] at IT
      obtain ⟨hl, _⟩ := I.low12 (n := n) (by omega)
      obtain ⟨m, _, hd, htk⟩ := I.tok_some n
      obtain ⟨c, hc⟩ : ∃ c, 12 - (M.dec n).length = c := ⟨_, rfl⟩
      have HS := head_str n b2
      rw [hc] at HS
      have RP := Lib.hid (fun W => Tryd.strings_Repeat ⟨#[48]⟩ c W (by omega) (by show 1 * c ≤ _; omega))
      rw [show (⟨#[48]⟩ : ByteArray).data.toList = [48] from rfl, repeat_one] at RP
      have HD := Lib.hid (fun W (k : Qt w W) => digits_any ef ⟨(I.head13 n).toArray⟩ W (by show (I.head13 n).toArray.size ≤ _; rw [List.size_toArray, I.head13_length]; decide) (hf.qt k))
      rw [show (⟨(I.head13 n).toArray⟩ : ByteArray).data.toList = I.head13 n from rfl, digV_of hd] at HD
      have HT := Lib.hid (tok_str htk)
      have ec : (12 : Int) - ((M.dec n).length : Int) = (c : Int) := by omega
      have hsz : (⟨(M.dec n).toArray⟩ : ByteArray).size = (M.dec n).length := by show (M.dec n).toArray.size = _; rw [List.size_toArray]
      generalize hA : (⟨(M.dec n).toArray⟩ : ByteArray) = A at *
      generalize hB : (⟨(List.replicate c 48).toArray⟩ : ByteArray) = B at *
      generalize hC : (⟨(I.head13 n).toArray⟩ : ByteArray) = H at *
      generalize hD : (⟨(C.two m).toArray⟩ : ByteArray) = D at *
      have hBs : B.size = c := by rw [← hB]; show (List.replicate c (48 : UInt8)).toArray.size = c; simp
      have hDs : D.size = 2 := by rw [← hD]; rfl
      have hHs : H.size = 13 := by rw [← hC]; show (I.head13 n).toArray.size = 13; rw [List.size_toArray, I.head13_length]
      rw [← hsz] at ec
      have hAl : A.size ≤ 12 := by rw [hsz]; exact hl
      have HSS := Lib.hid HS
      clear hA hB hC hD hd htk hc hr hf ht lo hi hl hsz HS
      go_enter Tryd.func23, Tryd.ntmps23
      go_wp2_with fail
      refine IT.out.mono ?_
      rintro e w1 ⟨rfl, k, os, rfl⟩
      have K1 := Lib.hid (qt_grow w k os)
      generalize Sort.grow (w.drewN k) os = w1 at *
      go_wp2_with fail
      refine (RP.out _).mono ?_
      rintro e w2 ⟨rfl, k2⟩
      have K2 := Lib.hid (Qt.trans K1.out (Qt.of_below k2)); clear k2
      go_wp2_with fail
      rw [HSS.out]
      refine (HD.out _ K2.out).mono ?_
      rintro e w3 ⟨rfl, k3⟩
      have K3 := Lib.hid (Qt.trans K2.out k3); clear k3
      go_wp2
      go_ret2
      exact ⟨by rw [HE.out, ← HT.out, ← HSS.out]; rfl, K3.out⟩

/-! ### Number -/
theorem isTok_prefix (s : ByteArray) : I.isTok s.data.toList = (Lib.hasPrefix s.data.toList [80] && (decide (s.size = 15) && (Lib.trimPrefix s.data.toList [80]).all I.dig)) := by
  unfold I.isTok
  have e : s.data.toList.length = s.size := rfl
  rw [e]
  unfold Lib.trimPrefix Lib.hasPrefix
  generalize s.data.toList = l
  cases l with
  | nil => simp
  | cons c r =>
    have h1 : ([80] : List UInt8).isPrefixOf (c :: r) = ((80 : UInt8) == c) := by simp [List.isPrefixOf]
    rw [h1]
    have h2 : ((c :: r).head? == some 80) = ((80 : UInt8) == c) := by
      show (some c == some 80) = _
      rw [Bool.eq_iff_iff, beq_iff_eq, beq_iff_eq]
      exact ⟨fun h => (Option.some.inj h).symm, fun h => by rw [h]⟩
    rw [h2]
    cases ((80 : UInt8) == c) with
    | true => simp
    | false => simp
theorem tok_no_prefix {s : ByteArray} (h : Lib.hasPrefix s.data.toList [80] = false) : I.isTok s.data.toList = false := by rw [isTok_prefix, h, Bool.false_and]
theorem tok_no_size {s : ByteArray} (h : ¬ s.size = 15) : I.isTok s.data.toList = false := by rw [isTok_prefix, decide_eq_false h, Bool.false_and, Bool.and_false]
theorem tok_tail {s : ByteArray} (h : Lib.hasPrefix s.data.toList [80] = true) (h2 : s.size = 15) : I.isTok s.data.toList = allS I.dig ⟨(Lib.trimPrefix s.data.toList [80]).toArray⟩ := by
  rw [isTok_prefix, h, decide_eq_true h2, Bool.true_and, Bool.true_and]; rfl
theorem trim_size (s : ByteArray) : (⟨(Lib.trimPrefix s.data.toList [80]).toArray⟩ : ByteArray).size ≤ s.size := by
  show (Lib.trimPrefix s.data.toList [80]).toArray.size ≤ s.data.toList.length
  rw [List.size_toArray]
  unfold Lib.trimPrefix
  split
  · rw [List.length_drop]; omega
  · exact Nat.le_refl _
set_option maxHeartbeats 1600000 in
theorem isToken_any (s : ByteArray) (w : World) (hs : s.size ≤ maxLen) :
    Calls Tryd.prog 46 #[.string s] w fun e w' => e = .returned (.bool (I.isTok s.data.toList)) ∧ w = w' := by
  have CP := Lib.hid (Tryd.strings_CutPrefix s ⟨#[80]⟩ w)
  rw [show (⟨#[80]⟩ : ByteArray).data.toList = [80] from rfl] at CP
  cases hp : Lib.hasPrefix s.data.toList [80] with
  | false =>
    have HE := Lib.hid (tok_no_prefix hp)
    rw [hp] at CP
    clear hp
    go_enter Tryd.func46, Tryd.ntmps46
    go_wp2_with fail
    refine CP.out.mono ?_
    rintro e w' ⟨rfl, rfl⟩
    go_wp2
    go_ret
    exact ⟨ret_bo HE.out.symm, rfl⟩
  | true =>
    by_cases h15 : s.size = 15
    · have HE := Lib.hid (tok_tail hp h15)
      have HC := Lib.hid (fun W => consistsDig_any ⟨(Lib.trimPrefix s.data.toList [80]).toArray⟩ W (Nat.le_trans (trim_size s) hs))
      have hb : ((s.size : Int) == 15) = true := by rw [beq_iff_eq]; omega
      rw [hp] at CP
      clear hp h15
      go_enter Tryd.func46, Tryd.ntmps46
      go_wp2_with fail
      refine CP.out.mono ?_
      rintro e w' ⟨rfl, rfl⟩
      go_wp2_with fail
      refine (HC.out _).mono ?_
      rintro e w' ⟨rfl, rfl⟩
      go_wp2
      go_ret
      exact ⟨ret_bo HE.out.symm, rfl⟩
    · have HE := Lib.hid (tok_no_size h15)
      have hb : ((s.size : Int) == 15) = false := by rw [beq_eq_false_iff_ne]; omega
      rw [hp] at CP
      clear hp h15
      go_enter Tryd.func46, Tryd.ntmps46
      go_wp2_with fail
      refine CP.out.mono ?_
      rintro e w' ⟨rfl, rfl⟩
      go_wp2
      go_ret
      exact ⟨ret_bo HE.out.symm, rfl⟩

def numbV (ef ed : Addr) (s : List UInt8) : Value := .tuple #[.int .i64 ((I.numV s).1 : Nat), accE ef ed (I.numV s).2]
theorem numV_form {s : List UInt8} (h : I.isTok s = false) : I.numV s = (0, 7) := by unfold I.numV; rw [if_neg (by rw [h]; decide)]
theorem numV_unfit {s : List UInt8} (h : I.isTok s = true) (h2 : C.fits s = false) : I.numV s = (0, 8) := by unfold I.numV; rw [if_pos h, if_neg (by rw [h2]; decide)]
theorem numV_nought {s : List UInt8} (h : I.isTok s = true) (h2 : C.fits s = true) (h3 : I.numOf s = 0) : I.numV s = (0, 7) := by unfold I.numV; rw [if_pos h, if_pos h2, if_pos h3]
theorem numV_yes {s : List UInt8} (h : I.isTok s = true) (h2 : C.fits s = true) (h3 : I.numOf s ≠ 0) : I.numV s = (I.numOf s, 0) := by unfold I.numV; rw [if_pos h, if_pos h2, if_neg h3]
theorem tok_middle {s : ByteArray} (h : I.isTok s.data.toList = true) : s.size = 15 ∧ Lib.atoi (s.extract 1 13).data.toList = some ((I.numOf s.data.toList : Nat) : Int) ∧ I.numOf s.data.toList < 1000000000000 := by
  obtain ⟨hl, hh, ha⟩ := I.isTok_iff.1 h
  have e : (s.extract 1 13).data.toList = (s.data.toList.drop 1).take 12 := dslice s 1 13
  obtain ⟨x, d, hx, hx1, hd, ax, _⟩ := I.isTok_parts h
  have e2 : (s.data.toList.drop 1).take 12 = x := by
    rw [hx]
    show (x ++ d).take 12 = x
    rw [List.take_left' hx1]
  have en : I.numOf s.data.toList = M.val 0 x := by unfold I.numOf; rw [e2]
  refine ⟨hl, ?_, ?_⟩
  · rw [e, e2, en]
    exact atoi_val (by intro e0; rw [e0] at hx1; cases hx1) ax
  · rw [en]
    have := (M.val_lt 12 x 0 hx1 ax).2
    simpa using this

set_option maxHeartbeats 3200000 in
theorem iNumber_any (ef ed : Addr) (s : ByteArray) (w : World) (hs : s.size ≤ maxLen) (hf : FormAt ef w) (hd : DigAt ed w) :
    Calls Tryd.prog 25 #[.string s] w fun e w' => e = .returned (numbV ef ed s.data.toList) ∧ Qt w w' := by
  have hf' : w.cell? ⟨1, 0, none⟩ = some (formV ef) := hf
  have HQ := Lib.hid (Qt.refl w)
  have H1 := Lib.hid (isToken_any s w hs)
  cases h1 : I.isTok s.data.toList with
  | false =>
    have HE := Lib.hid (show numbV ef ed s.data.toList = .tuple #[.int .i64 0, formV ef] by unfold numbV; rw [numV_form h1]; rfl)
    rw [h1] at H1
    clear h1 hf hd hs
    go_enter Tryd.func25, Tryd.ntmps25
    go_wp2_with fail
    refine H1.out.mono ?_
    rintro e w' ⟨rfl, rfl⟩
    go_wp2
    go_quiet (fail)
    go_wp2
    go_ret2
    exact ⟨by rw [HE.out]; rfl, Keeps.drewN HQ.out _⟩
  | true =>
    obtain ⟨h15, hat, hlt⟩ := tok_middle h1
    rw [h1] at H1
    have H2 := Lib.hid (fits_any ef s w hs hf)
    cases h2 : C.fits s.data.toList with
    | false =>
      have HE := Lib.hid (show numbV ef ed s.data.toList = .tuple #[.int .i64 0, digE ed] by unfold numbV; rw [numV_unfit h1 h2]; rfl)
      have HD := Lib.hid (fun W (k : Qt w W) => show W.cell? ⟨3, 0, none⟩ = some (digE ed) from hd.qt k)
      rw [h2] at H2
      clear h1 h2 hf hd hs hat hlt h15 hf'
      go_enter Tryd.func25, Tryd.ntmps25
      go_wp2_with fail
      refine H1.out.mono ?_
      rintro e w' ⟨rfl, rfl⟩
      go_wp2_with fail
      refine H2.out.mono ?_
      rintro e w1 ⟨rfl, k1⟩
      have K1 := Lib.hid k1
      have hd1 := HD.out _ k1
      clear k1
      go_wp2
      go_quiet (fail)
      go_wp2
      go_ret2
      exact ⟨by rw [HE.out]; rfl, Keeps.drewN K1.out _⟩
    | true =>
      rw [h2] at H2
      have hl : (s.extract 1 13).size ≤ 18 := by rw [ByteArray.size_extract]; omega
      have AT := Lib.hid (fun W => Tryd.strconv_Atoi (s.extract 1 13) _ hl hat W)
      have h13i : (13 : Int) ≤ (s.size : Int) := by omega
      have h13 : 13 ≤ s.size := by omega
      have HF := Lib.hid (fun W (k : Qt w W) => show W.cell? ⟨1, 0, none⟩ = some (formV ef) from hf.qt k)
      by_cases h3 : I.numOf s.data.toList = 0
      · have HE := Lib.hid (show numbV ef ed s.data.toList = .tuple #[.int .i64 0, formV ef] by unfold numbV; rw [numV_nought h1 h2 h3]; rfl)
        rw [h3, show ((0 : Nat) : Int) = 0 from rfl] at AT
        clear h1 h2 hf hd hs hat hlt h15 hf' h3
        go_enter Tryd.func25, Tryd.ntmps25
        go_wp2_with fail
        refine H1.out.mono ?_
        rintro e w' ⟨rfl, rfl⟩
        go_wp2_with fail
        refine H2.out.mono ?_
        rintro e w1 ⟨rfl, k1⟩
        have K1 := Lib.hid k1
        clear k1
        go_wp2_with fail
        refine (AT.out _).mono ?_
        rintro e w2 ⟨rfl, t, rfl⟩
        have k2 := Qt.trans K1.out (qt_bytesWorld w1 5 t)
        have K2 := Lib.hid k2
        have hf2 := HF.out _ k2
        clear k2
        generalize Lib.bytesWorld w1 5 t = w2 at *
        go_wp2
        go_quiet (fail)
        go_wp2
        go_ret2
        exact ⟨by rw [HE.out]; rfl, Keeps.drewN K2.out _⟩
      · have HE := Lib.hid (show numbV ef ed s.data.toList = .tuple #[.int .i64 (I.numOf s.data.toList : Nat), .nilIface] by unfold numbV; rw [numV_yes h1 h2 h3]; rfl)
        generalize I.numOf s.data.toList = v at *
        have hv : ((v : Int) == 0) = false := by rw [beq_eq_false_iff_ne]; omega
        clear h1 h2 hf hd hs hat hlt h15 hf' h3
        go_enter Tryd.func25, Tryd.ntmps25
        go_wp2_with fail
        refine H1.out.mono ?_
        rintro e w' ⟨rfl, rfl⟩
        go_wp2_with fail
        refine H2.out.mono ?_
        rintro e w1 ⟨rfl, k1⟩
        have K1 := Lib.hid k1
        clear k1
        go_wp2_with fail
        refine (AT.out _).mono ?_
        rintro e w2 ⟨rfl, t, rfl⟩
        have K2 := Lib.hid (Qt.trans K1.out (qt_bytesWorld w1 5 t))
        generalize Lib.bytesWorld w1 5 t = w2 at *
        go_wp2
        go_ret2
        exact ⟨by rw [HE.out]; rfl, K2.out⟩
end Go.Proofs.YtalopcbjcgbdfaaDoor
