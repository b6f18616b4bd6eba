/-
  The contract of remitlaw05.IdentOrder: it answers true.
-/
import Derived.Test.YtalopcbjcgbdfaaDoorIToken
import Derived.Test.YtalopcbjcgbdfaaDoorILives
import Derived.Test.YtalopcbjcgbdfaaDoorISysM
import Derived.WalkLawsBesides
import Derived.Deep.DeepCutAuto
import Derived.Outline
namespace Go.Proofs.YtalopcbjcgbdfaaDoor
open Go.RowKit Go.WideShapes
set_option maxRecDepth 100000

theorem iCheck_no (ef : Addr) (s : ByteArray) (w : World) (hs : s.size ≤ maxLen) (hf : FormAt ef w) (hc : formS s = false) :
    Calls Tryd.prog 13 #[.string s] w fun e w' => e = .returned (formV ef) ∧ w' = w := by
  have H1 := Lib.hid (isAccount_any s w hs)
  have hf' : w.cell? ⟨1, 0, none⟩ = some (formV ef) := hf
  rw [hc] at H1
  clear hc hf
  go_enter Tryd.func13, Tryd.ntmps13
  go_wp2_with fail
  refine H1.out.mono ?_
  rintro e w' ⟨rfl, rfl⟩
  go_wp2
  go_ret
  exact ⟨rfl, rfl⟩

/-- What a token's call answers. -/
def TokV (er : Addr) (n : Int) (x : ByteArray) (e : Value) : Prop := (1 ≤ n ∧ n ≤ 999999999999 ∧ x = tokS n.toNat ∧ e = .nilIface) ∨ ((n < 1 ∨ 999999999999 < n) ∧ x = ⟨#[]⟩ ∧ e = rangeV er)
def TokCut (er : Addr) (m : Int) (x1 : ByteArray) (e1 : Value) (w3 : World) (t : Value) (wx : World) : Prop := w3 = wx ∧ ((t = .bool true ∧ 1 ≤ m ∧ m ≤ 999999999999 ∧ x1 = tokS m.toNat ∧ e1 = .nilIface) ∨ (t = .bool false ∧ x1 = ⟨#[]⟩ ∧ e1 = rangeV er))
theorem tokV_ex (er : Addr) (n : Int) : ∃ x e, tokenV er n = .tuple #[.string x, e] ∧ TokV er n x e := by
  by_cases h : 1 ≤ n ∧ n ≤ 999999999999
  · exact ⟨_, _, if_pos h, .inl ⟨h.1, h.2, rfl, rfl⟩⟩
  · exact ⟨_, _, if_neg h, .inr ⟨by omega, rfl, rfl⟩⟩
theorem tokS_size (n : Nat) : (tokS n).size = 15 := by show (I.tok n).toArray.size = 15; rw [List.size_toArray, I.tok_length]
theorem tokS_less {m n : Nat} (hm : m ≤ 999999999999) (hn : n ≤ 999999999999) : Op.bytesLess (tokS m).toList (tokS n).toList = decide (m < n) := by
  rw [Lib.toList_data, Lib.toList_data]
  exact I.less_tok (by omega) (by omega)
theorem tok_lt {m n : Int} (a1 : 1 ≤ m) (a2 : m ≤ 999999999999) (b1 : 1 ≤ n) (b2 : n ≤ 999999999999) : (!(Op.bytesLess (tokS m.toNat).toList (tokS n.toNat).toList == decide (m < n))) = false := by
  rw [tokS_less (by omega) (by omega)]
  have e : decide (m.toNat < n.toNat) = decide (m < n) := by rw [decide_eq_decide]; omega
  rw [e]; simp
theorem numbV_tok {ef ed : Addr} {n : Nat} (h : 1 ≤ n) (h2 : n ≤ 999999999999) : numbV ef ed (tokS n).data.toList = .tuple #[.int .i64 (n : Int), .nilIface] := by
  unfold numbV
  rw [show (tokS n).data.toList = I.tok n from rfl, I.numV_tok h (by omega)]; rfl

theorem sys_empty {k : Int} {c : List UInt8} (h : I.sysV k c = []) : (sysB k c).toList.isEmpty = true := by
  rw [Lib.toList_data]; unfold sysB; rw [h]; rfl
theorem sys_full {k : Int} {c : List UInt8} (h : I.sysV k c ≠ []) : (sysB k c).toList.isEmpty = false := by
  rw [Lib.toList_data]; unfold sysB
  cases hl : I.sysV k c with
  | nil => exact absurd hl h
  | cons _ _ => rfl
theorem sys_noform {k : Int} {c : List UInt8} (h : I.sysV k c ≠ []) : formS (sysB k c) = false := by
  cases hf : formS (sysB k c) with
  | false => rfl
  | true =>
    have h7 := I.sys_chk h
    have hf' : I.form (I.sysV k c) = true := hf
    unfold I.chk at h7
    rw [if_pos hf'] at h7
    split at h7 <;> cases h7
theorem sysB_size {k : Int} {c : List UInt8} (h : I.sysV k c ≠ []) : (sysB k c).size ≤ maxLen := by
  have e : (sysB k c).size = (I.sysV k c).length := by unfold sysB; show (I.sysV k c).toArray.size = _; rw [List.size_toArray]
  rw [e, (I.sys_some h).2, List.length_append]
  have hc : c.length = 3 := by
    have hq : codeB c = true := by
      unfold I.sysV at h
      by_cases q : I.sysHead k ≠ [] ∧ codeB c = true
      · exact q.2
      · rw [if_neg q] at h; exact absurd rfl h
    unfold codeB at hq
    rw [Bool.and_eq_true] at hq
    exact eq_of_beq hq.1
  have hh : (I.sysHead k).length ≤ 9 := by
    rcases I.sysHead_cases k with ⟨q, _⟩ | ⟨_, q⟩ | ⟨_, q⟩ | ⟨_, q⟩ | ⟨_, q⟩ <;> rw [q] <;> decide
  unfold maxLen; omega
theorem sys_eqB {k j : Int} {a b : ByteArray} (ha : I.sysV k a.data.toList ≠ []) (hb : I.sysV j b.data.toList ≠ []) :
    (((sysB k a.data.toList).toList == (sysB j b.data.toList).toList) = true ∧ (k == j) = true ∧ (a.toList == b.toList) = true) ∨ (((sysB k a.data.toList).toList == (sysB j b.data.toList).toList) = false ∧ (k == j) = true ∧ (a.toList == b.toList) = false) ∨ (((sysB k a.data.toList).toList == (sysB j b.data.toList).toList) = false ∧ (k == j) = false) := by
  have h := I.sys_eq ha hb
  simp only [Lib.toList_data, beq_iff_eq, beq_eq_false_iff_ne, ne_eq]
  show (I.sysV k a.data.toList = I.sysV j b.data.toList ∧ _) ∨ (¬ I.sysV k a.data.toList = I.sysV j b.data.toList ∧ _) ∨ (¬ I.sysV k a.data.toList = I.sysV j b.data.toList ∧ _)
  rw [h]
  by_cases h1 : k = j
  · by_cases h2 : a.data.toList = b.data.toList
    · exact .inl ⟨⟨h1, h2⟩, h1, h2⟩
    · exact .inr (.inl ⟨fun q => h2 q.2, h1, h2⟩)
  · exact .inr (.inr ⟨fun q => h1 q.1, h1⟩)
/-- What a number's call answers. -/
def NumV (ef ed : Addr) (l : List UInt8) (x : Int) (e : Value) : Prop := (∃ v : Nat, x = (v : Int) ∧ e = .nilIface ∧ 1 ≤ v ∧ v ≤ 999999999999 ∧ I.tok v = l) ∨ e = formV ef ∨ e = digE ed
theorem numbV_ex (ef ed : Addr) (l : List UInt8) : ∃ x e, numbV ef ed l = .tuple #[.int .i64 x, e] ∧ NumV ef ed l x e := by
  have key : (∃ v, I.numV l = (v, 0)) ∨ ∃ n, I.numV l = (0, n) ∧ (n = 7 ∨ n = 8) := by
    unfold I.numV
    split
    · split
      · split
        · exact .inr ⟨7, rfl, .inl rfl⟩
        · exact .inl ⟨_, rfl⟩
      · exact .inr ⟨8, rfl, .inr rfl⟩
    · exact .inr ⟨7, rfl, .inl rfl⟩
  unfold numbV
  rcases key with ⟨v, hv⟩ | ⟨n, hv, rfl | rfl⟩
  · obtain ⟨h1, h2, h3⟩ := I.tok_numV hv
    rw [hv]
    exact ⟨_, _, rfl, .inl ⟨v, rfl, rfl, h1, by omega, h3⟩⟩
  · rw [hv]; exact ⟨_, _, rfl, .inr (.inl rfl)⟩
  · rw [hv]; exact ⟨_, _, rfl, .inr (.inr rfl)⟩
def NumCut (x : Int) (l : List UInt8) (w5 : World) (t : Value) (wx : World) : Prop := w5 = wx ∧ ((t = .bool true ∧ ∃ v : Nat, x = (v : Int) ∧ 1 ≤ v ∧ v ≤ 999999999999 ∧ I.tok v = l) ∨ t = .bool false)
set_option maxHeartbeats 3200000 in
theorem order_any (er ef ed ei : Addr) (m n : Int) (s : ByteArray) (k1 k2 : Int) (c1 c2 : ByteArray) (w : World)
    (m0 : -9223372036854775808 ≤ m) (m1 : m < 9223372036854775808) (n0 : -9223372036854775808 ≤ n) (n1 : n < 9223372036854775808) (hs : s.size ≤ 140737488351232) (hc1 : c1.size ≤ 140737488351232) (hc2 : c2.size ≤ 140737488351232)
    (hr : RangeAt er w) (hf : FormAt ef w) (hd : DigAt ed w) (hi : IdAt ei w) (ht : Tab10 w) :
    Calls Tryd.prog 8 #[.int .i64 m, .int .i64 n, .string s, .int .i64 k1, .int .i64 k2, .string c1, .string c2] w fun e w' => e = .returned (.bool true) ∧ Qt w w' := by
  have HL := Lib.hid (iLives_any ef ei w hf hi)
  have FE := Lib.hid (fun W (k : Qt w W) => hf.qt k)
  have T := Lib.hid (fun n (lo : -9223372036854775808 ≤ n) (hi : n < 9223372036854775808) W (k : Qt w W) => iToken_any er ef n W lo hi (hr.qt k) (hf.qt k) (ht.qt k))
  have T1 := Lib.hid (T.out m m0 m1)
  have T2 := Lib.hid (T.out n n0 n1)
  obtain ⟨x1, e1, q1, h1⟩ := tokV_ex er m
  obtain ⟨x2, e2, q2, h2⟩ := tokV_ex er n
  rw [q1] at T1; rw [q2] at T2
  have N := Lib.hid (fun s (hs : s.size ≤ maxLen) W (k : Qt w W) => iNumber_any ef ed s W hs (hf.qt k) (hd.qt k))
  clear q1 q2 m0 m1 n0 n1
  have H1 := Lib.hid h1
  have H2 := Lib.hid h2
  clear h1 h2 hr hf hd hi ht
  go_enter Tryd.func8, Tryd.ntmps8
  go_wp2_with fail
  refine HL.out.mono ?_
  rintro e w1 ⟨rfl, k1⟩
  have K1 := Lib.hid k1; clear k1
  go_wp2_with fail
  refine (T1.out _ K1.out).mono ?_
  rintro e w2 ⟨rfl, k2⟩
  have K2 := Lib.hid (Qt.trans K1.out k2); clear k2
  go_wp2_with fail
  refine (T2.out _ K2.out).mono ?_
  rintro e w3 ⟨rfl, k3⟩
  have K3 := Lib.hid (Qt.trans K2.out k3); clear k3
  go_upto_region 6 with (fail)
  go_cut [60] from 41 to 60 (fun t wx => w3 = wx ∧ t = .bool false)
  case first =>
    rcases H1.out with ⟨a1, a2, rfl, rfl⟩ | ⟨a1 | a1, rfl, rfl⟩
    all_goals
      rcases H2.out with ⟨b1, b2, rfl, rfl⟩ | ⟨b1 | b1, rfl, rfl⟩
    all_goals
      go_wp2
      go_meet
      exact ⟨rfl, by first | rfl | (simp; omega)⟩
  case rest =>
    obtain ⟨rfl, rfl⟩ := hcut
    go_upto_region 8 with (fail)
    go_cut [62] from 61 to 62 (fun t wx => TokCut er m x1 e1 w3 t wx)
    case first =>
      rcases H1.out with ⟨a1, a2, rfl, rfl⟩ | ⟨_, rfl, rfl⟩
      · go_wp2
        go_meet
        exact ⟨rfl, .inl ⟨rfl, a1, a2, rfl, rfl⟩⟩
      · go_wp2
        go_meet
        exact ⟨rfl, .inr ⟨rfl, rfl, rfl⟩⟩
    case rest =>
      obtain ⟨rfl, hm⟩ := hcut
      have HM := Lib.hid hm
      clear hm
      go_upto_if 62 with (fail)
      go_cut [20, 21] from 63 to 79 (fun a b wx => Qt w wx ∧ (∃ z : Value, a = z) ∧ ∃ z : Value, b = z)
      case first =>
        rcases HM.out with ⟨rfl, a1, a2, rfl, rfl⟩ | ⟨rfl, rfl, rfl⟩
        · obtain ⟨m, rfl⟩ : ∃ k : Nat, m = (k : Int) := ⟨m.toNat, by omega⟩
          have a1' : 1 ≤ m := by omega
          have a2' : m ≤ 999999999999 := by omega
          have NM := Lib.hid (N.out (tokS m) (by rw [tokS_size]; decide) _ K3.out)
          rw [numbV_tok a1' a2'] at NM
          have hsz : (((tokS m).size : Int) != 15) = false := by rw [tokS_size]; rfl
          rw [show ((m : Int).toNat) = m from rfl] at *
          clear H1 HM T1 T2 T a1 a2
          generalize tokS m = X at *
          go_wp2_with fail
          refine NM.out.mono ?_
          rintro e w4 ⟨rfl, k4⟩
          have K4 := Lib.hid (Qt.trans K3.out k4); clear k4
          go_wp2
          go_meet
          exact ⟨K4.out, ⟨_, rfl⟩, ⟨_, rfl⟩⟩
        · go_wp2
          go_meet
          exact ⟨K3.out, ⟨_, rfl⟩, ⟨_, rfl⟩⟩
      case rest =>
        obtain ⟨q, _, _⟩ := hcut
        have K4 := Lib.hid q
        clear q HM K3
        go_upto_region 12 with (fail)
        go_cut [94] from 80 to 94 (fun t wx => wc = wx ∧ t = .bool false)
        case first =>
          rcases H1.out with ⟨a1, a2, rfl, rfl⟩ | ⟨_, rfl, rfl⟩
          · rcases H2.out with ⟨b1, b2, rfl, rfl⟩ | ⟨_, rfl, rfl⟩
            · go_wp2
              go_meet
              exact ⟨rfl, congrArg Value.bool (tok_lt a1 a2 b1 b2)⟩
            · go_wp2
              go_meet
              exact ⟨rfl, rfl⟩
          · go_wp2
            go_meet
            exact ⟨rfl, rfl⟩
        case rest =>
          obtain ⟨rfl, rfl⟩ := hcut
          clear H1 H2 T1 T2 K1 K2
          have NS := Lib.hid (N.out s (by unfold maxLen; omega) _ K4.out)
          obtain ⟨x3, e3, q3, h3⟩ := numbV_ex ef ed s.data.toList
          rw [q3] at NS
          have H3 := Lib.hid h3
          clear q3 h3 hs
          go_wp2_with fail
          refine NS.out.mono ?_
          rintro e w5 ⟨rfl, k5⟩
          have K5 := Lib.hid (Qt.trans K4.out k5); clear k5
          go_upto_region 15 with (fail)
          go_cut [101] from 100 to 101 (fun t wx => NumCut x3 s.data.toList w5 t wx)
          case first =>
            rcases H3.out with ⟨v, rfl, rfl, v1, v2, hv⟩ | rfl | rfl
            · go_wp2
              go_meet
              exact ⟨rfl, .inl ⟨rfl, v, rfl, v1, v2, hv⟩⟩
            · go_wp2
              go_meet
              exact ⟨rfl, .inr rfl⟩
            · go_wp2
              go_meet
              exact ⟨rfl, .inr rfl⟩
          case rest =>
            obtain ⟨rfl, h4⟩ := hcut
            have H4 := Lib.hid h4
            clear h4
            go_upto_if 101 with (fail)
            go_cut [24, 25] from 102 to 113 (fun a b wx => Qt w wx ∧ (∃ z : Value, a = z) ∧ ∃ z : Value, b = z)
            case first =>
              rcases H4.out with ⟨rfl, v, rfl, v1, v2, hv⟩ | rfl
              · have TV := Lib.hid (fun W k => T.out (v : Int) (by omega) (by omega) W k)
                rw [tokenV_yes (er := er) v1 v2, show tokS v = s from (str_list hv.symm).symm] at TV
                clear hv v1 v2 H3 H4 T N
                go_wp2_with fail
                refine (TV.out _ K5.out).mono ?_
                rintro e w6 ⟨rfl, k6⟩
                have K6 := Lib.hid (Qt.trans K5.out k6); clear k6
                go_wp2
                go_meet
                exact ⟨K6.out, ⟨_, rfl⟩, ⟨_, rfl⟩⟩
              · go_wp2
                go_meet
                exact ⟨K5.out, ⟨_, rfl⟩, ⟨_, rfl⟩⟩
            case rest =>
              obtain ⟨q, _, _⟩ := hcut
              have K6 := Lib.hid q
              clear q H3 H4 K5 T N NS HL
              have S1 := Lib.hid (fun W => iSystem_any k1 c1 W (by omega))
              have S2 := Lib.hid (fun W => iSystem_any k2 c2 W (by omega))
              clear hc1 hc2
              by_cases p1 : I.sysV k1 c1.data.toList = []
              · have b1 := sys_empty p1
                have b2 : (!(sysB k1 c1.data.toList).toList.isEmpty) = false := by rw [b1]; rfl
                generalize sysB k1 c1.data.toList = A at *
                generalize sysB k2 c2.data.toList = B at *
                clear p1
                go_wp2_with fail
                refine (S1.out _).mono ?_
                rintro e w7 ⟨rfl, rfl⟩
                go_wp2_with fail
                refine (S2.out _).mono ?_
                rintro e w7 ⟨rfl, rfl⟩
                go_wp2
                go_ret
                exact ⟨rfl, K6.out⟩
              · have b1 := sys_full p1
                have b2 : (!(sysB k1 c1.data.toList).toList.isEmpty) = true := by rw [b1]; rfl
                by_cases p2 : I.sysV k2 c2.data.toList = []
                · have b3 := sys_empty p2
                  have b4 : (!(sysB k2 c2.data.toList).toList.isEmpty) = false := by rw [b3]; rfl
                  generalize sysB k1 c1.data.toList = A at *
                  generalize sysB k2 c2.data.toList = B at *
                  clear p1 p2
                  go_wp2_with fail
                  refine (S1.out _).mono ?_
                  rintro e w7 ⟨rfl, rfl⟩
                  go_wp2_with fail
                  refine (S2.out _).mono ?_
                  rintro e w7 ⟨rfl, rfl⟩
                  go_wp2
                  go_ret
                  exact ⟨rfl, K6.out⟩
                · have b3 := sys_full p2
                  have b4 : (!(sysB k2 c2.data.toList).toList.isEmpty) = true := by rw [b3]; rfl
                  have hq := sys_eqB p1 p2
                  have hform := sys_noform p1
                  have hAs := sysB_size p1
                  have HF := Lib.hid (fun n => FE.out _ (Keeps.drewN K6.out n))
                  have hf1 : wc.cell? ⟨1, 0, none⟩ = some (formV ef) := FE.out _ K6.out
                  have HEQ := eq_same ef
                  generalize sysB k1 c1.data.toList = A at *
                  generalize sysB k2 c2.data.toList = B at *
                  have CN := Lib.hid (fun n => iCheck_no ef A (wc.drewN n) hAs (HF.out n) hform)
                  have hcs : ((A.toList == B.toList) = true ∧ (k1 == k2) = true ∧ (c1.toList == c2.toList) = true) ∨ ((A.toList == B.toList) = false ∧ (k1 == k2) = true ∧ (c1.toList == c2.toList) = false) ∨ ((A.toList == B.toList) = false ∧ (k1 == k2) = false) := hq
                  clear p1 p2 hq hform hAs FE
                  rcases hcs with ⟨e1, e2, e3⟩ | ⟨e1, e2, e3⟩ | ⟨e1, e2⟩
                  all_goals
                    go_wp2_with fail
                    refine (S1.out _).mono ?_
                    rintro e w7 ⟨rfl, rfl⟩
                    go_wp2_with fail
                    refine (S2.out _).mono ?_
                    rintro e w7 ⟨rfl, rfl⟩
                    go_wp2
                    go_quiet ((go_at_call 13; exact Calls.quiet_of_same (CN.out _)))
                    go_wp2
                    go_ret
                    exact ⟨rfl, Keeps.drewN K6.out _⟩
end Go.Proofs.YtalopcbjcgbdfaaDoor
