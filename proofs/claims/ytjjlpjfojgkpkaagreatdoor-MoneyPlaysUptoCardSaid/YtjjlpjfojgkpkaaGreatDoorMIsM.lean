/-
  The contracts of money's allDigits and isText.
-/
import Derived.Test.YtjjlpjfojgkpkaaGreatDoorQt
import Derived.Test.YtjjlpjfojgkpkaaGreatDoorMIsS
import Derived.Test.YtjjlpjfojgkpkaaGreatDoorShelf
import Derived.Shelf.Strings.SlTrimAscii
import Derived.LoopTactic
import Derived.Outline
import Derived.BigQuiet
import Derived.Deep.QuietTactic
import Derived.WalkSpells
namespace Go.Proofs.YtjjlpjfojgkpkaaGreatDoor
open Go.RowKit
set_option maxRecDepth 100000

abbrev MaxL4 (m : Int) (w : World) : Prop := w.cell? ⟨42, 0, none⟩ = some (.int .i64 m)
theorem retB4 {a b : Bool} (h : a = b) : Ending.returned (.bool a) = .returned (.bool b) := by rw [h]
theorem allDg_take {l : List UInt8} {k : Nat} (h : k < l.length) (ha : M.allDg (l.take k) = true) (hd : M.isDg l[k] = true) : M.allDg (l.take (k + 1)) = true := by
  rw [List.take_succ_eq_append_getElem h, M.allDg_append, ha]
  simp [M.allDg, hd]
theorem allDg_no {l : List UInt8} {k : Nat} (h : k < l.length) (hd : M.isDg l[k] = false) : M.allDg l = false := by
  unfold M.allDg
  rw [List.all_eq_false]
  exact ⟨l[k], List.getElem_mem h, by rw [hd]; decide⟩
theorem allDigits_any (s : ByteArray) (w : World) (hs : s.size ≤ 1125899906842624) :
    Calls Tryz.prog 55 #[.string s] w fun e w' => e = .returned (.bool (M.allDg s.data.toList)) ∧ w = w' := by
  go_enter Tryz.func55, Tryz.ntmps55
  go_wp2
  go_loop [6] (fun i => ∃ k : Nat, k ≤ s.size ∧ i = .int .i64 k ∧ M.allDg (s.data.toList.take k) = true) (fun i => s.size - (intOf i).toNat)
  case atStart => exact ⟨0, Nat.zero_le _, rfl, by simp [M.allDg]⟩
  case round =>
    obtain ⟨k, hk, rfl, ha⟩ := hrel
    by_cases hlt : k < s.size
    · have hcb := s[k].toNat_lt
      by_cases hc : 48 ≤ s[k].toNat ∧ s[k].toNat ≤ 57
      · have HA := Lib.hid (allDg_take (l := s.data.toList) (k := k) (by simpa using hlt) ha (decide_eq_true hc))
        obtain ⟨hc1, hc2⟩ := hc
        clear ha
        go_wp2
        go_round
        case rel => exact ⟨k + 1, hlt, by go_num, HA.out⟩
        case measure => simp [intOf]; omega
      · have HF := Lib.hid (allDg_no (l := s.data.toList) (k := k) (by simpa using hlt) (decide_eq_false hc))
        clear ha
        by_cases hc1 : 48 ≤ s[k].toNat
        · have hc2 : 57 < s[k].toNat := by omega
          clear hc
          go_wp2
          go_ret
          exact ⟨retB4 HF.out.symm, rfl⟩
        · have hc2 : s[k].toNat < 48 := by omega
          clear hc
          go_wp2
          go_ret
          exact ⟨retB4 HF.out.symm, rfl⟩
    · obtain rfl : k = s.size := by omega
      have HF := Lib.hid (show M.allDg s.data.toList = true by rw [← ha, List.take_of_length_le (by simp)])
      clear hlt hk ha
      go_wp2
      go_ret
      exact ⟨retB4 HF.out.symm, rfl⟩

theorem strip_eq (l : List UInt8) : Lib.trimPrefix l [45] = M.strip l ∧ Lib.hasPrefix l [45] = (l.head? == some 45) := by
  cases l with
  | nil => exact ⟨by simp [Lib.trimPrefix, Lib.hasPrefix, M.strip], by simp [Lib.hasPrefix]⟩
  | cons c t =>
    by_cases h : c = 45
    · subst h; exact ⟨by simp [Lib.trimPrefix, Lib.hasPrefix, M.strip], by simp [Lib.hasPrefix]⟩
    · have h' : ¬ (45 : UInt8) = c := fun e => h e.symm
      have h1 : (c == 45) = false := by rw [beq_eq_false_iff_ne]; exact h
      have h2 : ((45 : UInt8) == c) = false := by rw [beq_eq_false_iff_ne]; exact h'
      exact ⟨by simp [Lib.trimPrefix, Lib.hasPrefix, M.strip, h, h'], by simp [Lib.hasPrefix, List.isPrefixOf, h1, h2]⟩
theorem trim_any (s : ByteArray) (w : World) (hs : s.size ≤ 1125899906842624) :
    Calls Tryz.prog 56 #[.string s, .string ⟨#[48, 46]⟩] w fun e w' => e = .returned (.string ⟨(Lib.trimS s.data.toList [48, 46]).toArray⟩) ∧ Qt w w' :=
  (Any.strings_Trim_ascii Tryz.lays160 (fun w => by kernel_rfl) (by kernel_rfl) s ⟨#[48, 46]⟩ w (by omega) (by decide) (by
    intro j b hj
    match j with
    | 0 => simp at hj; subst hj; decide
    | 1 => simp at hj; subst hj; decide
    | j + 2 => simp at hj)).mono fun e w' ⟨h1, h2⟩ => ⟨h1, Qt.of_below h2⟩
theorem isText_any (s : ByteArray) (d : Nat) (m : Int) (w : World) (hs : s.size ≤ 4194304) (hm : MaxL4 m w) :
    Calls Tryz.prog 31 #[.string s, .int .i64 d] w fun e w' => e = .returned (.bool (M.isB d s.data.toList)) ∧ Qt w w' := by
  obtain ⟨e1, e2⟩ := strip_eq s.data.toList
  have hTl : (M.strip s.data.toList).length ≤ s.size := by
    unfold M.strip
    split
    · simp
    · rename_i c t h
      have : s.data.toList.length = s.size := by simp
      rw [h] at this
      split
      · simp at this; omega
      · simp at this ⊢; omega
  obtain ⟨F, B, c, hcut⟩ : ∃ F B c, Lib.cut (M.strip s.data.toList) [46] = (F, B, c) := ⟨_, _, _, rfl⟩
  have hFB : F.length ≤ 4194304 ∧ B.length ≤ 4194304 := by
    rcases M.point_or (M.strip s.data.toList) with h | ⟨a, b, h, ha⟩
    · rw [M.cut_none h] at hcut
      injection hcut with h1 h2
      injection h2 with h2 h3
      subst h1 h2
      exact ⟨by omega, by simp⟩
    · rw [h, M.cut_at ha] at hcut
      rw [h, List.length_append, List.length_cons] at hTl
      injection hcut with h1 h2
      injection h2 with h2 h3
      subst h1 h2
      exact ⟨by omega, by omega⟩
  obtain ⟨hF, hB⟩ := hFB
  have HB := Lib.hid (show M.isB d s.data.toList = (((c == decide (0 < d)) && (B.length == d) && !F.isEmpty && M.allDg F && M.allDg B && !(decide (1 < F.length) && F.head? == some 48)) && (!(s.data.toList.head? == some 45) || !(Lib.trimS (M.strip s.data.toList) [48, 46]).isEmpty)) by
    unfold M.isB M.partsB M.more; rw [hcut])
  have CP := Lib.hid (fun W => Tryz.strings_CutPrefix s ⟨#[45]⟩ W)
  rw [show (⟨#[45]⟩ : ByteArray).data.toList = [45] from rfl, e1, e2] at CP
  generalize M.strip s.data.toList = T at *
  have hTs : (⟨T.toArray⟩ : ByteArray).size ≤ 4194304 := by show T.length ≤ _; omega
  have CT := Lib.hid (fun W (q : Qt w W) => Tryz.strings_Cut ⟨T.toArray⟩ ⟨#[46]⟩ m W (by omega) (q.cellv hm))
  rw [show (⟨#[46]⟩ : ByteArray).data.toList = [46] from rfl, show (⟨T.toArray⟩ : ByteArray).data.toList = T from rfl, hcut] at CT
  have TR := Lib.hid (fun W => trim_any ⟨T.toArray⟩ W (by omega))
  rw [show (⟨T.toArray⟩ : ByteArray).data.toList = T from rfl] at TR
  have AF := Lib.hid (fun W => allDigits_any ⟨F.toArray⟩ W (by first | (show F.length ≤ _; omega) | (show B.length ≤ _; omega)))
  have AB := Lib.hid (fun W => allDigits_any ⟨B.toArray⟩ W (by first | (show F.length ≤ _; omega) | (show B.length ≤ _; omega)))
  have HP := Lib.hid (fun W => Tryz.strings_HasPrefix ⟨F.toArray⟩ ⟨#[48]⟩ W)
  rw [show (⟨F.toArray⟩ : ByteArray).data.toList = F from rfl] at AF HP
  rw [show (⟨B.toArray⟩ : ByteArray).data.toList = B from rfl] at AB
  rw [show (⟨#[48]⟩ : ByteArray).data.toList = [48] from rfl] at HP
  rw [show Lib.hasPrefix F [48] = (F.head? == some 48) by
    cases F with
    | nil => rfl
    | cons x t => simp [Lib.hasPrefix, List.isPrefixOf, Bool.beq_comm]] at HP
  generalize (F.head? == some 48) = h48 at *
  generalize (s.data.toList.head? == some 45) = below at *
  generalize hMR : (Lib.trimS T [48, 46]) = TT at *
  generalize M.allDg F = aF at *
  generalize M.allDg B = aB at *
  clear hMR hcut e1 e2 hTl hTs hm
  go_enter Tryz.func31, Tryz.ntmps31
  go_wp2_with fail
  refine (CP.out _).mono ?_
  rintro e w1 ⟨rfl, rfl⟩
  go_wp2_with fail
  refine (CT.out _ (Qt.refl _)).mono ?_
  rintro e w2 ⟨rfl, n2, rfl⟩
  have K2 := Lib.hid (show Qt w1 (w1.drewN n2) from (Qt.refl _).drewN _)
  generalize w1.drewN n2 = w2 at *
  by_cases h1 : c = decide (0 < d)
  · by_cases h2 : B.length = d
    · have b2 : ((B.length : Int) != (d : Int)) = false := by rw [bne_eq_false_iff_eq]; omega
      have H2 := Lib.hid (show (B.length == d) = true by rw [beq_iff_eq]; exact h2)
      have H1 := Lib.hid (show (c == decide (0 < d)) = true by rw [beq_iff_eq]; exact h1)
      rw [H2.out, H1.out] at HB
      clear h2
      cases F with
      | nil =>
        have RF := Lib.hid (show M.isB d s.data.toList = false by rw [HB.out]; rfl)
        clear HB
        go_wp2_with fail
        go_ret
        exact ⟨retB4 RF.out.symm, K2.out⟩
      | cons x F =>
        have hne : (x :: F).isEmpty = false := rfl
        obtain ⟨F', hF'⟩ : ∃ F', x :: F = F' := ⟨_, rfl⟩
        rw [hF'] at hne HB AF HP hF ⊢
        rw [hne] at HB
        clear hF'
        cases aF with
        | false =>
          have RF := Lib.hid (show M.isB d s.data.toList = false by rw [HB.out]; simp)
          clear HB
          go_wp2_with fail
          refine (AF.out _).mono ?_
          rintro e w3 ⟨rfl, rfl⟩
          go_wp2_with fail
          go_ret
          exact ⟨retB4 RF.out.symm, K2.out⟩
        | true =>
          cases aB with
          | false =>
            have RF := Lib.hid (show M.isB d s.data.toList = false by rw [HB.out]; simp)
            clear HB
            go_wp2_with fail
            refine (AF.out _).mono ?_
            rintro e w3 ⟨rfl, rfl⟩
            go_wp2_with fail
            refine (AB.out _).mono ?_
            rintro e w4 ⟨rfl, rfl⟩
            go_wp2_with fail
            go_ret
            exact ⟨retB4 RF.out.symm, K2.out⟩
          | true =>
            by_cases h3 : 1 < F'.length
            · have b3 : decide (1 < F'.length) = true := decide_eq_true h3
              rw [b3] at HB
              cases h48 with
              | true =>
                have RF := Lib.hid (show M.isB d s.data.toList = false by rw [HB.out]; simp)
                clear HB
                go_wp2_with fail
                refine (AF.out _).mono ?_
                rintro e w3 ⟨rfl, rfl⟩
                go_wp2_with fail
                refine (AB.out _).mono ?_
                rintro e w4 ⟨rfl, rfl⟩
                go_wp2_with fail
                refine (HP.out _).mono ?_
                rintro e w6 ⟨rfl, rfl⟩
                go_wp2_with fail
                go_ret
                exact ⟨retB4 RF.out.symm, K2.out⟩
              | false =>
                go_wp2_with fail
                refine (AF.out _).mono ?_
                rintro e w3 ⟨rfl, rfl⟩
                go_wp2_with fail
                refine (AB.out _).mono ?_
                rintro e w4 ⟨rfl, rfl⟩
                go_wp2_with fail
                refine (HP.out _).mono ?_
                rintro e w6 ⟨rfl, rfl⟩
                cases below with
                | false =>
                  have RF := Lib.hid (show M.isB d s.data.toList = true by rw [HB.out]; simp)
                  clear HB
                  go_wp2_with fail
                  go_ret
                  exact ⟨retB4 RF.out.symm, K2.out⟩
                | true =>
                  go_wp2_with fail
                  refine (TR.out _).mono ?_
                  rintro e w5 ⟨rfl, k5⟩
                  have K5 := Lib.hid (Qt.trans K2.out k5); clear k5
                  cases TT with
                  | nil =>
                    have RF := Lib.hid (show M.isB d s.data.toList = false by rw [HB.out]; simp)
                    clear HB
                    go_wp2_with fail
                    go_ret
                    exact ⟨retB4 RF.out.symm, K5.out⟩
                  | cons y TT =>
                    have RF := Lib.hid (show M.isB d s.data.toList = true by rw [HB.out]; simp)
                    clear HB
                    go_wp2_with fail
                    go_ret
                    exact ⟨retB4 RF.out.symm, K5.out⟩
            · have b3 : decide (1 < F'.length) = false := decide_eq_false h3
              rw [b3] at HB
              go_wp2_with fail
              refine (AF.out _).mono ?_
              rintro e w3 ⟨rfl, rfl⟩
              go_wp2_with fail
              refine (AB.out _).mono ?_
              rintro e w4 ⟨rfl, rfl⟩
              cases below with
              | false =>
                have RF := Lib.hid (show M.isB d s.data.toList = true by rw [HB.out]; simp)
                clear HB
                go_wp2_with fail
                go_ret
                exact ⟨retB4 RF.out.symm, K2.out⟩
              | true =>
                go_wp2_with fail
                refine (TR.out _).mono ?_
                rintro e w5 ⟨rfl, k5⟩
                have K5 := Lib.hid (Qt.trans K2.out k5); clear k5
                cases TT with
                | nil =>
                  have RF := Lib.hid (show M.isB d s.data.toList = false by rw [HB.out]; simp)
                  clear HB
                  go_wp2_with fail
                  go_ret
                  exact ⟨retB4 RF.out.symm, K5.out⟩
                | cons y TT =>
                  have RF := Lib.hid (show M.isB d s.data.toList = true by rw [HB.out]; simp)
                  clear HB
                  go_wp2_with fail
                  go_ret
                  exact ⟨retB4 RF.out.symm, K5.out⟩
    · have b2 : ((B.length : Int) != (d : Int)) = true := by rw [bne_iff_ne]; omega
      have RF := Lib.hid (show M.isB d s.data.toList = false by rw [HB.out, show (B.length == d) = false by rw [beq_eq_false_iff_ne]; exact h2]; simp)
      clear h2 HB
      go_wp2_with fail
      go_ret
      exact ⟨retB4 RF.out.symm, K2.out⟩
  · have RF := Lib.hid (show M.isB d s.data.toList = false by rw [HB.out, show (c == decide (0 < d)) = false by rw [beq_eq_false_iff_ne]; exact h1]; rfl)
    clear HB
    go_wp2_with fail
    go_ret
    exact ⟨retB4 RF.out.symm, K2.out⟩
end Go.Proofs.YtjjlpjfojgkpkaaGreatDoor
