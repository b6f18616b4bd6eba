/-
  The contracts of the reference's Code, Text.
  The contract of the reference's form.
  The contract of the reference's Parse.
  The contract of the reference's Code.
-/
import Derived.Test.YtjjlpjfojgkpkaaGreatDoorMDigits
import Derived.Test.YtjjlpjfojgkpkaaGreatDoorMCodeB
import Derived.Test.YtjjlpjfojgkpkaaGreatDoorMAllNum
import Derived.Test.YtjjlpjfojgkpkaaGreatDoorConv
import Derived.Lib.Strings
import Derived.Test.YtjjlpjfojgkpkaaGreatDoorMForms
import Derived.Lib.IndexBytes
import Derived.WalkSpells
import Derived.Deep.DeepCutAuto
import Derived.Test.YtjjlpjfojgkpkaaGreatDoorMParseS
namespace Go.Proofs.YtjjlpjfojgkpkaaGreatDoor
open Go.RowKit Go.WideShapes
set_option maxRecDepth 100000

theorem ret_str {a b : ByteArray} (h : a = b) : Ending.returned (.string a) = .returned (.string b) := by rw [h]

/-- The loop of Text. -/
def TextR (X d : Nat) (w : World) (sx ss si : Value) (wr : World) : Prop :=
  ∃ (i x : Nat) (s : ByteArray), sx = .int .u64 x ∧ ss = .string s ∧ si = .int .i64 i ∧ M.TextAt X d i x s.data.toList ∧ i ≤ 26 ∧ Qt w wr

theorem app_list (c : UInt8) (s : ByteArray) : ((⟨#[c]⟩ : ByteArray) ++ s).data.toList = c :: s.data.toList := by simp
theorem dg_sum (n : Nat) : (48 : UInt8) + UInt8.ofNat n = M.dg n := by
  show _ = UInt8.ofNat (48 + n)
  rw [UInt8.ofNat_add]; rfl
theorem app_byte (c : UInt8) (s : ByteArray) : ((⟨#[c]⟩ : ByteArray) ++ s) = ⟨(c :: s.data.toList).toArray⟩ := by
  apply ByteArray.ext
  apply Array.toList_inj.1
  simp


set_option maxHeartbeats 3200000 in
theorem refText_any (a n : Int) (w : World) (a0 : -9223372036854775808 ≤ a) (a1 : a < 9223372036854775808) (n0 : -9223372036854775808 ≤ n) (n1 : n < 9223372036854775808) :
    Calls Tryz.prog 25 #[.int .i64 a, .int .i64 n] w fun e w' => e = .returned (.string (textB a n)) ∧ Qt w w' := by
  by_cases hn : n < 0 ∨ 6 < n
  · have HR := Lib.hid (show textB a n = ⟨#[]⟩ from if_pos hn)
    rcases hn with hn | hn
    all_goals
      go_enter Tryz.func25, Tryz.ntmps25
      go_wp2
      go_ret
      exact ⟨by rw [HR.out]; rfl, Qt.refl w⟩
  · have HR := Lib.hid (show textB a n = ⟨(M.textI n.toNat a).toArray⟩ from if_neg hn)
    obtain ⟨d, rfl⟩ := Int.eq_ofNat_of_zero_le (show 0 ≤ n by omega)
    have hd : d ≤ 6 := by omega
    clear hn n0 n1
    rw [Int.toNat_natCast] at HR
    have hcv := fun W a => conv1 W a
    have KA := Lib.hid (fun W (k : Qt w W) o => k.alloc (w := W) o)
    by_cases ha : a < 0
    · have HT := Lib.hid (show M.textI d a = 45 :: M.text d a.natAbs from if_pos ha)
      have W1 : IntKind.u64.wrap (-IntKind.u64.wrap a) = (a.natAbs : Int) := by rw [IntKind.wrap_u64, IntKind.wrap_u64]; omega
      have hX : a.natAbs < 18446744073709551616 := by omega
      generalize a.natAbs = X at *
      go_enter Tryz.func25, Tryz.ntmps25
      go_wp2
      go_loopw [5, 6, 7] (fun x s i wr => TextR X d w x s i wr) (fun x _ i _ => (d + 1 - (intOf i).toNat) + (intOf x).toNat)
      case atStart => exact ⟨0, X, ⟨#[]⟩, rfl, rfl, rfl, M.TextAt.start X d, by omega, Qt.refl w⟩
      case round =>
        obtain ⟨i, x, s, rfl, rfl, rfl, hA, hi, hq⟩ := hrel
        have hlen := hA.len
        have hsz : s.size = s.data.toList.length := rfl
        have hsb : s.size ≤ 27 := by omega
        have hxX : x ≤ X := by rw [hA.x]; exact Nat.div_le_self _ _
        have KQ := Lib.hid (KA.out wr hq)
        clear hsz hlen
        by_cases h1 : i < d
        · have HN := Lib.hid (hA.below h1)
          have h1' : i ≤ d := by omega
          have hb1 : ((i : Int) == (d : Int)) = false := by rw [beq_eq_false_iff_ne]; omega
          clear hA hq
          go_wp2
          go_roundw
          case rel => exact ⟨i + 1, x / 10, _, by go_num, rfl, by go_num, by rw [app_list, dg_sum]; exact HN.out, by omega, KQ.out _⟩
          case measure => simp [intOf]; omega
        · by_cases h2 : i = d
          · subst h2
            have hb1 : ((i : Int) == (i : Int)) = true := by rw [beq_iff_eq]
            by_cases h3 : 0 < i
            · have HN := Lib.hid (hA.point h3)
              clear hA hq h1
              go_wp2
              go_roundw
              case rel => exact ⟨i + 1, x / 10, _, by go_num, rfl, by go_num, by rw [app_list, app_list, dg_sum]; exact HN.out, by omega, KQ.out _⟩
              case measure => simp [intOf]; omega
            · obtain rfl : i = 0 := by omega
              have HN := Lib.hid hA.whole
              clear hA hq h1 h3
              go_wp2
              go_roundw
              case rel => exact ⟨1, x / 10, _, by go_num, rfl, rfl, by rw [app_list, dg_sum]; exact HN.out, by omega, KQ.out _⟩
              case measure => simp [intOf]; omega
          · have h3 : d < i := by omega
            by_cases h4 : 0 < x
            · have HN := Lib.hid (hA.above h3 h4)
              have hi19 := hA.bound hX h4
              have hb1 : ((i : Int) == (d : Int)) = false := by rw [beq_eq_false_iff_ne]; omega
              clear hA hq h1 h2
              go_wp2
              go_roundw
              case rel => exact ⟨i + 1, x / 10, _, by go_num, rfl, by go_num, by rw [app_list, dg_sum]; exact HN.out, by omega, KQ.out _⟩
              case measure => simp [intOf]; omega
            · obtain rfl : x = 0 := by omega
              have HD := Lib.hid (hA.done h3 rfl)
              have HQ := Lib.hid hq
              clear hA hq h1 h2 h4
              go_wp2
              go_ret
              exact ⟨ret_str (by rw [HR.out, HT.out, ← HD.out]; exact app_byte _ _), HQ.out⟩
    · have HT := Lib.hid (show M.textI d a = M.text d a.natAbs from if_neg ha)
      have ha2 : (a.natAbs : Int) = a := by omega
      have ha3 : 0 ≤ a := by omega
      have hX : a.natAbs < 18446744073709551616 := by omega
      have W1 : IntKind.u64.wrap a = (a.natAbs : Int) := by rw [IntKind.wrap_u64]; omega
      generalize a.natAbs = X at *
      subst ha2
      clear a0 a1
      go_enter Tryz.func25, Tryz.ntmps25
      go_wp2
      go_loopw [5, 6, 7] (fun x s i wr => TextR X d w x s i wr) (fun x _ i _ => (d + 1 - (intOf i).toNat) + (intOf x).toNat)
      case atStart => exact ⟨0, X, ⟨#[]⟩, rfl, rfl, rfl, M.TextAt.start X d, by omega, Qt.refl w⟩
      case round =>
        obtain ⟨i, x, s, rfl, rfl, rfl, hA, hi, hq⟩ := hrel
        have hlen := hA.len
        have hsz : s.size = s.data.toList.length := rfl
        have hsb : s.size ≤ 27 := by omega
        have hxX : x ≤ X := by rw [hA.x]; exact Nat.div_le_self _ _
        have KQ := Lib.hid (KA.out wr hq)
        clear hsz hlen
        by_cases h1 : i < d
        · have HN := Lib.hid (hA.below h1)
          have h1' : i ≤ d := by omega
          have hb1 : ((i : Int) == (d : Int)) = false := by rw [beq_eq_false_iff_ne]; omega
          clear hA hq
          go_wp2
          go_roundw
          case rel => exact ⟨i + 1, x / 10, _, by go_num, rfl, by go_num, by rw [app_list, dg_sum]; exact HN.out, by omega, KQ.out _⟩
          case measure => simp [intOf]; omega
        · by_cases h2 : i = d
          · subst h2
            have hb1 : ((i : Int) == (i : Int)) = true := by rw [beq_iff_eq]
            by_cases h3 : 0 < i
            · have HN := Lib.hid (hA.point h3)
              clear hA hq h1
              go_wp2
              go_roundw
              case rel => exact ⟨i + 1, x / 10, _, by go_num, rfl, by go_num, by rw [app_list, app_list, dg_sum]; exact HN.out, by omega, KQ.out _⟩
              case measure => simp [intOf]; omega
            · obtain rfl : i = 0 := by omega
              have HN := Lib.hid hA.whole
              clear hA hq h1 h3
              go_wp2
              go_roundw
              case rel => exact ⟨1, x / 10, _, by go_num, rfl, rfl, by rw [app_list, dg_sum]; exact HN.out, by omega, KQ.out _⟩
              case measure => simp [intOf]; omega
          · have h3 : d < i := by omega
            by_cases h4 : 0 < x
            · have HN := Lib.hid (hA.above h3 h4)
              have hi19 := hA.bound hX h4
              have hb1 : ((i : Int) == (d : Int)) = false := by rw [beq_eq_false_iff_ne]; omega
              clear hA hq h1 h2
              go_wp2
              go_roundw
              case rel => exact ⟨i + 1, x / 10, _, by go_num, rfl, by go_num, by rw [app_list, dg_sum]; exact HN.out, by omega, KQ.out _⟩
              case measure => simp [intOf]; omega
            · obtain rfl : x = 0 := by omega
              have HD := Lib.hid (hA.done h3 rfl)
              have HQ := Lib.hid hq
              clear hA hq h1 h2 h4
              go_wp2
              go_ret
              exact ⟨ret_str (by rw [HR.out, HT.out]; exact str_list HD.out), HQ.out⟩
end Go.Proofs.YtjjlpjfojgkpkaaGreatDoor
namespace Go.Proofs.YtjjlpjfojgkpkaaGreatDoor
open Go.RowKit Go.WideShapes
set_option maxRecDepth 100000

theorem ret_bo {a b : Bool} (h : a = b) : Ending.returned (.bool a) = .returned (.bool b) := by rw [h]
theorem look_pt {t : ByteArray} {k n : Nat} (hk : k = n) (h : k < t.size) : (t[k].toNat = 46 → M.look n t.data.toList k = M.look n t.data.toList (k + 1)) ∧ (¬ t[k].toNat = 46 → M.look n t.data.toList k = false) := by
  subst hk
  have e := M.look_point (n := k) (t := t.data.toList) h
  rw [e]
  constructor
  · intro hc
    have : t.data.toList[k] = 46 := UInt8.toNat_inj.1 hc
    rw [this]; rfl
  · intro hc
    have : (t.data.toList[k] == 46) = false := by rw [beq_eq_false_iff_ne]; intro e2; exact hc (by show t.data.toList[k].toNat = 46; rw [e2]; rfl)
    rw [this]; rfl
theorem look_dg {t : ByteArray} {k n : Nat} (hk : ¬ k = n) (h : k < t.size) : (48 ≤ t[k].toNat ∧ t[k].toNat ≤ 57 → M.look n t.data.toList k = M.look n t.data.toList (k + 1)) ∧ (¬ (48 ≤ t[k].toNat ∧ t[k].toNat ≤ 57) → M.look n t.data.toList k = false) := by
  have e := M.look_digit (n := n) (t := t.data.toList) h hk
  rw [e]
  constructor
  · intro hc
    have : M.isDg t.data.toList[k] = true := decide_eq_true hc
    rw [this]; rfl
  · intro hc
    have : M.isDg t.data.toList[k] = false := decide_eq_false hc
    rw [this]; rfl
theorem head_at {t : ByteArray} (h : 0 < t.size) : t.data.toList.head? = some t[0] := by
  have h2 : 0 < t.data.toList.length := h
  rw [List.head?_eq_getElem?, List.getElem?_eq_getElem h2]; rfl
theorem form_short0 {t : ByteArray} (h : t.size < 0 + 1) : M.formT 0 t.data.toList = false := by
  have e : t.data.toList.length = t.size := rfl
  unfold M.formT
  simp only [if_true]
  rw [if_pos (by omega)]
theorem form_short {t : ByteArray} {d : Nat} (hd : ¬ d = 0) (h : t.size < d + 1 + 1) : M.formT d t.data.toList = false := by
  have e : t.data.toList.length = t.size := rfl
  unfold M.formT
  simp only [if_neg hd]
  rw [if_pos (by omega)]
theorem form_at0 {t : ByteArray} (h : ¬ t.size < 0 + 1) : M.formT 0 t.data.toList = ((t.size == 1 || t.data.toList.head? != some 48) && M.look t.size t.data.toList 0) := by
  have e : t.data.toList.length = t.size := rfl
  unfold M.formT
  simp only [if_true]
  rw [if_neg (by omega), M.look_zero, e, Nat.sub_zero]
theorem form_at {t : ByteArray} {d : Nat} (hd : ¬ d = 0) (h : ¬ t.size < d + 1 + 1) : M.formT d t.data.toList = ((t.size - (d + 1) == 1 || t.data.toList.head? != some 48) && M.look (t.size - (d + 1)) t.data.toList 0) := by
  have e : t.data.toList.length = t.size := rfl
  unfold M.formT
  simp only [if_neg hd]
  rw [if_neg (by omega), M.look_zero, e]
theorem form_one0 {t : ByteArray} (h : ¬ t.size < 0 + 1) (h1 : t.size = 1) : M.formT 0 t.data.toList = M.look t.size t.data.toList 0 := by rw [form_at0 h, beq_iff_eq.2 h1]; rfl
theorem form_one {t : ByteArray} {d : Nat} (hd : ¬ d = 0) (h : ¬ t.size < d + 1 + 1) (h1 : t.size - (d + 1) = 1) : M.formT d t.data.toList = M.look (t.size - (d + 1)) t.data.toList 0 := by rw [form_at hd h, beq_iff_eq.2 h1]; rfl
theorem nought_head {t : ByteArray} (h : 0 < t.size) : (t[0].toNat = 48 → (t.data.toList.head? != some 48) = false) ∧ (¬ t[0].toNat = 48 → (t.data.toList.head? != some 48) = true) := by
  rw [head_at h]
  constructor
  · intro e
    have : t[0] = 48 := UInt8.toNat_inj.1 e
    rw [this]; rfl
  · intro e
    rw [bne_iff_ne]
    intro e2
    exact e (by rw [Option.some.inj e2]; rfl)
theorem form_nought0 {t : ByteArray} (h : ¬ t.size < 0 + 1) (h1 : ¬ t.size = 1) (h48 : (t[0]'(by omega)).toNat = 48) : M.formT 0 t.data.toList = false := by
  rw [form_at0 h, (nought_head (by omega)).1 h48, beq_eq_false_iff_ne.2 h1]; rfl
theorem form_nought {t : ByteArray} {d : Nat} (hd : ¬ d = 0) (h : ¬ t.size < d + 1 + 1) (h1 : ¬ t.size - (d + 1) = 1) (h48 : (t[0]'(by omega)).toNat = 48) : M.formT d t.data.toList = false := by
  rw [form_at hd h, (nought_head (by omega)).1 h48, beq_eq_false_iff_ne.2 h1]; rfl
theorem form_more0 {t : ByteArray} (h : ¬ t.size < 0 + 1) (h48 : ¬ (t[0]'(by omega)).toNat = 48) : M.formT 0 t.data.toList = M.look t.size t.data.toList 0 := by
  rw [form_at0 h, (nought_head (by omega)).2 h48, Bool.or_true, Bool.true_and]
theorem form_more {t : ByteArray} {d : Nat} (hd : ¬ d = 0) (h : ¬ t.size < d + 1 + 1) (h48 : ¬ (t[0]'(by omega)).toNat = 48) : M.formT d t.data.toList = M.look (t.size - (d + 1)) t.data.toList 0 := by
  rw [form_at hd h, (nought_head (by omega)).2 h48, Bool.or_true, Bool.true_and]
theorem strip_yes {s : ByteArray} (h : 0 < s.size) (h45 : s[0].toNat = 45) : M.strip s.data.toList = (s.extract 1 s.size).data.toList := by
  rw [Lib.extract_to_end]
  have hh := head_at h
  cases hl : s.data.toList with
  | nil => rw [hl] at hh; cases hh
  | cons c l =>
    rw [hl] at hh
    have hc : c = s[0] := Option.some.inj hh
    have : c = 45 := by rw [hc]; exact UInt8.toNat_inj.1 h45
    rw [M.strip, if_pos this]; rfl
theorem strip_no {s : ByteArray} (h : 0 < s.size → ¬ (∀ hp : 0 < s.size, s[0].toNat = 45)) : M.strip s.data.toList = s.data.toList := by
  cases hl : s.data.toList with
  | nil => rfl
  | cons c l =>
    have hp : 0 < s.size := by
      have : s.data.toList.length = s.size := rfl
      rw [hl] at this; simp at this; omega
    have hh := head_at hp
    rw [hl] at hh
    have hc : c = s[0] := Option.some.inj hh
    rw [M.strip, if_neg]
    intro e
    exact h hp (fun _ => by rw [← hc, e]; rfl)

set_option maxHeartbeats 6400000 in
theorem refForm_any (s : ByteArray) (d : Nat) (w : World) (hs : s.size ≤ 1125899906842624) (hd : d ≤ 6) :
    Calls Tryz.prog 45 #[.string s, .int .i64 d] w fun e w' => e = .returned (.bool (M.formB d s.data.toList)) ∧ w = w' := by
  by_cases hm : ∃ hp : 0 < s.size, s[0].toNat = 45
  · obtain ⟨hp, h45⟩ := hm
    have hF : M.formB d s.data.toList = M.formT d (s.extract 1 s.size).data.toList := by unfold M.formB; rw [strip_yes hp h45]
    have hb : ((s[0].toNat : Int) == 45) = true := by rw [beq_iff_eq]; omega
    have hts : (s.extract 1 s.size).size ≤ 1125899906842624 := by rw [ByteArray.size_extract]; omega
    clear h45
    generalize M.formB d s.data.toList = F at *
    go_enter Tryz.func45, Tryz.ntmps45
    go_upto_region 3 with (fail)
    generalize s.extract 1 s.size = t at *
    by_cases hd0 : d = 0
    · subst hd0
      by_cases hn : t.size < 0 + 1
      · have HF := Lib.hid (hF.trans (form_short0 hn))
        clear hF
        first
          | (exfalso; omega)
          | (go_wp2; go_ret; exact ⟨ret_bo HF.out.symm, rfl⟩)
      · have hpos : 0 < t.size := by omega
        have hb0 := t[0].toNat_lt
        by_cases h1 : t.size = 1
        · have HF := Lib.hid (hF.trans (form_one0 hn h1))
          have h1' : t.size ≤ 1 := by omega
          clear hF h1
          go_wp2
          go_loop [6] (fun i => ∃ k : Nat, i = .int .i64 k ∧ k ≤ t.size ∧ M.look t.size t.data.toList 0 = M.look t.size t.data.toList k) (fun i => t.size - (intOf i).toNat)
          case atStart => exact ⟨0, rfl, Nat.zero_le _, rfl⟩
          case round =>
            obtain ⟨k, rfl, hk, hL⟩ := hrel
            have HL := Lib.hid hL
            clear hL
            by_cases hlt : k < t.size
            · have hcb := t[k].toNat_lt
              by_cases hkn : k = t.size
              · have hb1 : ((k : Int) == (t.size : Int)) = true := by rw [beq_iff_eq]; omega
                have HP := Lib.hid (look_pt (t := t) hkn hlt)
                clear hkn
                by_cases hc : t[k].toNat = 46
                · have hb2 : ((t[k].toNat : Int) != 46) = false := by rw [bne_eq_false_iff_eq]; omega
                  have HX := Lib.hid (HL.out.trans (HP.out.1 hc))
                  clear hc
                  go_wp2
                  go_round
                  case rel => exact ⟨k + 1, by go_num, by omega, HX.out⟩
                  case measure => simp [intOf]; omega
                · have hb2 : ((t[k].toNat : Int) != 46) = true := by rw [bne_iff_ne]; omega
                  have HX := Lib.hid (HF.out.trans (HL.out.trans (HP.out.2 hc)))
                  clear hc
                  go_wp2
                  go_ret
                  exact ⟨ret_bo HX.out.symm, rfl⟩
              · have hb1 : ((k : Int) == (t.size : Int)) = false := by rw [beq_eq_false_iff_ne]; omega
                have HP := Lib.hid (look_dg (t := t) hkn hlt)
                clear hkn
                by_cases hc : 48 ≤ t[k].toNat ∧ t[k].toNat ≤ 57
                · have HX := Lib.hid (HL.out.trans (HP.out.1 hc))
                  obtain ⟨hc1, hc2⟩ := hc
                  go_wp2
                  go_round
                  case rel => exact ⟨k + 1, by go_num, by omega, HX.out⟩
                  case measure => simp [intOf]; omega
                · have HX := Lib.hid (HF.out.trans (HL.out.trans (HP.out.2 hc)))
                  by_cases hc1 : 48 ≤ t[k].toNat
                  · have hc2 : 57 < t[k].toNat := by omega
                    clear hc
                    go_wp2
                    go_ret
                    exact ⟨ret_bo HX.out.symm, rfl⟩
                  · have hc2 : t[k].toNat < 48 := by omega
                    clear hc
                    go_wp2
                    go_ret
                    exact ⟨ret_bo HX.out.symm, rfl⟩
            · obtain rfl : k = t.size := by omega
              have HX := Lib.hid (HF.out.trans (HL.out.trans (M.look_over t.size t.data.toList)))
              clear hlt
              go_wp2
              go_ret
              exact ⟨ret_bo HX.out.symm, rfl⟩
        · by_cases h48 : t[0].toNat = 48
          · have hb3 : ((t[0].toNat : Int) == 48) = true := by rw [beq_iff_eq]; omega
            have HF := Lib.hid (hF.trans (form_nought0 hn h1 h48))
            clear hF h48
            go_wp2
            go_ret
            exact ⟨ret_bo HF.out.symm, rfl⟩
          · have hb3 : ((t[0].toNat : Int) == 48) = false := by rw [beq_eq_false_iff_ne]; omega
            have HF := Lib.hid (hF.trans (form_more0 hn h48))
            clear hF h48
            go_wp2
            go_loop [6] (fun i => ∃ k : Nat, i = .int .i64 k ∧ k ≤ t.size ∧ M.look t.size t.data.toList 0 = M.look t.size t.data.toList k) (fun i => t.size - (intOf i).toNat)
            case atStart => exact ⟨0, rfl, Nat.zero_le _, rfl⟩
            case round =>
              obtain ⟨k, rfl, hk, hL⟩ := hrel
              have HL := Lib.hid hL
              clear hL
              by_cases hlt : k < t.size
              · have hcb := t[k].toNat_lt
                by_cases hkn : k = t.size
                · have hb1 : ((k : Int) == (t.size : Int)) = true := by rw [beq_iff_eq]; omega
                  have HP := Lib.hid (look_pt (t := t) hkn hlt)
                  clear hkn
                  by_cases hc : t[k].toNat = 46
                  · have hb2 : ((t[k].toNat : Int) != 46) = false := by rw [bne_eq_false_iff_eq]; omega
                    have HX := Lib.hid (HL.out.trans (HP.out.1 hc))
                    clear hc
                    go_wp2
                    go_round
                    case rel => exact ⟨k + 1, by go_num, by omega, HX.out⟩
                    case measure => simp [intOf]; omega
                  · have hb2 : ((t[k].toNat : Int) != 46) = true := by rw [bne_iff_ne]; omega
                    have HX := Lib.hid (HF.out.trans (HL.out.trans (HP.out.2 hc)))
                    clear hc
                    go_wp2
                    go_ret
                    exact ⟨ret_bo HX.out.symm, rfl⟩
                · have hb1 : ((k : Int) == (t.size : Int)) = false := by rw [beq_eq_false_iff_ne]; omega
                  have HP := Lib.hid (look_dg (t := t) hkn hlt)
                  clear hkn
                  by_cases hc : 48 ≤ t[k].toNat ∧ t[k].toNat ≤ 57
                  · have HX := Lib.hid (HL.out.trans (HP.out.1 hc))
                    obtain ⟨hc1, hc2⟩ := hc
                    go_wp2
                    go_round
                    case rel => exact ⟨k + 1, by go_num, by omega, HX.out⟩
                    case measure => simp [intOf]; omega
                  · have HX := Lib.hid (HF.out.trans (HL.out.trans (HP.out.2 hc)))
                    by_cases hc1 : 48 ≤ t[k].toNat
                    · have hc2 : 57 < t[k].toNat := by omega
                      clear hc
                      go_wp2
                      go_ret
                      exact ⟨ret_bo HX.out.symm, rfl⟩
                    · have hc2 : t[k].toNat < 48 := by omega
                      clear hc
                      go_wp2
                      go_ret
                      exact ⟨ret_bo HX.out.symm, rfl⟩
              · obtain rfl : k = t.size := by omega
                have HX := Lib.hid (HF.out.trans (HL.out.trans (M.look_over t.size t.data.toList)))
                clear hlt
                go_wp2
                go_ret
                exact ⟨ret_bo HX.out.symm, rfl⟩
    · have hdp : 0 < d := by omega
      by_cases hn : t.size < d + 1 + 1
      · have HF := Lib.hid (hF.trans (form_short hd0 hn))
        clear hF
        first
          | (exfalso; omega)
          | (go_wp2; go_ret; exact ⟨ret_bo HF.out.symm, rfl⟩)
      · have hpos : 0 < t.size := by omega
        have hb0 := t[0].toNat_lt
        by_cases h1 : (t.size - (d + 1)) = 1
        · have HF := Lib.hid (hF.trans (form_one hd0 hn h1))
          have h1' : (t.size - (d + 1)) ≤ 1 := by omega
          clear hF h1
          go_wp2
          go_loop [6] (fun i => ∃ k : Nat, i = .int .i64 k ∧ k ≤ t.size ∧ M.look (t.size - (d + 1)) t.data.toList 0 = M.look (t.size - (d + 1)) t.data.toList k) (fun i => t.size - (intOf i).toNat)
          case atStart => exact ⟨0, rfl, Nat.zero_le _, rfl⟩
          case round =>
            obtain ⟨k, rfl, hk, hL⟩ := hrel
            have HL := Lib.hid hL
            clear hL
            by_cases hlt : k < t.size
            · have hcb := t[k].toNat_lt
              by_cases hkn : k = (t.size - (d + 1))
              · have hb1 : ((k : Int) == ((t.size : Int) - (d : Int) - 1)) = true := by rw [beq_iff_eq]; omega
                have HP := Lib.hid (look_pt (t := t) hkn hlt)
                clear hkn
                by_cases hc : t[k].toNat = 46
                · have hb2 : ((t[k].toNat : Int) != 46) = false := by rw [bne_eq_false_iff_eq]; omega
                  have HX := Lib.hid (HL.out.trans (HP.out.1 hc))
                  clear hc
                  go_wp2
                  go_round
                  case rel => exact ⟨k + 1, by go_num, by omega, HX.out⟩
                  case measure => simp [intOf]; omega
                · have hb2 : ((t[k].toNat : Int) != 46) = true := by rw [bne_iff_ne]; omega
                  have HX := Lib.hid (HF.out.trans (HL.out.trans (HP.out.2 hc)))
                  clear hc
                  go_wp2
                  go_ret
                  exact ⟨ret_bo HX.out.symm, rfl⟩
              · have hb1 : ((k : Int) == ((t.size : Int) - (d : Int) - 1)) = false := by rw [beq_eq_false_iff_ne]; omega
                have HP := Lib.hid (look_dg (t := t) hkn hlt)
                clear hkn
                by_cases hc : 48 ≤ t[k].toNat ∧ t[k].toNat ≤ 57
                · have HX := Lib.hid (HL.out.trans (HP.out.1 hc))
                  obtain ⟨hc1, hc2⟩ := hc
                  go_wp2
                  go_round
                  case rel => exact ⟨k + 1, by go_num, by omega, HX.out⟩
                  case measure => simp [intOf]; omega
                · have HX := Lib.hid (HF.out.trans (HL.out.trans (HP.out.2 hc)))
                  by_cases hc1 : 48 ≤ t[k].toNat
                  · have hc2 : 57 < t[k].toNat := by omega
                    clear hc
                    go_wp2
                    go_ret
                    exact ⟨ret_bo HX.out.symm, rfl⟩
                  · have hc2 : t[k].toNat < 48 := by omega
                    clear hc
                    go_wp2
                    go_ret
                    exact ⟨ret_bo HX.out.symm, rfl⟩
            · obtain rfl : k = t.size := by omega
              have HX := Lib.hid (HF.out.trans (HL.out.trans (M.look_over (t.size - (d + 1)) t.data.toList)))
              clear hlt
              go_wp2
              go_ret
              exact ⟨ret_bo HX.out.symm, rfl⟩
        · by_cases h48 : t[0].toNat = 48
          · have hb3 : ((t[0].toNat : Int) == 48) = true := by rw [beq_iff_eq]; omega
            have HF := Lib.hid (hF.trans (form_nought hd0 hn h1 h48))
            clear hF h48
            go_wp2
            go_ret
            exact ⟨ret_bo HF.out.symm, rfl⟩
          · have hb3 : ((t[0].toNat : Int) == 48) = false := by rw [beq_eq_false_iff_ne]; omega
            have HF := Lib.hid (hF.trans (form_more hd0 hn h48))
            clear hF h48
            go_wp2
            go_loop [6] (fun i => ∃ k : Nat, i = .int .i64 k ∧ k ≤ t.size ∧ M.look (t.size - (d + 1)) t.data.toList 0 = M.look (t.size - (d + 1)) t.data.toList k) (fun i => t.size - (intOf i).toNat)
            case atStart => exact ⟨0, rfl, Nat.zero_le _, rfl⟩
            case round =>
              obtain ⟨k, rfl, hk, hL⟩ := hrel
              have HL := Lib.hid hL
              clear hL
              by_cases hlt : k < t.size
              · have hcb := t[k].toNat_lt
                by_cases hkn : k = (t.size - (d + 1))
                · have hb1 : ((k : Int) == ((t.size : Int) - (d : Int) - 1)) = true := by rw [beq_iff_eq]; omega
                  have HP := Lib.hid (look_pt (t := t) hkn hlt)
                  clear hkn
                  by_cases hc : t[k].toNat = 46
                  · have hb2 : ((t[k].toNat : Int) != 46) = false := by rw [bne_eq_false_iff_eq]; omega
                    have HX := Lib.hid (HL.out.trans (HP.out.1 hc))
                    clear hc
                    go_wp2
                    go_round
                    case rel => exact ⟨k + 1, by go_num, by omega, HX.out⟩
                    case measure => simp [intOf]; omega
                  · have hb2 : ((t[k].toNat : Int) != 46) = true := by rw [bne_iff_ne]; omega
                    have HX := Lib.hid (HF.out.trans (HL.out.trans (HP.out.2 hc)))
                    clear hc
                    go_wp2
                    go_ret
                    exact ⟨ret_bo HX.out.symm, rfl⟩
                · have hb1 : ((k : Int) == ((t.size : Int) - (d : Int) - 1)) = false := by rw [beq_eq_false_iff_ne]; omega
                  have HP := Lib.hid (look_dg (t := t) hkn hlt)
                  clear hkn
                  by_cases hc : 48 ≤ t[k].toNat ∧ t[k].toNat ≤ 57
                  · have HX := Lib.hid (HL.out.trans (HP.out.1 hc))
                    obtain ⟨hc1, hc2⟩ := hc
                    go_wp2
                    go_round
                    case rel => exact ⟨k + 1, by go_num, by omega, HX.out⟩
                    case measure => simp [intOf]; omega
                  · have HX := Lib.hid (HF.out.trans (HL.out.trans (HP.out.2 hc)))
                    by_cases hc1 : 48 ≤ t[k].toNat
                    · have hc2 : 57 < t[k].toNat := by omega
                      clear hc
                      go_wp2
                      go_ret
                      exact ⟨ret_bo HX.out.symm, rfl⟩
                    · have hc2 : t[k].toNat < 48 := by omega
                      clear hc
                      go_wp2
                      go_ret
                      exact ⟨ret_bo HX.out.symm, rfl⟩
              · obtain rfl : k = t.size := by omega
                have HX := Lib.hid (HF.out.trans (HL.out.trans (M.look_over (t.size - (d + 1)) t.data.toList)))
                clear hlt
                go_wp2
                go_ret
                exact ⟨ret_bo HX.out.symm, rfl⟩
  · have hF : M.formB d s.data.toList = M.formT d s.data.toList := by
      unfold M.formB
      rw [strip_no (fun hp hall => hm ⟨hp, hall hp⟩)]
    have hts := hs
    obtain ⟨t, rfl⟩ : ∃ t, t = s := ⟨s, rfl⟩
    generalize M.formB d t.data.toList = F at *
    by_cases hp : 0 < t.size
    · have hb : ((t[0].toNat : Int) == 45) = false := by rw [beq_eq_false_iff_ne]; intro e; exact hm ⟨hp, by omega⟩
      clear hm
      go_enter Tryz.func45, Tryz.ntmps45
      go_upto_region 3 with (fail)
      by_cases hd0 : d = 0
      · subst hd0
        by_cases hn : t.size < 0 + 1
        · have HF := Lib.hid (hF.trans (form_short0 hn))
          clear hF
          first
            | (exfalso; omega)
            | (go_wp2; go_ret; exact ⟨ret_bo HF.out.symm, rfl⟩)
        · have hpos : 0 < t.size := by omega
          have hb0 := t[0].toNat_lt
          by_cases h1 : t.size = 1
          · have HF := Lib.hid (hF.trans (form_one0 hn h1))
            have h1' : t.size ≤ 1 := by omega
            clear hF h1
            go_wp2
            go_loop [6] (fun i => ∃ k : Nat, i = .int .i64 k ∧ k ≤ t.size ∧ M.look t.size t.data.toList 0 = M.look t.size t.data.toList k) (fun i => t.size - (intOf i).toNat)
            case atStart => exact ⟨0, rfl, Nat.zero_le _, rfl⟩
            case round =>
              obtain ⟨k, rfl, hk, hL⟩ := hrel
              have HL := Lib.hid hL
              clear hL
              by_cases hlt : k < t.size
              · have hcb := t[k].toNat_lt
                by_cases hkn : k = t.size
                · have hb1 : ((k : Int) == (t.size : Int)) = true := by rw [beq_iff_eq]; omega
                  have HP := Lib.hid (look_pt (t := t) hkn hlt)
                  clear hkn
                  by_cases hc : t[k].toNat = 46
                  · have hb2 : ((t[k].toNat : Int) != 46) = false := by rw [bne_eq_false_iff_eq]; omega
                    have HX := Lib.hid (HL.out.trans (HP.out.1 hc))
                    clear hc
                    go_wp2
                    go_round
                    case rel => exact ⟨k + 1, by go_num, by omega, HX.out⟩
                    case measure => simp [intOf]; omega
                  · have hb2 : ((t[k].toNat : Int) != 46) = true := by rw [bne_iff_ne]; omega
                    have HX := Lib.hid (HF.out.trans (HL.out.trans (HP.out.2 hc)))
                    clear hc
                    go_wp2
                    go_ret
                    exact ⟨ret_bo HX.out.symm, rfl⟩
                · have hb1 : ((k : Int) == (t.size : Int)) = false := by rw [beq_eq_false_iff_ne]; omega
                  have HP := Lib.hid (look_dg (t := t) hkn hlt)
                  clear hkn
                  by_cases hc : 48 ≤ t[k].toNat ∧ t[k].toNat ≤ 57
                  · have HX := Lib.hid (HL.out.trans (HP.out.1 hc))
                    obtain ⟨hc1, hc2⟩ := hc
                    go_wp2
                    go_round
                    case rel => exact ⟨k + 1, by go_num, by omega, HX.out⟩
                    case measure => simp [intOf]; omega
                  · have HX := Lib.hid (HF.out.trans (HL.out.trans (HP.out.2 hc)))
                    by_cases hc1 : 48 ≤ t[k].toNat
                    · have hc2 : 57 < t[k].toNat := by omega
                      clear hc
                      go_wp2
                      go_ret
                      exact ⟨ret_bo HX.out.symm, rfl⟩
                    · have hc2 : t[k].toNat < 48 := by omega
                      clear hc
                      go_wp2
                      go_ret
                      exact ⟨ret_bo HX.out.symm, rfl⟩
              · obtain rfl : k = t.size := by omega
                have HX := Lib.hid (HF.out.trans (HL.out.trans (M.look_over t.size t.data.toList)))
                clear hlt
                go_wp2
                go_ret
                exact ⟨ret_bo HX.out.symm, rfl⟩
          · by_cases h48 : t[0].toNat = 48
            · have hb3 : ((t[0].toNat : Int) == 48) = true := by rw [beq_iff_eq]; omega
              have HF := Lib.hid (hF.trans (form_nought0 hn h1 h48))
              clear hF h48
              go_wp2
              go_ret
              exact ⟨ret_bo HF.out.symm, rfl⟩
            · have hb3 : ((t[0].toNat : Int) == 48) = false := by rw [beq_eq_false_iff_ne]; omega
              have HF := Lib.hid (hF.trans (form_more0 hn h48))
              clear hF h48
              go_wp2
              go_loop [6] (fun i => ∃ k : Nat, i = .int .i64 k ∧ k ≤ t.size ∧ M.look t.size t.data.toList 0 = M.look t.size t.data.toList k) (fun i => t.size - (intOf i).toNat)
              case atStart => exact ⟨0, rfl, Nat.zero_le _, rfl⟩
              case round =>
                obtain ⟨k, rfl, hk, hL⟩ := hrel
                have HL := Lib.hid hL
                clear hL
                by_cases hlt : k < t.size
                · have hcb := t[k].toNat_lt
                  by_cases hkn : k = t.size
                  · have hb1 : ((k : Int) == (t.size : Int)) = true := by rw [beq_iff_eq]; omega
                    have HP := Lib.hid (look_pt (t := t) hkn hlt)
                    clear hkn
                    by_cases hc : t[k].toNat = 46
                    · have hb2 : ((t[k].toNat : Int) != 46) = false := by rw [bne_eq_false_iff_eq]; omega
                      have HX := Lib.hid (HL.out.trans (HP.out.1 hc))
                      clear hc
                      go_wp2
                      go_round
                      case rel => exact ⟨k + 1, by go_num, by omega, HX.out⟩
                      case measure => simp [intOf]; omega
                    · have hb2 : ((t[k].toNat : Int) != 46) = true := by rw [bne_iff_ne]; omega
                      have HX := Lib.hid (HF.out.trans (HL.out.trans (HP.out.2 hc)))
                      clear hc
                      go_wp2
                      go_ret
                      exact ⟨ret_bo HX.out.symm, rfl⟩
                  · have hb1 : ((k : Int) == (t.size : Int)) = false := by rw [beq_eq_false_iff_ne]; omega
                    have HP := Lib.hid (look_dg (t := t) hkn hlt)
                    clear hkn
                    by_cases hc : 48 ≤ t[k].toNat ∧ t[k].toNat ≤ 57
                    · have HX := Lib.hid (HL.out.trans (HP.out.1 hc))
                      obtain ⟨hc1, hc2⟩ := hc
                      go_wp2
                      go_round
                      case rel => exact ⟨k + 1, by go_num, by omega, HX.out⟩
                      case measure => simp [intOf]; omega
                    · have HX := Lib.hid (HF.out.trans (HL.out.trans (HP.out.2 hc)))
                      by_cases hc1 : 48 ≤ t[k].toNat
                      · have hc2 : 57 < t[k].toNat := by omega
                        clear hc
                        go_wp2
                        go_ret
                        exact ⟨ret_bo HX.out.symm, rfl⟩
                      · have hc2 : t[k].toNat < 48 := by omega
                        clear hc
                        go_wp2
                        go_ret
                        exact ⟨ret_bo HX.out.symm, rfl⟩
                · obtain rfl : k = t.size := by omega
                  have HX := Lib.hid (HF.out.trans (HL.out.trans (M.look_over t.size t.data.toList)))
                  clear hlt
                  go_wp2
                  go_ret
                  exact ⟨ret_bo HX.out.symm, rfl⟩
      · have hdp : 0 < d := by omega
        by_cases hn : t.size < d + 1 + 1
        · have HF := Lib.hid (hF.trans (form_short hd0 hn))
          clear hF
          first
            | (exfalso; omega)
            | (go_wp2; go_ret; exact ⟨ret_bo HF.out.symm, rfl⟩)
        · have hpos : 0 < t.size := by omega
          have hb0 := t[0].toNat_lt
          by_cases h1 : (t.size - (d + 1)) = 1
          · have HF := Lib.hid (hF.trans (form_one hd0 hn h1))
            have h1' : (t.size - (d + 1)) ≤ 1 := by omega
            clear hF h1
            go_wp2
            go_loop [6] (fun i => ∃ k : Nat, i = .int .i64 k ∧ k ≤ t.size ∧ M.look (t.size - (d + 1)) t.data.toList 0 = M.look (t.size - (d + 1)) t.data.toList k) (fun i => t.size - (intOf i).toNat)
            case atStart => exact ⟨0, rfl, Nat.zero_le _, rfl⟩
            case round =>
              obtain ⟨k, rfl, hk, hL⟩ := hrel
              have HL := Lib.hid hL
              clear hL
              by_cases hlt : k < t.size
              · have hcb := t[k].toNat_lt
                by_cases hkn : k = (t.size - (d + 1))
                · have hb1 : ((k : Int) == ((t.size : Int) - (d : Int) - 1)) = true := by rw [beq_iff_eq]; omega
                  have HP := Lib.hid (look_pt (t := t) hkn hlt)
                  clear hkn
                  by_cases hc : t[k].toNat = 46
                  · have hb2 : ((t[k].toNat : Int) != 46) = false := by rw [bne_eq_false_iff_eq]; omega
                    have HX := Lib.hid (HL.out.trans (HP.out.1 hc))
                    clear hc
                    go_wp2
                    go_round
                    case rel => exact ⟨k + 1, by go_num, by omega, HX.out⟩
                    case measure => simp [intOf]; omega
                  · have hb2 : ((t[k].toNat : Int) != 46) = true := by rw [bne_iff_ne]; omega
                    have HX := Lib.hid (HF.out.trans (HL.out.trans (HP.out.2 hc)))
                    clear hc
                    go_wp2
                    go_ret
                    exact ⟨ret_bo HX.out.symm, rfl⟩
                · have hb1 : ((k : Int) == ((t.size : Int) - (d : Int) - 1)) = false := by rw [beq_eq_false_iff_ne]; omega
                  have HP := Lib.hid (look_dg (t := t) hkn hlt)
                  clear hkn
                  by_cases hc : 48 ≤ t[k].toNat ∧ t[k].toNat ≤ 57
                  · have HX := Lib.hid (HL.out.trans (HP.out.1 hc))
                    obtain ⟨hc1, hc2⟩ := hc
                    go_wp2
                    go_round
                    case rel => exact ⟨k + 1, by go_num, by omega, HX.out⟩
                    case measure => simp [intOf]; omega
                  · have HX := Lib.hid (HF.out.trans (HL.out.trans (HP.out.2 hc)))
                    by_cases hc1 : 48 ≤ t[k].toNat
                    · have hc2 : 57 < t[k].toNat := by omega
                      clear hc
                      go_wp2
                      go_ret
                      exact ⟨ret_bo HX.out.symm, rfl⟩
                    · have hc2 : t[k].toNat < 48 := by omega
                      clear hc
                      go_wp2
                      go_ret
                      exact ⟨ret_bo HX.out.symm, rfl⟩
              · obtain rfl : k = t.size := by omega
                have HX := Lib.hid (HF.out.trans (HL.out.trans (M.look_over (t.size - (d + 1)) t.data.toList)))
                clear hlt
                go_wp2
                go_ret
                exact ⟨ret_bo HX.out.symm, rfl⟩
          · by_cases h48 : t[0].toNat = 48
            · have hb3 : ((t[0].toNat : Int) == 48) = true := by rw [beq_iff_eq]; omega
              have HF := Lib.hid (hF.trans (form_nought hd0 hn h1 h48))
              clear hF h48
              go_wp2
              go_ret
              exact ⟨ret_bo HF.out.symm, rfl⟩
            · have hb3 : ((t[0].toNat : Int) == 48) = false := by rw [beq_eq_false_iff_ne]; omega
              have HF := Lib.hid (hF.trans (form_more hd0 hn h48))
              clear hF h48
              go_wp2
              go_loop [6] (fun i => ∃ k : Nat, i = .int .i64 k ∧ k ≤ t.size ∧ M.look (t.size - (d + 1)) t.data.toList 0 = M.look (t.size - (d + 1)) t.data.toList k) (fun i => t.size - (intOf i).toNat)
              case atStart => exact ⟨0, rfl, Nat.zero_le _, rfl⟩
              case round =>
                obtain ⟨k, rfl, hk, hL⟩ := hrel
                have HL := Lib.hid hL
                clear hL
                by_cases hlt : k < t.size
                · have hcb := t[k].toNat_lt
                  by_cases hkn : k = (t.size - (d + 1))
                  · have hb1 : ((k : Int) == ((t.size : Int) - (d : Int) - 1)) = true := by rw [beq_iff_eq]; omega
                    have HP := Lib.hid (look_pt (t := t) hkn hlt)
                    clear hkn
                    by_cases hc : t[k].toNat = 46
                    · have hb2 : ((t[k].toNat : Int) != 46) = false := by rw [bne_eq_false_iff_eq]; omega
                      have HX := Lib.hid (HL.out.trans (HP.out.1 hc))
                      clear hc
                      go_wp2
                      go_round
                      case rel => exact ⟨k + 1, by go_num, by omega, HX.out⟩
                      case measure => simp [intOf]; omega
                    · have hb2 : ((t[k].toNat : Int) != 46) = true := by rw [bne_iff_ne]; omega
                      have HX := Lib.hid (HF.out.trans (HL.out.trans (HP.out.2 hc)))
                      clear hc
                      go_wp2
                      go_ret
                      exact ⟨ret_bo HX.out.symm, rfl⟩
                  · have hb1 : ((k : Int) == ((t.size : Int) - (d : Int) - 1)) = false := by rw [beq_eq_false_iff_ne]; omega
                    have HP := Lib.hid (look_dg (t := t) hkn hlt)
                    clear hkn
                    by_cases hc : 48 ≤ t[k].toNat ∧ t[k].toNat ≤ 57
                    · have HX := Lib.hid (HL.out.trans (HP.out.1 hc))
                      obtain ⟨hc1, hc2⟩ := hc
                      go_wp2
                      go_round
                      case rel => exact ⟨k + 1, by go_num, by omega, HX.out⟩
                      case measure => simp [intOf]; omega
                    · have HX := Lib.hid (HF.out.trans (HL.out.trans (HP.out.2 hc)))
                      by_cases hc1 : 48 ≤ t[k].toNat
                      · have hc2 : 57 < t[k].toNat := by omega
                        clear hc
                        go_wp2
                        go_ret
                        exact ⟨ret_bo HX.out.symm, rfl⟩
                      · have hc2 : t[k].toNat < 48 := by omega
                        clear hc
                        go_wp2
                        go_ret
                        exact ⟨ret_bo HX.out.symm, rfl⟩
                · obtain rfl : k = t.size := by omega
                  have HX := Lib.hid (HF.out.trans (HL.out.trans (M.look_over (t.size - (d + 1)) t.data.toList)))
                  clear hlt
                  go_wp2
                  go_ret
                  exact ⟨ret_bo HX.out.symm, rfl⟩
    · have HF := Lib.hid (hF.trans (by
        by_cases hd0 : d = 0
        · subst hd0; exact form_short0 (by omega)
        · exact form_short hd0 (by omega)))
      clear hF hm
      by_cases hd0 : d = 0
      · subst hd0
        go_enter Tryz.func45, Tryz.ntmps45
        go_wp2
        go_ret
        exact ⟨ret_bo HF.out.symm, rfl⟩
      · have hdp : 0 < d := by omega
        go_enter Tryz.func45, Tryz.ntmps45
        go_wp2
        go_ret
        exact ⟨ret_bo HF.out.symm, rfl⟩
end Go.Proofs.YtjjlpjfojgkpkaaGreatDoor
namespace Go.Proofs.YtjjlpjfojgkpkaaGreatDoor
open Go.RowKit Go.WideShapes
set_option maxRecDepth 100000

/-- What Parse answers. -/
def parseV (s : List UInt8) (n : Int) : Value :=
  if n < 0 ∨ 6 < n then .tuple #[.int .i64 0, .int .i64 6]
  else if M.formB n.toNat s = false then .tuple #[.int .i64 0, .int .i64 7]
  else if s.head? = some 45 then
    if M.val 0 s = 0 then .tuple #[.int .i64 0, .int .i64 7]
    else if 9223372036854775808 < M.val 0 s then .tuple #[.int .i64 0, .int .i64 10]
    else .tuple #[.int .i64 (-(M.val 0 s : Int)), .int .i64 0]
  else if 9223372036854775808 ≤ M.val 0 s then .tuple #[.int .i64 0, .int .i64 10]
  else .tuple #[.int .i64 (M.val 0 s), .int .i64 0]
theorem form_ne {s : ByteArray} {d : Nat} (h : M.formB d s.data.toList = true) : 0 < s.size := by
  rcases Nat.eq_zero_or_pos s.size with h0 | h0
  · have : s.data.toList = [] := List.eq_nil_of_length_eq_zero h0
    rw [this] at h
    unfold M.formB M.formT at h
    simp [M.strip] at h
  · exact h0

set_option maxHeartbeats 6400000 in
theorem refParse_any (s : ByteArray) (n : Int) (w : World) (hs : s.size ≤ 1125899906842624) (n0 : -9223372036854775808 ≤ n) (n1 : n < 9223372036854775808) :
    Calls Tryz.prog 26 #[.string s, .int .i64 n] w fun e w' => e = .returned (parseV s.data.toList n) ∧ w = w' := by
  by_cases hn : n < 0 ∨ 6 < n
  · have HR := Lib.hid (show parseV s.data.toList n = .tuple #[.int .i64 0, .int .i64 6] from if_pos hn)
    rcases hn with hn | hn
    all_goals
      go_enter Tryz.func26, Tryz.ntmps26
      go_wp2
      go_ret2
      exact ⟨by rw [HR.out]; rfl, rfl⟩
  · have HR : parseV s.data.toList n = _ := if_neg hn
    obtain ⟨d, rfl⟩ := Int.eq_ofNat_of_zero_le (show 0 ≤ n by omega)
    have hd : d ≤ 6 := by omega
    clear hn n0 n1
    rw [Int.toNat_natCast] at HR
    have FO := Lib.hid (fun W => refForm_any s d W hs hd)
    cases hf : M.formB d s.data.toList with
    | false =>
      rw [if_pos hf] at HR
      have HR := Lib.hid HR
      rw [hf] at FO
      clear hf
      go_enter Tryz.func26, Tryz.ntmps26
      go_wp2_with fail
      refine (FO.out _).mono ?_
      rintro e w1 ⟨rfl, rfl⟩
      go_wp2
      go_ret2
      exact ⟨by rw [HR.out]; rfl, rfl⟩
    | true =>
      rw [if_neg (by rw [hf]; decide)] at HR
      have hpos := form_ne hf
      have hb0 := s[0].toNat_lt
      have hh := head_at hpos
      have HR0 := Lib.hid HR
      have HH := Lib.hid hh
      rw [hf] at FO
      generalize parseV s.data.toList d = V at *
      clear hf HR hh
      go_enter Tryz.func26, Tryz.ntmps26
      go_wp2_with fail
      refine (FO.out _).mono ?_
      rintro e w1 ⟨rfl, rfl⟩
      go_wp2
      go_loop [6, 7, 8] (fun x m i => ∃ (k z : Nat) (b : Bool), x = .int .u64 z ∧ m = .bool b ∧ i = .int .i64 k ∧ M.ParseAt s.data.toList k z b) (fun _ _ i => s.size - (intOf i).toNat)
      case atStart => exact ⟨0, 0, false, rfl, rfl, rfl, M.ParseAt.start _⟩
      case round =>
        obtain ⟨k, z, b, rfl, rfl, rfl, hA⟩ := hrel
        have hk : k ≤ s.size := hA.le
        have hz := hA.small
        by_cases hlt : k < s.size
        · have hcb := s[k].toNat_lt
          by_cases hc : 48 ≤ s[k].toNat ∧ s[k].toNat ≤ 57
          · have hdg : M.isDg s.data.toList[k] = true := decide_eq_true hc
            obtain ⟨hc1, hc2⟩ := hc
            by_cases hx : z ≤ 1000000000000000000
            · have HA := Lib.hid (hA.digit hlt hdg hx)
              clear hA hdg
              go_wp2
              go_round
              case rel => exact ⟨k + 1, 10 * z + (s[k].toNat - 48), b, by go_num, rfl, by go_num, HA.out⟩
              case measure => simp [intOf]; omega
            · have HA := Lib.hid (hA.over hlt hdg (by omega))
              have hx2 : 1000000000000000000 < z := by omega
              clear hA hdg hx
              go_wp2
              go_round
              case rel => exact ⟨k + 1, 10 + (s[k].toNat - 48), true, by go_num, rfl, by go_num, HA.out⟩
              case measure => simp [intOf]; omega
          · have hdg : M.isDg s.data.toList[k] = false := decide_eq_false hc
            have HA := Lib.hid (hA.skip hlt hdg)
            by_cases hc1 : 48 ≤ s[k].toNat
            · have hc2 : 57 < s[k].toNat := by omega
              clear hA hdg hc
              go_wp2
              go_round
              case rel => exact ⟨k + 1, z, b, rfl, rfl, by go_num, HA.out⟩
              case measure => simp [intOf]; omega
            · have hc2 : s[k].toNat < 48 := by omega
              clear hA hdg hc
              go_wp2
              go_round
              case rel => exact ⟨k + 1, z, b, rfl, rfl, by go_num, HA.out⟩
              case measure => simp [intOf]; omega
        · obtain rfl : k = s.size := by omega
          have ht : s.data.toList.take s.size = s.data.toList := List.take_of_length_le (by simp)
          have hex := hA.exact_
          have hgr := hA.great
          rw [ht] at hex hgr
          clear hA ht hlt hk
          by_cases h45 : s[0].toNat = 45
          · have e45 : s[0] = 45 := UInt8.toNat_inj.1 h45
            have hb45 : ((s[0].toNat : Int) == 45) = true := by rw [beq_iff_eq]; omega
            have HR := HR0.out
            rw [if_pos (by rw [HH.out, e45])] at HR
            clear e45 h45
            cases b with
            | true =>
              have hv := hgr rfl
              rw [if_neg (by omega), if_pos (by omega)] at HR
              have HV := Lib.hid HR
              clear HR hgr hex hv hz
              by_cases hz0 : z = 0
              · have b0 : ((z : Int) == 0) = true := by rw [beq_iff_eq]; omega
                clear hz0
                go_wp2
                go_ret2
                exact ⟨by rw [HV.out]; rfl, rfl⟩
              · have b0 : ((z : Int) == 0) = false := by rw [beq_eq_false_iff_ne]; omega
                clear hz0
                go_wp2
                go_ret2
                exact ⟨by rw [HV.out]; rfl, rfl⟩
            | false =>
              rw [← hex rfl] at HR
              clear hgr hex
              by_cases hz0 : z = 0
              · rw [if_pos hz0] at HR
                have HV := Lib.hid HR
                have b0 : ((z : Int) == 0) = true := by rw [beq_iff_eq]; omega
                clear HR hz0 hz
                go_wp2
                go_ret2
                exact ⟨by rw [HV.out]; rfl, rfl⟩
              · rw [if_neg hz0] at HR
                have b0 : ((z : Int) == 0) = false := by rw [beq_eq_false_iff_ne]; omega
                by_cases hz2 : 9223372036854775808 < z
                · rw [if_pos hz2] at HR
                  have HV := Lib.hid HR
                  have b1 : decide ((9223372036854775808 : Int) < (z : Int)) = true := decide_eq_true (by omega)
                  clear HR hz0 hz hz2
                  go_wp2
                  go_ret2
                  exact ⟨by rw [HV.out]; rfl, rfl⟩
                · rw [if_neg hz2] at HR
                  have HV := Lib.hid HR
                  have b1 : decide ((9223372036854775808 : Int) < (z : Int)) = false := decide_eq_false (by omega)
                  have W2 : wrap64 (IntKind.u64.wrap (-(z : Int))) = -(z : Int) := by rw [IntKind.wrap_u64]; unfold wrap64; omega
                  clear HR hz0 hz hz2
                  go_wp2
                  go_ret2
                  exact ⟨by rw [HV.out]; rfl, rfl⟩
          · have hb45 : ((s[0].toNat : Int) == 45) = false := by rw [beq_eq_false_iff_ne]; omega
            have HR := HR0.out
            rw [if_neg (by rw [HH.out]; intro e; exact h45 (by rw [Option.some.inj e]; rfl))] at HR
            clear h45
            cases b with
            | true =>
              have hv := hgr rfl
              rw [if_pos (by omega)] at HR
              have HV := Lib.hid HR
              clear HR hgr hex hv hz
              go_wp2
              go_ret2
              exact ⟨by rw [HV.out]; rfl, rfl⟩
            | false =>
              rw [← hex rfl] at HR
              clear hgr hex
              by_cases hz2 : 9223372036854775808 ≤ z
              · rw [if_pos hz2] at HR
                have HV := Lib.hid HR
                have b1 : decide ((9223372036854775808 : Int) ≤ (z : Int)) = true := decide_eq_true (by omega)
                clear HR hz hz2
                go_wp2
                go_ret2
                exact ⟨by rw [HV.out]; rfl, rfl⟩
              · rw [if_neg hz2] at HR
                have HV := Lib.hid HR
                have b1 : decide ((9223372036854775808 : Int) ≤ (z : Int)) = false := decide_eq_false (by omega)
                have W2 : wrap64 (z : Int) = (z : Int) := by unfold wrap64; omega
                clear HR hz hz2
                go_wp2
                go_ret2
                exact ⟨by rw [HV.out]; rfl, rfl⟩
end Go.Proofs.YtjjlpjfojgkpkaaGreatDoor
namespace Go.Proofs.YtjjlpjfojgkpkaaGreatDoor
open Go.RowKit Go.WideShapes
set_option maxRecDepth 100000

set_option maxHeartbeats 1600000 in
theorem refCode_any (s : ByteArray) (w : World) (hs : s.size ≤ 1125899906842624) :
    Calls Tryz.prog 24 #[.string s] w fun e w' => e = .returned (.bool (codeB s.data.toList)) ∧ w = w' := by
  by_cases h3 : s.size = 3
  · have HA := Lib.hid (fun hc => all_good h3 hc)
    have hb := fun k (hk : k < s.size) (hc : isCap s[k] = false) => all_bad hk hc
    have HB := Lib.hid hb
    have h3n : ((s.size : Int) != 3) = false := by rw [bne_eq_false_iff_eq]; omega
    have hz : 3 ≤ s.size := by omega
    have hz2 : s.size ≤ 3 := by omega
    generalize codeB s.data.toList = F at *
    clear h3 hb
    go_enter Tryz.func24, Tryz.ntmps24
    go_wp2
    go_loop [3] (fun i => ∃ k : Nat, i = .int .i64 k ∧ k ≤ 3 ∧ ∀ j, (hj : j < s.size) → j < k → isCap s[j] = true) (fun i => 3 - (intOf i).toNat)
    case atStart => exact ⟨0, rfl, by omega, fun j _ h => absurd h (by omega)⟩
    case round =>
      obtain ⟨k, rfl, hk, hall⟩ := hrel
      have HL := Lib.hid hall
      clear hall
      by_cases hlt : k < 3
      · have hks : k < s.size := by omega
        have hcb := s[k].toNat_lt
        by_cases hc : 65 ≤ s[k].toNat ∧ s[k].toNat ≤ 90
        · have HN := Lib.hid (show ∀ j, (hj : j < s.size) → j < k + 1 → isCap s[j] = true from fun j hj h => by
            rcases Nat.lt_or_ge j k with h2 | h2
            · exact HL.out j hj h2
            · obtain rfl : j = k := by omega
              exact decide_eq_true hc)
          obtain ⟨hc1, hc2⟩ := hc
          go_wp2
          go_round
          case rel => exact ⟨k + 1, by go_num, by omega, HN.out⟩
          case measure => simp [intOf]; omega
        · have HX := Lib.hid (HB.out k hks (decide_eq_false hc))
          by_cases hc1 : 65 ≤ s[k].toNat
          · have hc2 : 90 < s[k].toNat := by omega
            clear hc
            go_wp2
            go_ret
            exact ⟨ret_bo HX.out.symm, rfl⟩
          · have hc2 : s[k].toNat < 65 := by omega
            clear hc
            go_wp2
            go_ret
            exact ⟨ret_bo HX.out.symm, rfl⟩
      · obtain rfl : k = 3 := by omega
        have HX := Lib.hid (HA.out (fun j hj => HL.out j hj (by omega)))
        clear hlt hk
        go_wp2
        go_ret
        exact ⟨ret_bo HX.out.symm, rfl⟩
  · have HF := Lib.hid (code_long h3)
    have h3n : ((s.size : Int) != 3) = true := by rw [bne_iff_ne]; omega
    clear h3
    go_enter Tryz.func24, Tryz.ntmps24
    go_wp2
    go_ret
    exact ⟨ret_bo HF.out.symm, rfl⟩
end Go.Proofs.YtjjlpjfojgkpkaaGreatDoor
