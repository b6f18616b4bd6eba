/-
  The contracts of package ident's Make, Id.
-/
import Derived.Test.YtalopcbjcgbdfaaDoorICheck
import Derived.Test.YtalopcbjcgbdfaaDoorISys
import Derived.Deep.QuietTactic
import Derived.BigQuiet
namespace Go.Proofs.YtalopcbjcgbdfaaDoor
open Go.RowKit Go.WideShapes
set_option maxRecDepth 100000

/-! ### Make -/
def makeV (ef : Addr) (c b : List UInt8) : Value :=
  match I.make c b with
  | none => .tuple #[.string ⟨#[]⟩, formV ef]
  | some l => .tuple #[.string ⟨l.toArray⟩, .nilIface]
theorem makeV_none {ef : Addr} {c b : List UInt8} (h : (I.country c && I.body b) = false) : makeV ef c b = .tuple #[.string ⟨#[]⟩, formV ef] := by unfold makeV; rw [I.make_none h]
theorem makeV_some {ef : Addr} {c b : List UInt8} {l : List UInt8} (h : I.make c b = some l) : makeV ef c b = .tuple #[.string ⟨l.toArray⟩, .nilIface] := by unfold makeV; rw [h]
theorem digV_yes {ef : Addr} {s d : List UInt8} (h : C.digits s = some d) : digV ef s = .tuple #[.string ⟨d.toArray⟩, .nilIface] := by unfold digV; rw [h]

set_option maxHeartbeats 1600000 in
theorem iMake_any (ef : Addr) (c b : ByteArray) (w : World) (hc : c.size ≤ maxLen) (hb : b.size ≤ maxLen) (hf : FormAt ef w) :
    Calls Tryd.prog 19 #[.string c, .string b] w fun e w' => e = .returned (makeV ef c.data.toList b.data.toList) ∧ Qt w w' := by
  have H1 := Lib.hid (isCountry_any c w hc)
  have H2 := Lib.hid (isBody_any b w hb)
  have hf' : w.cell? ⟨1, 0, none⟩ = some (formV ef) := hf
  have HQ := Lib.hid (Qt.refl w)
  cases h1 : countryS c with
  | false =>
    have HE := Lib.hid (makeV_none (ef := ef) (show (I.country c.data.toList && I.body b.data.toList) = false by rw [show I.country c.data.toList = false from h1, Bool.false_and]))
    rw [h1] at H1
    clear h1 hf hc hb
    go_enter Tryd.func19, Tryd.ntmps19
    go_wp2_with fail
    refine H1.out.mono ?_
    rintro e w' ⟨rfl, rfl⟩
    go_wp2
    go_quiet (fail)
    go_wp2
    go_ret2
    exact ⟨by rw [HE.out]; rfl, Keeps.drewN HQ.out _⟩
  | true =>
    rw [h1] at H1
    cases h2 : bodyS b with
    | false =>
      have HE := Lib.hid (makeV_none (ef := ef) (show (I.country c.data.toList && I.body b.data.toList) = false by rw [show I.body b.data.toList = false from h2, Bool.and_false]))
      rw [h2] at H2
      clear h1 h2 hf hc hb
      go_enter Tryd.func19, Tryd.ntmps19
      go_wp2_with fail
      refine H1.out.mono ?_
      rintro e w' ⟨rfl, rfl⟩
      go_wp2_with fail
      refine H2.out.mono ?_
      rintro e w' ⟨rfl, rfl⟩
      go_wp2
      go_quiet (fail)
      go_wp2
      go_ret2
      exact ⟨by rw [HE.out]; rfl, Keeps.drewN HQ.out _⟩
    | true =>
      obtain ⟨d, hm, hd, _, _, _⟩ := I.make_some h1 h2
      have lc := (I.country_iff.1 h1).1
      have lb := (I.body_iff.1 h2).2.1
      rw [dlen] at lc lb
      have HE := Lib.hid (makeV_some (ef := ef) hm)
      have HD := Lib.hid (digits_any ef (b ++ c) w (by rw [ByteArray.size_append]; unfold maxLen; omega) hf)
      rw [dapp, digV_yes hd] at HD
      have HS := Lib.hid (show c ++ ⟨d.toArray⟩ ++ b = (⟨(c.data.toList ++ d ++ b.data.toList).toArray⟩ : ByteArray) from str_list (by rw [dapp, dapp]))
      rw [h2] at H2
      clear h1 h2 hf hc hb hm hd hf'
      go_enter Tryd.func19, Tryd.ntmps19
      go_wp2_with fail
      refine H1.out.mono ?_
      rintro e w' ⟨rfl, rfl⟩
      go_wp2_with fail
      refine H2.out.mono ?_
      rintro e w' ⟨rfl, rfl⟩
      go_wp2_with fail
      refine HD.out.mono ?_
      rintro e w' ⟨rfl, k⟩
      have K := Lib.hid k
      clear k
      go_wp2
      go_ret2
      exact ⟨by rw [HE.out, ← HS.out]; rfl, K.out⟩

/-! ### Id -/
def IdAt (ei : Addr) (w : World) : Prop := w.cell? ⟨2, 0, none⟩ = some (.iface 107 (.pointer (some ei)))
theorem IdAt.qt {ei : Addr} {w w' : World} (h : IdAt ei w) (k : Qt w w') : IdAt ei w' := k.cellv h
def idV (ei : Addr) (s : List UInt8) : Value := if I.idB s = true then .nilIface else .iface 107 (.pointer (some ei))
theorem idV_yes {ei : Addr} {s : List UInt8} (h : I.idB s = true) : idV ei s = .nilIface := if_pos h
theorem idV_no {ei : Addr} {s : List UInt8} (h : I.idB s = false) : idV ei s = .iface 107 (.pointer (some ei)) := if_neg (by rw [h]; decide)
theorem idB_empty {s : ByteArray} (h : s.size = 0) : I.idB s.data.toList = false := by
  unfold I.idB; rw [dlen, decide_eq_false (fun e => e h), Bool.false_and]
theorem idB_long {s : ByteArray} (h : ¬ s.size ≤ 32) : I.idB s.data.toList = false := by
  unfold I.idB; rw [dlen, decide_eq_false h, Bool.false_and, Bool.and_false]
theorem idB_all {s : ByteArray} (h : ¬ s.size = 0) (h2 : s.size ≤ 32) : I.idB s.data.toList = s.data.toList.all I.idc := by
  unfold I.idB; rw [dlen, decide_eq_true h, decide_eq_true h2, Bool.true_and, Bool.true_and]
set_option maxHeartbeats 1600000 in
theorem iId2_any (ei : Addr) (s : ByteArray) (w : World) (hs : s.size ≤ maxLen) (hf : IdAt ei w) :
    Calls Tryd.prog 17 #[.string s] w fun e w' => e = .returned (idV ei s.data.toList) ∧ w = w' := by
  have hf' : w.cell? ⟨2, 0, none⟩ = some (.iface 107 (.pointer (some ei))) := hf
  by_cases h0 : s.size = 0
  · have HE := Lib.hid (idV_no (ei := ei) (idB_empty h0))
    have hb := empty_of h0
    have hb2 : (!s.toList.isEmpty) = false := by rw [hb]; rfl
    clear h0 hs hf
    go_enter Tryd.func17, Tryd.ntmps17
    go_wp2
    go_ret
    exact ⟨ret_v HE.out.symm, rfl⟩
  · have hb := full_of h0
    have hb2 : (!s.toList.isEmpty) = true := by rw [hb]; rfl
    by_cases h32 : s.size ≤ 32
    · have HC := Lib.hid (consistsId_any s w hs)
      have hf2 : decide ((32 : Int) < (s.size : Int)) = false := by simp; omega
      cases ha : allS I.idc s with
      | false =>
        have HE := Lib.hid (idV_no (ei := ei) ((idB_all h0 h32).trans ha))
        rw [ha] at HC
        clear h0 hs ha hf h32
        go_enter Tryd.func17, Tryd.ntmps17
        go_wp2_with fail
        refine HC.out.mono ?_
        rintro e w' ⟨rfl, rfl⟩
        go_wp2
        go_ret
        exact ⟨ret_v HE.out.symm, rfl⟩
      | true =>
        have HE := Lib.hid (idV_yes (ei := ei) ((idB_all h0 h32).trans ha))
        rw [ha] at HC
        clear h0 hs ha hf h32 hf'
        go_enter Tryd.func17, Tryd.ntmps17
        go_wp2_with fail
        refine HC.out.mono ?_
        rintro e w' ⟨rfl, rfl⟩
        go_wp2
        go_ret
        exact ⟨ret_v HE.out.symm, rfl⟩
    · have HE := Lib.hid (idV_no (ei := ei) (idB_long h32))
      have hf2 : decide ((32 : Int) < (s.size : Int)) = true := by simp; omega
      clear h0 hs hf h32
      go_enter Tryd.func17, Tryd.ntmps17
      go_wp2
      go_ret
      exact ⟨ret_v HE.out.symm, rfl⟩
end Go.Proofs.YtalopcbjcgbdfaaDoor
