/-
  The contracts of package ident's systemStart, System, and of the reference's System.
-/
import Derived.Test.YtalopcbjcgbdfaaDoorIMake
import Derived.Test.YtalopcbjcgbdfaaDoorICodes
namespace Go.Proofs.YtalopcbjcgbdfaaDoor
open Go.RowKit Go.WideShapes
set_option maxRecDepth 100000

theorem ret_s {a b : ByteArray} (h : a = b) : Ending.returned (.string a) = .returned (.string b) := by rw [h]
def sysS (k : Int) : ByteArray := ⟨(I.sysHead k).toArray⟩
theorem sysS_of {k : Int} {l : List UInt8} (h : I.sysHead k = l) : sysS k = ⟨l.toArray⟩ := by unfold sysS; rw [h]
theorem eqs_no {k n : Int} (h : k ≠ n) : (k == n) = false := beq_eq_false_iff_ne.2 h
set_option maxHeartbeats 800000 in
theorem systemStart_any (k : Int) (w : World) :
    Calls Tryd.prog 42 #[.int .i64 k] w fun e w' => e = .returned (.string (sysS k)) ∧ w = w' := by
  rcases I.sysHead_cases k with ⟨q, n2, n3, n4, n5⟩ | ⟨rfl, q⟩ | ⟨rfl, q⟩ | ⟨rfl, q⟩ | ⟨rfl, q⟩
  · have HE := Lib.hid (sysS_of q)
    have e2 := eqs_no n2
    have e3 := eqs_no n3
    have e4 := eqs_no n4
    have e5 := eqs_no n5
    clear q n2 n3 n4 n5
    go_enter Tryd.func42, Tryd.ntmps42
    go_wp2
    go_ret
    exact ⟨ret_s HE.out.symm, rfl⟩
  all_goals
    have HE := Lib.hid (sysS_of q)
    clear q
    go_enter Tryd.func42, Tryd.ntmps42
    go_wp2
    go_ret
    exact ⟨ret_s HE.out.symm, rfl⟩

def sysB (k : Int) (c : List UInt8) : ByteArray := ⟨(I.sysV k c).toArray⟩
theorem sysB_none {k : Int} {c : List UInt8} (h : I.sysHead k = []) : sysB k c = ⟨#[]⟩ := by
  unfold sysB I.sysV; rw [if_neg (fun q => q.1 h)]
theorem sysB_bad {k : Int} {c : List UInt8} (h : codeB c = false) : sysB k c = ⟨#[]⟩ := by
  unfold sysB I.sysV; rw [if_neg (fun q => by rw [h] at q; exact absurd q.2 (by decide))]
theorem sysB_some {k : Int} {c : ByteArray} {l : List UInt8} (h : I.sysHead k = l) (hl : l ≠ []) (hc : codeB c.data.toList = true) : sysB k c.data.toList = (⟨l.toArray⟩ : ByteArray) ++ c := by
  unfold sysB I.sysV
  rw [if_pos ⟨by rw [h]; exact hl, hc⟩, h]
  exact (str_list (by rw [dapp])).symm
theorem code_size {c : ByteArray} (h : codeB c.data.toList = true) : c.size = 3 := by
  unfold codeB at h
  rw [Bool.and_eq_true] at h
  exact eq_of_beq h.1

set_option maxHeartbeats 1600000 in
theorem iSystem_any (k : Int) (c : ByteArray) (w : World) (hc : c.size ≤ 1125899906842624) :
    Calls Tryd.prog 21 #[.int .i64 k, .string c] w fun e w' => e = .returned (.string (sysB k c.data.toList)) ∧ w = w' := by
  have H1 := Lib.hid (systemStart_any k w)
  have H2 := Lib.hid (code_any c w hc)
  rcases I.sysHead_cases k with ⟨q, _⟩ | ⟨rfl, q⟩ | ⟨rfl, q⟩ | ⟨rfl, q⟩ | ⟨rfl, q⟩
  · have HE := Lib.hid (sysB_none (c := c.data.toList) q)
    rw [sysS_of q] at H1
    clear q hc
    go_enter Tryd.func21, Tryd.ntmps21
    go_wp2_with fail
    refine H1.out.mono ?_
    rintro e w' ⟨rfl, rfl⟩
    go_wp2
    go_ret
    exact ⟨ret_s HE.out.symm, rfl⟩
  all_goals
    rw [sysS_of q] at H1
    cases hd : codeB c.data.toList with
    | false =>
      have HE := Lib.hid (fun k => sysB_bad (k := k) hd)
      rw [hd] at H2
      clear q hc hd
      go_enter Tryd.func21, Tryd.ntmps21
      go_wp2_with fail
      refine H1.out.mono ?_
      rintro e w' ⟨rfl, rfl⟩
      go_wp2_with fail
      refine H2.out.mono ?_
      rintro e w' ⟨rfl, rfl⟩
      go_wp2
      go_ret
      exact ⟨ret_s (HE.out _).symm, rfl⟩
    | true =>
      have HE := Lib.hid (sysB_some q (by decide) hd)
      have hsz := code_size hd
      rw [hd] at H2
      clear q hc hd
      go_enter Tryd.func21, Tryd.ntmps21
      go_wp2_with fail
      refine H1.out.mono ?_
      rintro e w' ⟨rfl, rfl⟩
      go_wp2_with fail
      refine H2.out.mono ?_
      rintro e w' ⟨rfl, rfl⟩
      go_wp2
      go_ret
      exact ⟨ret_s HE.out.symm, rfl⟩
end Go.Proofs.YtalopcbjcgbdfaaDoor
