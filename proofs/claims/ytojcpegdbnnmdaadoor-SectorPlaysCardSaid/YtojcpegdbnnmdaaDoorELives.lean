/-
  The contracts of remitlaw07.fixed, counts and cut.
-/
import Derived.Test.YtojcpegdbnnmdaaDoorEOpen
namespace Go.Proofs.YtojcpegdbnnmdaaDoor
open Go.RowKit Go.WideShapes
set_option maxRecDepth 100000

theorem counts_any (er el ef : Addr) (st : Nat) (s : ByteArray) (w : World) (hst : st < 18446744073709551616) (hE : E3 er el ef w) (hT : Tab w) :
    Calls Tryd.prog 21 #[.int .u64 st, .string s] w fun e w' => e = .returned (.bool (E.counts st s.data.toList)) ∧ Qt w w' := by
  have ho := open_any er el ef st s w hst hE hT
  cases hq : E.openS st s.data.toList with
  | none =>
    have HV := Lib.hid (show E.counts st s.data.toList = false by unfold E.counts; rw [hq]; rfl)
    rw [hq, show openV none = .tuple #[.string ⟨#[]⟩, .bool false] from rfl] at ho
    clear hE hT hq
    go_enter Tryd.func21, Tryd.ntmps21
    go_wp2_with fail
    refine ho.mono ?_
    rintro e w1 ⟨rfl, k⟩
    have K := Lib.hid k; clear k ho
    go_wp2
    go_ret
    exact ⟨by rw [HV.out]; rfl, K.out⟩
  | some p =>
    have HV := Lib.hid (show E.counts st s.data.toList = true by unfold E.counts; rw [hq]; rfl)
    rw [hq, show openV (some p) = .tuple #[.string ⟨p.toArray⟩, .bool true] from rfl] at ho
    clear hE hT hq
    go_enter Tryd.func21, Tryd.ntmps21
    go_wp2_with fail
    refine ho.mono ?_
    rintro e w1 ⟨rfl, k⟩
    have K := Lib.hid k; clear k ho
    go_wp2
    go_ret
    exact ⟨by rw [HV.out]; rfl, K.out⟩

def cutL (s : ByteArray) : List UInt8 := s.data.toList.take 234
theorem cutL_length (s : ByteArray) : (cutL s).length ≤ 234 := by unfold cutL; rw [List.length_take]; omega
theorem cut_any (s : ByteArray) (w : World) :
    Calls Tryd.prog 20 #[.string s] w fun e w' => e = .returned (.string ⟨(cutL s).toArray⟩) ∧ w = w' := by
  have hd := dlen7 s
  by_cases h : s.size ≤ 234
  · have HV := Lib.hid (show s = ⟨(cutL s).toArray⟩ from of_list (by unfold cutL; rw [List.take_of_length_le (by omega)]))
    have hm : min (s.size : Int) 234 = (s.size : Int) := by omega
    clear hd
    go_enter Tryd.func20, Tryd.ntmps20
    go_wp2
    go_ret
    exact ⟨congrArg (fun x => Ending.returned (.string x)) HV.out, rfl⟩
  · have HV := Lib.hid (show s.extract 0 234 = ⟨(cutL s).toArray⟩ from of_list (by rw [dslice]; rfl))
    have hm : min (s.size : Int) 234 = 234 := by omega
    clear hd
    go_enter Tryd.func20, Tryd.ntmps20
    go_wp2
    go_ret
    exact ⟨congrArg (fun x => Ending.returned (.string x)) HV.out, rfl⟩

set_option maxHeartbeats 1600000 in
theorem fixed_any (er el ef : Addr) (w : World) (hE : E3 er el ef w) (hT : Tab w) :
    Calls Tryd.prog 8 #[] w fun e w' => e = .returned (.bool true) ∧ Qt w w' := by
  obtain ⟨S, hS⟩ : ∃ S : ByteArray, S = ⟨(E.sct 258 [120]).toArray⟩ := ⟨_, rfl⟩
  have hl : S.data.toList = E.sct 258 [120] := by rw [hS]
  have hz : S.size = 256 := by rw [← dlen7, hl]; exact E.sct_length 258 (by decide)
  have V1 := Lib.hid (show ∀ W, Qt w W → Calls Tryd.prog 9 #[.int .u64 258, .string ⟨#[120]⟩] W (fun e w' => e = .returned (.tuple #[.string S, .nilIface]) ∧ Qt W w') from fun W k => by
    have h := seal_any er el ef 258 ⟨#[120]⟩ W (by decide) (hE.qt k) (hT.qt k)
    rw [show E.sealR 258 (⟨#[120]⟩ : ByteArray).data.toList = (E.sct 258 [120], 0) from rfl, ← hS] at h
    exact h)
  have V2 := Lib.hid (show ∀ W, Qt w W → Calls Tryd.prog 14 #[.string S] W (fun e w' => e = .returned (.tuple #[.int .u64 258, .int .u64 258, .nilIface]) ∧ Qt W w') from fun W k => by
    have h := ends_any er el ef S W (hE.qt k)
    rw [if_pos hz, hl, E.sct_front (by decide), E.sct_back (by decide) (by decide)] at h
    exact h)
  have V3 := Lib.hid (show ∀ W, Qt w W → Calls Tryd.prog 12 #[.int .u64 258, .string S] W (fun e w' => e = .returned (.tuple #[.string ⟨#[120]⟩, .bool true]) ∧ Qt W w') from fun W k => by
    have h := open_any er el ef 258 S W (by decide) (hE.qt k) (hT.qt k)
    rw [hl, E.open_sct (by decide) (by decide)] at h
    exact h)
  have V4 := Lib.hid (show ∀ W, Qt w W → Calls Tryd.prog 12 #[.int .u64 257, .string S] W (fun e w' => e = .returned (.tuple #[.string ⟨#[]⟩, .bool false]) ∧ Qt W w') from fun W k => by
    have h := open_any er el ef 257 S W (by decide) (hE.qt k) (hT.qt k)
    have h0 := E.open_other (st := 258) (o := 257) (p := [120]) (by decide) (by decide) (by decide) (by decide)
    have h1 : E.openS 257 (E.sct 258 [120]) = none := by
      cases hq : E.openS 257 (E.sct 258 [120]) with
      | none => rfl
      | some p => unfold E.counts at h0; rw [hq] at h0; simp at h0
    rw [hl, h1] at h
    exact h)
  have V5 := Lib.hid (show ∀ W, Qt w W → Calls Tryd.prog 16 #[.int .i64 2, .int .i64 5] W (fun e w' => e = .returned (.tuple #[.int .u64 2097158, .nilIface]) ∧ Qt W w') from fun W k => by
    have h := log_any er el ef 2 5 W (by omega) (by omega) (by omega) (by omega) (hE.qt k)
    exact h)
  clear hE hT hl hS
  go_enter Tryd.func8, Tryd.ntmps8
  go_wp2_with fail
  refine (V1.out _ (Qt.refl w)).mono ?_
  rintro e w1 ⟨rfl, k⟩
  have K1 := Lib.hid k; clear k
  go_wp2_with fail
  refine (V2.out _ K1.out).mono ?_
  rintro e w2 ⟨rfl, k⟩
  have K2 := Lib.hid (Qt.trans K1.out k); clear k
  go_wp2_with fail
  refine (V3.out _ K2.out).mono ?_
  rintro e w3 ⟨rfl, k⟩
  have K3 := Lib.hid (Qt.trans K2.out k); clear k
  go_wp2_with fail
  refine (V4.out _ K3.out).mono ?_
  rintro e w4 ⟨rfl, k⟩
  have K4 := Lib.hid (Qt.trans K3.out k); clear k
  go_wp2_with fail
  refine (V5.out _ K4.out).mono ?_
  rintro e w5 ⟨rfl, k⟩
  have K5 := Lib.hid (Qt.trans K4.out k); clear k
  go_wp2
  go_ret
  exact ⟨rfl, K5.out⟩
end Go.Proofs.YtojcpegdbnnmdaaDoor
