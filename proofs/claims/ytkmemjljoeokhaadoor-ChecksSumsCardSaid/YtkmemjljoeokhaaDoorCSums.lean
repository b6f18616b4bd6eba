/-
  The contract of remitlaw03.ChecksSums: it answers true.
-/
import Derived.Test.YtkmemjljoeokhaaDoorCLives
namespace Go.Proofs.YtkmemjljoeokhaaDoor
open Go.RowKit Go.WideShapes
set_option maxRecDepth 100000

set_option maxHeartbeats 1600000 in
theorem sums_any (ef : Addr) (a b : ByteArray) (x : Nat) (w : World) (hx : x < 4294967296) (ha : a.size ≤ 140737488351232) (hb : b.size ≤ 140737488351232) (hf : FormAt ef w) (hT : Tab w) :
    Calls Tryd.prog 3 #[.string a, .string b, .int .u32 x] w fun e w' => e = .returned (.bool true) ∧ Qt w w' := by
  have hT' := fun (W : World) (k : Qt w W) => hT.qt k
  have hab : (a ++ b).size ≤ maxLen := by rw [ByteArray.size_append]; unfold maxLen; omega
  have ha' : a.size ≤ maxLen := by unfold maxLen; omega
  have hb' : b.size ≤ maxLen := by unfold maxLen; omega
  have e0 : (a ++ b).data.toList = a.data.toList ++ b.data.toList := by simp
  have HL := Lib.hid (lives_any ef w hf hT)
  have SA := Lib.hid (fun W (k : Qt w W) => sum_any a W ha' (hT' W k))
  have RA := Lib.hid (fun W => refSum_any a W ha')
  have EB := Lib.hid (fun W (k : Qt w W) => extend_any x b W hx hb' (hT' W k))
  have RB := Lib.hid (fun W => refExtend_any x b W hx hb')
  have hs1 : C.sum a.data.toList < 4294967296 := C.extend_lt (by decide) _
  have hs2 : C.extend x a.data.toList < 4294967296 := C.extend_lt hx _
  have E2 := Lib.hid (fun W (k : Qt w W) => extend_any (C.sum a.data.toList) b W hs1 hb' (hT' W k))
  have SAB := Lib.hid (fun W (k : Qt w W) => sum_any (a ++ b) W hab (hT' W k))
  have EAB := Lib.hid (fun W (k : Qt w W) => extend_any x (a ++ b) W hx hab (hT' W k))
  have EA := Lib.hid (fun W (k : Qt w W) => extend_any x a W hx ha' (hT' W k))
  have E3 := Lib.hid (fun W (k : Qt w W) => extend_any (C.extend x a.data.toList) b W hs2 hb' (hT' W k))
  rw [e0] at SAB EAB
  rw [← C.extend_sum] at SAB
  rw [← C.extend_extend] at EAB
  generalize C.extend (C.sum a.data.toList) b.data.toList = y1 at *
  generalize C.extend (C.extend x a.data.toList) b.data.toList = y2 at *
  generalize C.sum a.data.toList = y3 at *
  generalize C.extend x a.data.toList = y4 at *
  generalize C.extend x b.data.toList = y5 at *
  clear hT hT' hf e0 hab hs1 hs2
  go_enter Tryd.func3, Tryd.ntmps3
  go_wp2_with fail
  refine HL.out.mono ?_
  rintro e w1 ⟨rfl, k1⟩
  have K1 := Lib.hid k1; clear k1
  go_wp2_with fail
  refine (SA.out _ K1.out).mono ?_
  rintro e w2 ⟨rfl, rfl⟩
  go_wp2_with fail
  refine (RA.out _).mono ?_
  rintro e w2 ⟨rfl, rfl⟩
  go_wp2_with fail
  refine (EB.out _ K1.out).mono ?_
  rintro e w2 ⟨rfl, rfl⟩
  go_wp2_with fail
  refine (RB.out _).mono ?_
  rintro e w2 ⟨rfl, rfl⟩
  go_wp2_with fail
  refine (SA.out _ K1.out).mono ?_
  rintro e w2 ⟨rfl, rfl⟩
  go_wp2_with fail
  refine (E2.out _ K1.out).mono ?_
  rintro e w2 ⟨rfl, rfl⟩
  go_wp2_with fail
  refine (SAB.out _ K1.out).mono ?_
  rintro e w2 ⟨rfl, rfl⟩
  go_wp2_with fail
  refine (EAB.out _ K1.out).mono ?_
  rintro e w2 ⟨rfl, rfl⟩
  go_wp2_with fail
  refine (EA.out _ K1.out).mono ?_
  rintro e w2 ⟨rfl, rfl⟩
  go_wp2_with fail
  refine (E3.out _ K1.out).mono ?_
  rintro e w2 ⟨rfl, rfl⟩
  go_wp2
  go_ret
  exact ⟨by simp, K1.out⟩
end Go.Proofs.YtkmemjljoeokhaaDoor
