/-
  The contract of remitmem.KeptTexts.
-/
import Derived.Test.YtilhkbohemghlaaDoorSpare
import Derived.Deep.RegionHeld3
namespace Go.Proofs.YtilhkbohemghlaaDoor
open Go.ChangeShapes Go.WideShapes Go.ChangeAt Go.RowKit
set_option maxRecDepth 100000

set_option maxHeartbeats 1600000 in
theorem kept_any (vf v : Value) (gf f0 g o : Nat) (ss : List (List UInt8)) (w : World) (hf : Strs w vf gf f0 (ss ++ marksL 80)) (hs : Strs w v g o ss) (hl : ss.length ≤ 1099511627776) :
    Calls Tryd.prog 27 #[vf, v] w fun e w' => e = .returned (.bool true) ∧ Keeps (fun _ => False) w w' := by
  obtain ⟨a, cap, rfl, ha⟩ := hs.val
  obtain ⟨af, capf, rfl, haf⟩ := hf.val
  obtain rfl := haf (by intro e; have := congrArg List.length e; simp [marksL_length] at this)
  have hle : (ss ++ marksL 80).length = ss.length + 80 := by rw [List.length_append, marksL_length]
  have Hf := Lib.hid hf
  have HS := Lib.hid hs
  have Ha := Lib.hid ha
  rw [hle]
  clear hs ha hf haf hle
  go_enter Tryd.func27, Tryd.ntmps27
  go_wp2
  go_loopw [5, 15] (fun _ i wr => ∃ k n : Nat, k ≤ ss.length ∧ i = .int .i64 k ∧ wr = w.drewN n) (fun _ i _ => ss.length - (intOf i).toNat)
  case atStart => exact ⟨0, 0, Nat.zero_le _, rfl, rfl⟩
  case round =>
    obtain ⟨k, n, hk, rfl, rfl⟩ := hrel
    by_cases hlt : k < ss.length
    · obtain ⟨s, c1, hsk, hv, hc⟩ := HS.out.elem hlt
      injection hv with hv q1 q2
      clear q1 q2
      subst hv
      have hc' : w.cell? ⟨gf, f0 + k, none⟩ = some (.string ⟨s.toArray⟩) := Hf.out.cells k s (by rw [List.getElem?_append_left hlt]; exact hsk)
      have hlt' : (k : Int) < (ss.length : Int) + 80 := by omega
      clear hsk
      go_wp2
      go_quiet (fail)
      go_wp2
      go_roundw
      case rel => exact ⟨k + 1, _, by omega, by go_num, rfl⟩
      case measure => simp [intOf]; omega
    · obtain rfl : k = ss.length := by omega
      clear hlt
      go_wp2
      go_loopw [6] (fun i wr => ∃ k : Nat, k ≤ 80 ∧ i = .int .i64 k ∧ Keeps (fun _ => False) w wr) (fun i _ => 80 - (intOf i).toNat)
      case atStart => exact ⟨0, Nat.zero_le _, rfl, (Keeps.refl _ _).drewN n⟩
      case round =>
        obtain ⟨j, hj, rfl, hK⟩ := hrel
        have HK := Lib.hid hK
        by_cases hlt : j < 80
        · have hc0 : wr.cell? ⟨gf, f0 + (ss.length + j), none⟩ = some (.string ⟨(wordL 7 (j : Nat)).toArray⟩) := (Hf.out.kept hK (fun _ h => h)).cells (ss.length + j) _ (by rw [List.getElem?_append_right (by omega), Nat.add_sub_cancel_left]; exact marksL_get hlt)
          have hgf := World.block_lt_of_cell? _ _ hc0
          have hx1 : (0 : Int) ≤ (ss.length : Int) + (j : Int) := by omega
          have hx2 : (ss.length : Int) + (j : Int) < (ss.length : Int) + 80 := by omega
          have hx3 : ((ss.length : Int) + (j : Int)).toNat = ss.length + j := by omega
          have hx : IntKind.i64.wrap ((ss.length : Int) + (j : Int)) = (ss.length : Int) + (j : Int) := IntWalk.i64_in _ (by omega)
          clear hK hk
          go_wp2
          have hfr := HK.out
          have hcw : ∀ W, Keeps (fun _ => False) wr W → W.cell? ⟨gf, f0 + (ss.length + j), none⟩ = some (.string ⟨(wordL 7 (j : Nat)).toArray⟩) := fun W k => (k.cell hgf (fun h => h)).trans hc0
          have Hcw := Lib.hid hcw
          clear hcw hfr
          go_region_held3 (fun w' => w'.cell? ⟨gf, f0 + (ss.length + j), none⟩ = some (.string ⟨(wordL 7 (j : Nat)).toArray⟩)) (first | go_keep | exact Hcw.out _ ((Keeps.refl _ _).drew.trans k3 (fun _ _ h => h)))
            ((go_at_call 62; refine (word_spec 7 _ _).mono ?_; rintro e w' ⟨rfl, k3⟩))
          have K3 := Lib.hid (HK.out.trans ((Keeps.refl _ _).drew.trans k3 (fun _ _ h => h)) (fun _ _ h => h))
          clear k3 hc0 Hcw
          go_wp2
          go_roundw
          case rel => exact ⟨j + 1, by omega, by go_num, K3.out⟩
          case measure => simp [intOf]; omega
        · obtain rfl : j = 80 := by omega
          clear hK hlt hk
          go_wp2
          go_ret
          exact ⟨rfl, HK.out⟩
end Go.Proofs.YtilhkbohemghlaaDoor
