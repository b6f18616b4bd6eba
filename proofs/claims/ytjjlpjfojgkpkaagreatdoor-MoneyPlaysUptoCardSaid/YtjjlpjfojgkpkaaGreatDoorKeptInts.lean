/-
  The contract of remitmem.KeptInts.
-/
import Derived.Test.YtjjlpjfojgkpkaaGreatDoorSpareInts
import Derived.IntWalk
import Derived.RegionTactic
import Derived.ChangeAlike
namespace Go.Proofs.YtjjlpjfojgkpkaaGreatDoor
open Go.RowKit Go.WideShapes
set_option maxRecDepth 100000

theorem markQ (i j : Int) (w : World) : Calls Tryz.prog 43 #[.int .i64 i, .int .i64 j] w fun e w' => e = .returned (.int .i64 (markI i j)) ∧ w' = w := (mark_spec i j w).mono fun _ _ ⟨h1, h2⟩ => ⟨h1, h2.symm⟩

set_option maxHeartbeats 1600000 in
theorem keptInts_any (vf v : Value) (gf f0 g o : Nat) (ss : List Int) (w : World) (hf : IntsAt .i64 w vf gf f0 (ss ++ marksI 80)) (hs : IntsAt .i64 w v g o ss) (hl : ss.length ≤ 17592186043904) :
    Calls Tryz.prog 23 #[vf, v] w fun e w' => e = .returned (.bool true) ∧ Keeps (fun _ => False) w w' := by
  obtain ⟨a, cap, rfl, ha⟩ := hs.val
  obtain ⟨af, capf, rfl, haf⟩ := hf.val
  obtain rfl := haf (by intro e; have := congrArg List.length e; simp [marksI_length] at this)
  have hle : (ss ++ marksI 80).length = ss.length + 80 := by rw [List.length_append, marksI_length]
  have Hf := Lib.hid hf
  have HS := Lib.hid hs
  have Ha := Lib.hid ha
  rw [hle]
  clear hs ha hf haf hle
  go_enter Tryz.func23, Tryz.ntmps23
  go_wp2
  go_loopw [5, 15] (fun _ i wr => ∃ k n : Nat, k ≤ ss.length ∧ i = .int .i64 k ∧ wr = w.drewN n) (fun _ i _ => ss.length - (intOf i).toNat)
  case atStart => exact ⟨0, 0, Nat.zero_le _, rfl, rfl⟩
  case round =>
    obtain ⟨k, n, hk, rfl, rfl⟩ := hrel
    by_cases hlt : k < ss.length
    · obtain ⟨s, hsk⟩ : ∃ s, ss[k]? = some s := ⟨ss[k], List.getElem?_eq_getElem hlt⟩
      have hc := HS.out.cells k s hsk
      obtain rfl := Ha.out (fun e => by rw [e] at hlt; simp at hlt)
      have hc' : w.cell? ⟨gf, f0 + k, none⟩ = some (.int .i64 s) := Hf.out.cells k s (by rw [List.getElem?_append_left hlt]; exact hsk)
      have hlt' : (k : Int) < (ss.length : Int) + 80 := by omega
      clear hsk
      go_wp2
      go_quiet (fail)
      go_wp2
      go_roundw
      case rel => exact ⟨k + 1, _, by omega, by go_num, rfl⟩
      case measure => simp [intOf]; omega
    · obtain rfl : k = ss.length := by omega
      clear hlt
      go_wp2
      go_loopw [6] (fun i wr => ∃ k : Nat, k ≤ 80 ∧ i = .int .i64 k ∧ Keeps (fun _ => False) w wr) (fun i _ => 80 - (intOf i).toNat)
      case atStart => exact ⟨0, Nat.zero_le _, rfl, (Keeps.refl _ _).drewN n⟩
      case round =>
        obtain ⟨j, hj, rfl, hK⟩ := hrel
        have HK := Lib.hid hK
        by_cases hlt : j < 80
        · have hc0 : wr.cell? ⟨gf, f0 + (ss.length + j), none⟩ = some (.int .i64 (markI 7 (j : Nat))) := (Hf.out.qt hK).cells (ss.length + j) _ (by rw [List.getElem?_append_right (by omega), Nat.add_sub_cancel_left]; exact marksI_get hlt)
          have hgf := World.block_lt_of_cell? _ _ hc0
          have hx1 : (0 : Int) ≤ (ss.length : Int) + (j : Int) := by omega
          have hx2 : (ss.length : Int) + (j : Int) < (ss.length : Int) + 80 := by omega
          have hx3 : ((ss.length : Int) + (j : Int)).toNat = ss.length + j := by omega
          have hx : IntKind.i64.wrap ((ss.length : Int) + (j : Int)) = (ss.length : Int) + (j : Int) := IntWalk.i64_in _ (by omega)
          clear hK hk
          go_wp2
          go_quiet ((go_at_call 43; exact Calls.quiet_of_same (markQ 7 _ _)))
          have K3 := Lib.hid HK.out
          clear hx
          go_wp2
          go_roundw
          case rel => exact ⟨j + 1, by omega, by go_num, K3.out.drewN _⟩
          case measure => simp [intOf]; omega
        · obtain rfl : j = 80 := by omega
          clear hK hlt hk
          go_wp2
          go_ret
          exact ⟨rfl, HK.out⟩
end Go.Proofs.YtjjlpjfojgkpkaaGreatDoor
