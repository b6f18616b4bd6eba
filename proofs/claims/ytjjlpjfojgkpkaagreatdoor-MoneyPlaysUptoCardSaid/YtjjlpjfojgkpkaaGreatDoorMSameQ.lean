/-
  remitlaw04.same over two lists that are alike: it answers true and draws.
-/
import Derived.Test.YtjjlpjfojgkpkaaGreatDoorMFixed
namespace Go.Proofs.YtjjlpjfojgkpkaaGreatDoor
open Go.RowKit Go.WideShapes
set_option maxRecDepth 100000

set_option maxHeartbeats 1600000 in
theorem same_alike (va vb : Value) (ga oa gb ob : Nat) (b : List Int) (w : World) (ha : IntsAt .i64 w va ga oa b) (hb : IntsAt .i64 w vb gb ob b) :
    Calls Tryz.prog 22 #[va, vb] w fun e w' => e = .returned (.bool true) ∧ ∃ n, w' = w.drewN n := by
  obtain ⟨pa, ca, rfl, hpa⟩ := ha.val
  obtain ⟨pb, cb, rfl, hpb⟩ := hb.val
  have hlb := hb.le
  have HA := Lib.hid (fun W (q : Qt w W) => ha.qt q)
  have HB := Lib.hid (fun W (q : Qt w W) => hb.qt q)
  have HPA := Lib.hid hpa
  have HPB := Lib.hid hpb
  clear ha hb hpa hpb
  go_enter Tryz.func22, Tryz.ntmps22
  go_wp2
  go_loopw [13] (fun i wr => ∃ k n : Nat, k ≤ b.length ∧ i = .int .i64 k ∧ wr = w.drewN n) (fun i _ => b.length - (intOf i).toNat)
  case atStart => exact ⟨0, 0, Nat.zero_le _, rfl, rfl⟩
  case round =>
    obtain ⟨k, n, hk, rfl, rfl⟩ := hrel
    by_cases hlt : k < b.length
    · have h1 := (HA.out w (Qt.refl w)).cells k _ (List.getElem?_eq_getElem hlt)
      have h2 := (HB.out w (Qt.refl w)).cells k _ (List.getElem?_eq_getElem hlt)
      obtain rfl := HPA.out (fun e => by rw [e] at hlt; simp at hlt)
      obtain rfl := HPB.out (fun e => by rw [e] at hlt; simp at hlt)
      have hkb : (k : Int) < (b.length : Int) := by omega
      generalize b[k] = x at *
      go_wp2
      go_quiet (fail)
      go_wp2
      go_roundw
      case rel => exact ⟨k + 1, _, hlt, by go_num, rfl⟩
      case measure => simp [intOf]; omega
    · obtain rfl : k = b.length := by omega
      clear hlt hk
      go_wp2
      go_ret
      exact ⟨rfl, n, rfl⟩
end Go.Proofs.YtjjlpjfojgkpkaaGreatDoor
