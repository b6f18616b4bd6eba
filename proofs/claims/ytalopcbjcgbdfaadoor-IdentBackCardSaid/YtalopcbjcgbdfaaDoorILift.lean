/-
  A list of numbers and a list of bools that came in, as cells.
-/
import Derived.Test.YtalopcbjcgbdfaaDoorIBack
import Derived.Test.YtalopcbjcgbdfaaDoorMLift
import Derived.Deep.Grids
namespace Go.Proofs.YtalopcbjcgbdfaaDoor
open Go.ChangeShapes Go.WideShapes Go.ChangeAt Go.RowKit
set_option maxRecDepth 100000

theorem ints_list {W : World} {a : Option Addr} {n c g off : Nat} {xs : List Int} (h : IntsAt .i64 W (.slice a n c) g off xs) : ListAt W a n g off (fun j => .int .i64 (xs.getD j 0)) := by
  obtain ⟨a', c', e, ha⟩ := h.val
  injection e with e1 e2 e3
  subst e1 e2
  refine ⟨fun h0 => ha (fun q => by rw [q] at h0; exact absurd h0 (by decide)), fun j hj => ?_⟩
  refine h.cells j _ ?_
  rw [List.getD_eq_getElem?_getD, List.getElem?_eq_getElem hj]; rfl
theorem cellsBool : Tryd.prog.cellsOf 4 = 1 := by kernel_rfl
theorem open_blist {H : Type} {enc : TypeId × Value → H} {W : World} {fuel : Nat} {a : Option Addr} {n c : Nat} {y : DataW H × List MemPlace} (h : DataW.trod enc Tryd.prog W 0 (fun _ => true) true fuel 46 [.slice a n c] = some y) :
    ∃ (g off : Nat) (B : Nat → Bool), ListAt W a n g off (fun j => .bool (B j)) := by
  rcases Deep.open_bools Tryd.underlying46 Tryd.underlying4 cellsBool h with ⟨hcs, _⟩ | ⟨ad, len, cap, B, hcs, _, hl, _, _, hcell⟩
  · simp at hcs
    obtain ⟨rfl, rfl, rfl⟩ := hcs
    exact ⟨0, 0, fun _ => false, fun h => absurd h (by decide), fun j hj => absurd hj (by omega)⟩
  · simp at hcs
    obtain ⟨rfl, rfl, rfl⟩ := hcs
    obtain ⟨b, off, spot⟩ := ad
    have hsp : 0 < n → spot = none := fun h0 => by simpa [Addr.add] using World.cell?_spot (hcell 0 (by omega))
    refine ⟨b, off, B, fun h0 => by rw [hsp h0], fun j hj => ?_⟩
    have hc := hcell j (by omega)
    have hs := hsp (by omega)
    subst hs
    rw [add_plain] at hc
    exact hc
end Go.Proofs.YtalopcbjcgbdfaaDoor
