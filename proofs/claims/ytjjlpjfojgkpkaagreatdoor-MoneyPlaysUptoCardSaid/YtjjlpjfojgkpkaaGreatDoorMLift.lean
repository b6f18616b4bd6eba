/-
  A list of numbers of 64 bits that came in, opened.
-/
import Derived.Test.YtjjlpjfojgkpkaaGreatDoorInts
import Derived.Test.YtjjlpjfojgkpkaaGreatDoorLaid
import Derived.ChangeSlices
import Derived.SizedLaws
namespace Go.Proofs.YtjjlpjfojgkpkaaGreatDoor
open Go.ChangeShapes Go.WideShapes Go.ChangeAt Go.RowKit
set_option maxRecDepth 100000

theorem open_list {H : Type} {enc : TypeId × Value → H} {W : World} {T E : TypeId} (ht : Tryz.prog.underlying T = some (.slice E)) (he : Tryz.prog.underlying E = some (.int .i64)) (hc : Tryz.prog.cellsOf E = 1) {fuel : Nat} {c : Value} {y : DataW H × List MemPlace} (h : DataW.trod enc Tryz.prog W 0 (fun _ => true) true fuel T [c] = some y) :
    ∃ (g g0 : Nat) (xs : List Int), (xs.length ≤ 17592186044416 → IntsAt .i64 W c g g0 xs) ∧ (∀ x ∈ xs, -9223372036854775808 ≤ x ∧ x < 9223372036854775808) ∧ ((y.1 = .nil ∧ xs = []) ∨ ∃ spare, y.1 = .slice (lits .i64 xs) spare) := by
  rcases open_ints ht he hc h with ⟨hcs, hx⟩ | ⟨a, len, cap, zs, hcs, _, hl, hm, hz, hx, hcell, hwf⟩
  · simp at hcs
    subst hcs
    exact ⟨0, 0, [], fun _ => ⟨⟨none, 0, rfl, fun h => absurd rfl h⟩, by simp, fun a n c e => by injection e with _ e1 e2; omega, fun j s hj => by simp at hj⟩, fun x hx => by simp at hx, .inl ⟨by rw [hx], rfl⟩⟩
  · simp at hcs
    subst hcs
    simp only [if_true] at hz
    obtain ⟨b, off, spot⟩ := a
    have htl : (zs.take len).length = len := by rw [List.length_take]; omega
    refine ⟨b, off, zs.take len, fun hle => ⟨⟨some ⟨b, off, spot⟩, cap, by rw [htl], fun hne => ?_⟩, hle, fun a n c e => by injection e with _ e1 e2; omega, fun j s hj => ?_⟩, fun x hx => ?_, .inr ⟨_, by rw [hx]⟩⟩
    · have h0 : 0 < zs.length := by
        rcases Nat.eq_zero_or_pos zs.length with h0 | h0
        · have : zs = [] := List.eq_nil_of_length_eq_zero h0
          subst this
          simp at hne
        · exact h0
      have hspot : spot = none := by simpa [Addr.add] using World.cell?_spot (hcell 0 h0)
      rw [hspot]
    · have hj' : j < len := by have := (List.getElem?_eq_some_iff.1 hj).1; omega
      have hspot : spot = none := by simpa [Addr.add] using World.cell?_spot (hcell 0 (by omega))
      subst hspot
      have hX' : zs.getD j 0 = s := by
        rw [List.getElem?_take_of_lt hj'] at hj
        simp [List.getD, hj]
      have hc := hcell j (by omega)
      rw [hX', add_plain] at hc
      exact hc
    · have := bounds_i64 (hwf x (List.mem_of_mem_take hx))
      omega
theorem list_len {H : Type} {ts : List TypeId} {ds : List (DataW H)} (h : (DataW.weightsEach Tryz.prog ts ds).all (· ≤ reachBytes) = true) {j : Nat} {T E : TypeId} {xs : List Int} {d : DataW H} (ht : ts[j]? = some T) (hu : Tryz.prog.underlying T = some (.slice E)) (hb : Tryz.prog.bytesOf E = 8) (hd : ds[j]? = some d) (hx : (d = .nil ∧ xs = []) ∨ ∃ spare, d = .slice (lits .i64 xs) spare) : xs.length ≤ 17592186043904 := by
  rcases hx with ⟨_, rfl⟩ | ⟨spare, rfl⟩
  · simp
  · have := sized_slice h ht hd hu
    rw [hb] at this
    have e : (lits (H := H) .i64 xs).length = xs.length := by simp [lits]
    rw [e] at this
    unfold reachBytes at this
    omega
theorem cellsI64 : Tryz.prog.cellsOf 2 = 1 := by kernel_rfl
theorem cellsInt : Tryz.prog.cellsOf 3 = 1 := by kernel_rfl
theorem bytesI64 : Tryz.prog.bytesOf 2 = 8 := by kernel_rfl
theorem bytesInt : Tryz.prog.bytesOf 3 = 8 := by kernel_rfl
end Go.Proofs.YtjjlpjfojgkpkaaGreatDoor
