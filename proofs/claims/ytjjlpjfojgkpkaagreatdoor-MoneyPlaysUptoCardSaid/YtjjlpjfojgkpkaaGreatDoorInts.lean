/-
  Lists of numbers in memory, read: of whatever kind.
-/
import Derived.Test.YtjjlpjfojgkpkaaGreatDoorQt
namespace Go.Proofs.YtjjlpjfojgkpkaaGreatDoor
open Go.RowKit
set_option maxRecDepth 100000

/-- v reads as the numbers xs of kind k. -/
structure IntsAt (k : IntKind) (w : World) (v : Value) (g off : Nat) (xs : List Int) : Prop where
  val : ∃ a cap, v = .slice a xs.length cap ∧ (xs ≠ [] → a = some ⟨g, off, none⟩)
  le : xs.length ≤ 17592186044416
  room : ∀ a n c, v = .slice a n c → n ≤ c
  cells : ∀ (i : Nat) (x : Int), xs[i]? = some x → w.cell? ⟨g, off + i, none⟩ = some (.int k x)
theorem IntsAt.qt {k : IntKind} {w w' : World} {v : Value} {g off : Nat} {xs : List Int} (h : IntsAt k w v g off xs) (q : Qt w w') : IntsAt k w' v g off xs :=
  ⟨h.val, h.le, h.room, fun i x hx => q.cellv (h.cells i x hx)⟩
theorem IntsAt.keeps {k : IntKind} {w w' : World} {v : Value} {g off : Nat} {xs : List Int} {S : Nat → Prop} (h : IntsAt k w v g off xs) (q : Keeps S w w') (hS : xs ≠ [] → ¬ S g) : IntsAt k w' v g off xs :=
  ⟨h.val, h.le, h.room, fun i x hx => q.cellv (h.cells i x hx) (hS (fun e => by rw [e] at hx; simp at hx))⟩
theorem IntsAt.lt {k : IntKind} {w : World} {v : Value} {g off : Nat} {xs : List Int} (h : IntsAt k w v g off xs) (hne : xs ≠ []) : g < w.heap.size := by
  obtain ⟨x, hx⟩ : ∃ x, xs[0]? = some x := by
    cases xs with
    | nil => exact absurd rfl hne
    | cons x _ => exact ⟨x, rfl⟩
  exact World.block_lt_of_cell? w _ (h.cells 0 x hx)
/-- What a step that touches new blocks alone leaves of it. -/
theorem IntsAt.since {k : IntKind} {w w' : World} {v : Value} {g off : Nat} {xs : List Int} (h : IntsAt k w v g off xs) (q : Since w.heap.size w w') : IntsAt k w' v g off xs :=
  h.keeps q (fun hne hS => by have := h.lt hne; omega)
/-- The first n of it. -/
theorem IntsAt.take {k : IntKind} {w : World} {a : Option Addr} {c g off : Nat} {xs : List Int} {m : Nat} (h : IntsAt k w (.slice a m c) g off xs) {n : Nat} (hn : n ≤ m) : IntsAt k w (.slice a n c) g off (xs.take n) := by
  have hm : m = xs.length := by
    obtain ⟨a', c', e, _⟩ := h.val
    injection e
  subst hm
  have hl : (xs.take n).length = n := by rw [List.length_take]; omega
  refine ⟨⟨a, c, by rw [hl], fun hne => ?_⟩, by have := h.le; omega, fun a' n' c' e => ?_, fun i x hx => ?_⟩
  · obtain ⟨a', c', e, ha⟩ := h.val
    injection e with e1 e2 e3
    subst e1
    exact ha (fun e => hne (by rw [e]; simp))
  · injection e with e1 e2 e3
    subst e2 e3
    have := h.room a _ _ rfl
    omega
  · rw [List.getElem?_take] at hx
    split at hx
    · exact h.cells i x hx
    · cases hx
/-- .. and from n on, where something is left. -/
theorem IntsAt.drop {k : IntKind} {w : World} {c g off : Nat} {xs : List Int} {m : Nat} (h : IntsAt k w (.slice (some ⟨g, off, none⟩) m c) g off xs) {n : Nat} (hn : n ≤ m) : IntsAt k w (.slice (some ⟨g, off + n, none⟩) (m - n) (c - n)) g (off + n) (xs.drop n) := by
  have hm : m = xs.length := by
    obtain ⟨a', c', e, _⟩ := h.val
    injection e
  subst hm
  have hr := h.room _ _ _ rfl
  refine ⟨⟨_, _, by rw [List.length_drop], fun _ => rfl⟩, by have := h.le; rw [List.length_drop]; omega, fun a' n' c' e => ?_, fun i x hx => ?_⟩
  · injection e with e1 e2 e3
    subst e2 e3
    omega
  · rw [List.getElem?_drop] at hx
    rw [Nat.add_assoc]
    exact h.cells _ x hx
end Go.Proofs.YtjjlpjfojgkpkaaGreatDoor
