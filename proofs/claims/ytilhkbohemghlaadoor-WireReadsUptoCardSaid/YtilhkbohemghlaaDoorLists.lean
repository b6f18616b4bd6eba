/-
  A list of lists of texts that were handed out: each new, in a block of its own.
-/
import Derived.Test.YtilhkbohemghlaaDoorOwnT
namespace Go.Proofs.YtilhkbohemghlaaDoor
open Go.ChangeShapes Go.WideShapes Go.ChangeAt Go.RowKit
set_option maxRecDepth 100000

/-- The lists ls (each a value, and what it reads as), held by v, all new since B. -/
structure Lists (B : Nat) (v : Value) (ls : List (Value × List (List UInt8))) (w : World) : Prop where
  row : w.ownsRow 0 28 1 v ls.length (ls.map (·.1))
  each : ∀ (j : Nat) x, ls[j]? = some x → w.ownsRow 0 9 1 x.1 x.2.length (x.2.map strV)
  far : ∀ (i j : Nat) x y, ls[i]? = some x → ls[j]? = some y → ∀ b, x.1.ownBlock = some b → y.1.ownBlock = some b → i = j
  off : ∀ (j : Nat) x, ls[j]? = some x → ∀ b, x.1.ownBlock = some b → v.ownBlock ≠ some b
  new : ∀ (j : Nat) x, ls[j]? = some x → ∀ b, x.1.ownBlock = some b → B ≤ b
  newv : ∀ b, v.ownBlock = some b → B ≤ b

theorem Lists.nil (B : Nat) (w : World) : Lists B (.slice none 0 0) [] w :=
  ⟨World.ownsRow_nil _ _ _ _, fun j x h => by simp at h, fun i j x y h => by simp at h, fun j x h => by simp at h, fun j x h => by simp at h, fun b h => by simp [Value.ownBlock] at h⟩

theorem Lists.kept {B : Nat} {v : Value} {ls : List (Value × List (List UInt8))} {S : Nat → Prop} {w w' : World} (h : Lists B v ls w) (k : Keeps S w w') (hS : ∀ b, S b → b < w.heap.size → b < B) : Lists B v ls w' :=
  ⟨ownsRow_kept h.row k (fun b e q => by have := h.newv b e; have := hS b q (ownsRow_lt h.row e); omega),
    fun j x hj => ownsRow_kept (h.each j x hj) k (fun b e q => by have := h.new j x hj b e; have := hS b q (ownsRow_lt (h.each j x hj) e); omega), h.far, h.off, h.new, h.newv⟩

/-- One more. -/
theorem Lists.add {B : Nat} {v v' x : Value} {ss : List (List UInt8)} {ls : List (Value × List (List UInt8))} {w w1 w2 : World} (h : Lists B v ls w) (hB : B ≤ w.heap.size) (hz : w.heap.size ≤ w1.heap.size) (hx : w1.ownsRow 0 9 1 x ss.length (ss.map strV)) (hxn : ∀ b, x.ownBlock = some b → w.heap.size ≤ b)
    (h1 : Lists B v ls w1) (hg : w1.grownBy w2 v.ownBlock) (hl : Later w1 v.ownBlock v'.ownBlock) (hown : w2.ownsRow 0 28 1 v' (ls.length + 1) (ls.map (·.1) ++ [x])) : Lists B v' (ls ++ [(x, ss)]) w2 := by
  have K : Keeps (fun b => v.ownBlock = some b) w1 w2 := Keeps.grown (Keeps.refl _ _) hg (fun j _ e => e.symm)
  have ltx : ∀ b, x.ownBlock = some b → b < w1.heap.size := fun b e => ownsRow_lt hx e
  have ltv : ∀ b, v.ownBlock = some b → b < w.heap.size := fun b e => ownsRow_lt h.row e
  have ltl : ∀ (j : Nat) y, ls[j]? = some y → ∀ b, y.1.ownBlock = some b → b < w.heap.size := fun j y hj b e => ownsRow_lt (h.each j y hj) e
  have hv' : ∀ b, v'.ownBlock = some b → v.ownBlock = some b ∨ w1.heap.size ≤ b := by
    intro b e
    rcases hl with q | ⟨g, q, hg⟩
    · exact .inl (q ▸ e)
    · rw [q] at e; injection e with e; exact .inr (by omega)
  have hget : ∀ (j : Nat) y, (ls ++ [(x, ss)])[j]? = some y → (ls[j]? = some y) ∨ (j = ls.length ∧ y = (x, ss)) := by
    intro j y hj
    by_cases hlt : j < ls.length
    · rw [List.getElem?_append_left hlt] at hj; exact .inl hj
    · rw [List.getElem?_append_right (by omega)] at hj
      have hj0 : j - ls.length = 0 := by have := (List.getElem?_eq_some_iff.1 hj).1; simp at this; omega
      rw [hj0] at hj
      simp at hj
      exact .inr ⟨by omega, hj.symm⟩
  refine ⟨by simpa using hown, fun j y hj => ?_, fun i j y z hi hj b e1 e2 => ?_, fun j y hj b e q => ?_, fun j y hj b e => ?_, fun b e => ?_⟩
  · rcases hget j y hj with hj | ⟨_, rfl⟩
    · exact ownsRow_kept (h1.each j y hj) K (fun b e q => h.off j y hj b e q)
    · exact ownsRow_kept hx K (fun b e q => by have := hxn b e; have := ltv b q; omega)
  · rcases hget i y hi with hi | ⟨hi', rfl⟩
    · rcases hget j z hj with hj | ⟨_, rfl⟩
      · exact h.far i j y z hi hj b e1 e2
      · have := ltl i y hi b e1; have := hxn b e2; omega
    · rcases hget j z hj with hj | ⟨_, rfl⟩
      · have := ltl j z hj b e2; have := hxn b e1; omega
      · omega
  · rcases hget j y hj with hj | ⟨_, rfl⟩
    · rcases hv' b q with q | q
      · exact h.off j y hj b e q
      · have := ltl j y hj b e; omega
    · rcases hv' b q with q | q
      · have := ltv b q; have := hxn b e; omega
      · have := ltx b e; omega
  · rcases hget j y hj with hj | ⟨_, rfl⟩
    · exact h.new j y hj b e
    · have := hxn b e; omega
  · rcases hv' b e with q | q
    · exact h.newv b q
    · omega

/-- What is asked of them: they are apart. -/
theorem Lists.apart {B : Nat} {v : Value} {ls : List (Value × List (List UInt8))} {w : World} (h : Lists B v ls w) : Apart ls.length v (fun j => (ls.getD j (.slice none 0 0, [])).1) (fun j => (ls.getD j (.slice none 0 0, [])).2.length) (dOf (fun j => (ls.getD j (.slice none 0 0, [])).2.length) 0 0) w := by
  have hget : ∀ j, j < ls.length → ls[j]? = some (ls.getD j (.slice none 0 0, [])) := by
    intro j hj
    simp [List.getD, hj]
  have hm : (List.range ls.length).map (fun j => (ls.getD j (.slice none 0 0, [])).1) = ls.map (·.1) := by
    apply List.ext_getElem?
    intro j
    by_cases hj : j < ls.length
    · rw [map_range_get _ hj, List.getElem?_map, hget j hj]; rfl
    · rw [List.getElem?_eq_none (by simp; omega), List.getElem?_eq_none (by simp; omega)]
  refine ⟨by rw [hm]; exact h.row, fun j hj => ⟨_, h.each j _ (hget j hj), fun t ht => ?_⟩, fun i j hi hj b e1 e2 => h.far i j _ _ (hget i hi) (hget j hj) b e1 e2, fun j hj b e => h.off j _ (hget j hj) b e⟩
  unfold dOf at ht
  rw [if_neg (by omega)] at ht
  split at ht <;> omega

theorem Lists.own {B : Nat} {v : Value} {ls : List (Value × List (List UInt8))} {w : World} (h : Lists B v ls w) (hn : ls.length ≤ 1073741824) (hl : ∀ x ∈ ls, x.2.length ≤ 1099511627776) :
    Calls Tryd.prog 20 #[v] w fun e w' => e = .returned (.bool true) ∧ Keeps (fun b => ∃ (j : Nat) (x : Value × List (List UInt8)), ls[j]? = some x ∧ x.1.ownBlock = some b) w w' := by
  have hget : ∀ j, j < ls.length → ls[j]? = some (ls.getD j (.slice none 0 0, [])) := by
    intro j hj
    simp [List.getD, hj]
  refine (ownT_any v ls.length _ _ w h.apart hn (fun j hj => hl _ (List.mem_of_getElem? (hget j hj)))).mono ?_
  rintro e w' ⟨rfl, k⟩
  exact ⟨rfl, k.mono (fun b _ ⟨j, hj, e⟩ => ⟨j, _, hget j hj, e⟩)⟩
end Go.Proofs.YtilhkbohemghlaaDoor
