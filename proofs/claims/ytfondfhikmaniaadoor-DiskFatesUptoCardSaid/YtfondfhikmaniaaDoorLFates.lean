/-
  DiskFates: what a crash leaves, plain; the rows of what was written, in memory.
-/
import Derived.Test.YtfondfhikmaniaaDoorLFlushes
import Derived.Test.YtfondfhikmaniaaDoorAppList
namespace Go.Proofs.YtfondfhikmaniaaDoor
open Go.RowKit Go.WideShapes
set_option maxRecDepth 100000

/-- What was written at i. -/
def wroteOf (ws : List (Nat × List UInt8)) (i : Nat) : List (List UInt8) := (ws.filter (fun x => x.1 == i)).map (·.2)
theorem wroteOf_nil (i : Nat) : wroteOf [] i = [] := rfl
theorem wroteOf_snoc (ws : List (Nat × List UInt8)) (p : Nat) (s : List UInt8) (i : Nat) : wroteOf (ws ++ [(p, s)]) i = if p = i then wroteOf ws i ++ [s] else wroteOf ws i := by
  unfold wroteOf
  rw [List.filter_append, List.map_append]
  by_cases h : p = i
  · simp [h]
  · simp [h]
theorem wroteOf_mem {ws : List (Nat × List UInt8)} {j : Nat} {x : Nat × List UInt8} (h : ws[j]? = some x) : x.2 ∈ wroteOf ws x.1 := by
  unfold wroteOf
  refine List.mem_map.2 ⟨x, List.mem_filter.2 ⟨List.mem_of_getElem? h, by simp⟩, rfl⟩

theorem getD_set_same {D : List (List UInt8)} {p : Nat} {s : List UInt8} (h : p < D.length) : (D.set p s).getD p [] = s := by simp [List.getD, h]
theorem getD_set_other {D : List (List UInt8)} {p q : Nat} {s : List UInt8} (h : p ≠ q) : (D.set p s).getD q [] = D.getD q [] := by simp [List.getD, List.getElem?_set_ne h]

/-- A sector behind a crash: as it was, as one of its writes, or the torn one's. -/
theorem crash_sector {f : FT} {D : List (List UInt8)} {ws : List (Nat × List UInt8)} (hD : ∀ (i : Nat) (t : List UInt8), D[i]? = some t → t.length = 256) (hw : ∀ (k : Nat) (w : Nat × List UInt8), ws[k]? = some w → w.1 < D.length ∧ w.2.length = 256) (p : Nat) :
    ∀ k, (crashTo f D ws k).getD p [] = D.getD p [] ∨ (∃ (j : Nat) (x : Nat × List UInt8), ws[j]? = some x ∧ x.1 = p ∧ (crashTo f D ws k).getD p [] = x.2) ∨ (∃ (j : Nat) (x : Nat × List UInt8), (j : Int) = f.torn ∧ ws[j]? = some x ∧ x.1 = p)
  | 0 => .inl rfl
  | k + 1 => by
    have ih := crash_sector (f := f) hD hw p k
    cases hx : ws[k]? with
    | none =>
      have e : crashTo f D ws (k + 1) = crashTo f D ws k := by rw [crashTo, hx]
      rw [e]; exact ih
    | some x =>
      rw [crashTo_succ hx]
      obtain ⟨h1, h2⟩ := hw k x hx
      have hl : x.1 < (crashTo f D ws k).length := by rw [crashTo_length]; exact h1
      by_cases hp : x.1 = p
      · subst hp
        rw [getD_set_same hl]
        by_cases ht : (k : Int) = f.torn
        · exact .inr (.inr ⟨k, x, ht, hx, rfl⟩)
        · unfold FT.done
          rw [if_neg ht]
          split
          · rw [tornBy_all (getD_length (crashTo_each hD hw k) hl) h2]
            exact .inr (.inl ⟨k, x, hx, rfl, rfl⟩)
          · rw [tornBy_zero]
            exact ih
      · rw [getD_set_other hp]
        exact ih

/-- Is sector i behind the crash whole? -/
def wholeAt (D D' : List (List UInt8)) (ws : List (Nat × List UInt8)) (i : Nat) : Bool := D'.getD i [] == D.getD i [] || (wroteOf ws i).any (fun t => D'.getD i [] == t)

theorem torn_one {d : DS} (hok : d.Ok) (f : FT) {i : Nat} (h : wholeAt d.dur (d.crashD f).dur d.ways i = false) : ∃ (j : Nat) (x : Nat × List UInt8), (j : Int) = f.torn ∧ d.ways[j]? = some x ∧ x.1 = i := by
  unfold wholeAt at h
  rw [Bool.or_eq_false_iff] at h
  obtain ⟨h1, h2⟩ := h
  rcases crash_sector (f := f) hok.each hok.way i d.ways.length with e | ⟨j, x, hx, hp, e⟩ | e
  · exact absurd (beq_iff_eq.2 e) (by rw [show ((crashTo f d.dur d.ways d.ways.length).getD i [] == d.dur.getD i []) = false from h1]; decide)
  · subst hp
    rw [List.any_eq_false] at h2
    exact absurd (beq_iff_eq.2 e) (h2 _ (wroteOf_mem hx))
  · exact e
theorem torn_same {d : DS} (hok : d.Ok) (f : FT) {i k : Nat} (h : wholeAt d.dur (d.crashD f).dur d.ways i = false) (h2 : wholeAt d.dur (d.crashD f).dur d.ways k = false) : i = k := by
  obtain ⟨j, x, e1, e2, e3⟩ := torn_one hok f h
  obtain ⟨j', x', e1', e2', e3'⟩ := torn_one hok f h2
  obtain rfl : j = j' := by omega
  rw [e2] at e2'
  injection e2' with e
  subst e
  exact e3.symm.trans e3'
theorem torn_wrote {d : DS} (hok : d.Ok) (f : FT) {i : Nat} (h : wholeAt d.dur (d.crashD f).dur d.ways i = false) : wroteOf d.ways i ≠ [] := by
  obtain ⟨j, x, _, e2, rfl⟩ := torn_one hok f h
  exact List.ne_nil_of_mem (wroteOf_mem e2)

theorem flat_cut {D : List (List UInt8)} (hD : ∀ (i : Nat) (t : List UInt8), D[i]? = some t → t.length = 256) {k : Nat} (hk : k < D.length) : (D.flatten.drop (k * 256)).take 256 = D.getD k [] := by
  have hl := flat_len hD k (Nat.le_of_lt hk)
  have e2 : D.flatten = (D.take k).flatten ++ (D.drop k).flatten := by rw [← List.flatten_append, List.take_append_drop]
  rw [e2, ← hl, List.drop_left' rfl, List.drop_eq_getElem_cons hk, List.flatten_cons]
  have h256 := hD k D[k] (List.getElem?_eq_getElem hk)
  rw [show D.getD k [] = D[k] by simp [List.getD, hk], ← h256]
  exact List.take_left' rfl

/-! ### in memory -/
def strV (s : List UInt8) : Value := .string ⟨s.toArray⟩

/-- The rows of what was written. -/
structure WroteAt (W : World) (g N : Nat) (vs : List Value) (ws : List (Nat × List UInt8)) (R : Nat → Prop) : Prop where
  len : vs.length = N
  blk : W.heap[g]? = some (.cells vs.toArray 58 (0, 0))
  gR : R g
  row : ∀ (i : Nat) (v : Value), vs[i]? = some v → W.ownsRow 0 9 1 v (wroteOf ws i).length ((wroteOf ws i).map strV)
  own : ∀ (i : Nat) (v : Value), vs[i]? = some v → ∀ k, v.ownBlock = some k → R k ∧ k ≠ g
  apart : ∀ (i j : Nat) (v u : Value), vs[i]? = some v → vs[j]? = some u → ∀ k, v.ownBlock = some k → u.ownBlock = some k → i = j

theorem WroteAt.kept {W W' : World} {g N : Nat} {vs : List Value} {ws : List (Nat × List UInt8)} {R S : Nat → Prop} (h : WroteAt W g N vs ws R) (hk : Keeps S W W') (hS : ∀ k, R k → ¬ S k) : WroteAt W' g N vs ws R :=
  ⟨h.len, (hk.block g (lt_of_block h.blk) (hS g h.gR)).trans h.blk, h.gR, fun i v hv => ownsRow_kept (h.row i v hv) hk (fun k e => hS k (h.own i v hv k e).1), h.own, h.apart⟩
theorem WroteAt.lt {W : World} {g N : Nat} {vs : List Value} {ws : List (Nat × List UInt8)} {R : Nat → Prop} (h : WroteAt W g N vs ws R) : WroteAt W g N vs ws (fun k => R k ∧ k < W.heap.size) :=
  ⟨h.len, h.blk, ⟨h.gR, lt_of_block h.blk⟩, h.row, fun i v hv k e => ⟨⟨(h.own i v hv k e).1, ownsRow_lt (h.row i v hv) e⟩, (h.own i v hv k e).2⟩, h.apart⟩
theorem WroteAt.cell {W : World} {g N : Nat} {vs : List Value} {ws : List (Nat × List UInt8)} {R : Nat → Prop} (h : WroteAt W g N vs ws R) {i : Nat} {v : Value} (hv : vs[i]? = some v) : W.cell? ⟨g, i, none⟩ = some v := by
  rw [cell_of_row _ _ _ _ _ _ h.blk]
  simpa using hv

/-- Behind an append to row i and the store of it. -/
theorem WroteAt.push {W W1 : World} {g N i : Nat} {vs : List Value} {ws : List (Nat × List UInt8)} {R : Nat → Prop} {v v' : Value} {s : List UInt8} (h : WroteAt W g N vs ws R) (hv : vs[i]? = some v)
    (ho : W1.ownsRow 0 9 1 v' ((wroteOf ws i).length + 1) ((wroteOf ws i).map strV ++ [strV s])) (hg : W.grownBy W1 v.ownBlock) (hl : Later W v.ownBlock v'.ownBlock) :
    WroteAt (W1.setCell ⟨g, i, none⟩ v') g N (vs.set i v') (ws ++ [(i, s)]) (Grow R W W1) ∧ Keeps R W (W1.setCell ⟨g, i, none⟩ v') := by
  have hi := (List.getElem?_eq_some_iff.1 hv).1
  have K1 : Keeps (fun k => some k = v.ownBlock) W W1 := Keeps.grown (Keeps.refl _ W) hg (fun k _ e => e)
  have hb1 : W1.heap[g]? = some (.cells vs.toArray 58 (0, 0)) := (K1.block g (lt_of_block h.blk) (fun e => (h.own i v hv g e.symm).2 rfl)).trans h.blk
  have K2 := keeps_setCell W1 g i v'
  have hb' : ∀ k, v'.ownBlock = some k → (v.ownBlock = some k ∨ (W.heap.size ≤ k ∧ k < W1.heap.size)) := by
    intro k hk
    rcases hl with e | ⟨q, e, hq⟩
    · exact .inl (e ▸ hk)
    · rw [hk] at e
      injection e with e
      subst e
      exact .inr ⟨hq, ownsRow_lt ho hk⟩
  have hgn : ∀ k, v'.ownBlock = some k → k ≠ g := by
    intro k hk e
    subst e
    rcases hb' _ hk with q | q
    · exact (h.own i v hv _ q).2 rfl
    · have := lt_of_block h.blk; omega
  refine ⟨⟨by rw [List.length_set]; exact h.len, ?_, .inl h.gR, ?_, ?_, ?_⟩, ?_⟩
  · rw [setCell_row hb1]
    simp
  · intro j u hu
    rw [wroteOf_snoc]
    rw [List.getElem?_set] at hu
    split at hu
    · rename_i e
      subst e
      injection hu with hu
      subst hu
      rw [if_pos rfl, List.map_append, List.length_append]
      exact ownsRow_kept ho K2 (fun k hk e => hgn k hk e)
    · rename_i e
      rw [if_neg e]
      exact ownsRow_kept (ownsRow_kept (h.row j u hu) K1 (fun k hk q => e (h.apart i j v u hv hu k q.symm hk))) K2 (fun k hk q => (h.own j u hu k hk).2 q)
  · intro j u hu k hk
    rw [List.getElem?_set] at hu
    split at hu
    · rename_i e
      subst e
      injection hu with hu
      subst hu
      refine ⟨?_, hgn k hk⟩
      rcases hb' k hk with q | q
      · exact .inl (h.own i v hv k q).1
      · exact .inr q
    · exact ⟨.inl (h.own j u hu k hk).1, (h.own j u hu k hk).2⟩
  · have hx : ∀ (j : Nat) (u : Value), i ≠ j → vs[j]? = some u → ∀ k, v'.ownBlock = some k → u.ownBlock = some k → False := by
      intro j u hne hu k h1 h2
      rcases hb' k h1 with q | q
      · exact hne (h.apart i j v u hv hu k q h2)
      · have := ownsRow_lt (h.row j u hu) h2; omega
    intro j l u t hu ht k h1 h2
    rw [List.getElem?_set] at hu ht
    split at hu
    · rename_i e
      subst e
      injection hu with hu
      subst hu
      split at ht
      · assumption
      · rename_i e
        exact (hx l t e ht k h1 h2).elim
    · rename_i e
      split at ht
      · rename_i e'
        subst e'
        injection ht with ht
        subst ht
        exact (hx j u e hu k h2 h1).elim
      · exact h.apart j l u t hu ht k h1 h2
  · refine Keeps.trans (Keeps.mono K1 (fun k _ e => (h.own i v hv k e.symm).1)) K2 (fun k _ e => by subst e; exact h.gR)
end Go.Proofs.YtfondfhikmaniaaDoor
