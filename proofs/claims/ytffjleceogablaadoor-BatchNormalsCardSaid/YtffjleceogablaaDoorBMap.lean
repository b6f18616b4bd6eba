/-
  A map from keys to ops: what it holds behind a list of ops.
-/
import Derived.Test.YtffjleceogablaaDoorBSortP
import Derived.Maps.RangeWalk
import Derived.Maps.OwnOps
import Derived.Maps.OwnSet
import Derived.Maps.Ext
namespace Go.Proofs.YtffjleceogablaaDoor
open Go.RowKit Go.WideShapes Go.Maps
set_option maxRecDepth 100000

/-- An op as the map's reader tells it. -/
def opDat (o : Bt.O) : DataW Unit := .slice [.lit (.bool o.del), .lit (.string o.key), .lit (.string o.val)] []
theorem opDat_inj {a b : Bt.O} (h : opDat a = opDat b) : a = b := by
  obtain ⟨d, k, v⟩ := a
  obtain ⟨d2, k2, v2⟩ := b
  simp only [opDat, DataW.slice.injEq, List.cons.injEq, DataW.lit.injEq, Lit.bool.injEq, Lit.string.injEq, and_true] at h
  obtain ⟨rfl, rfl, rfl⟩ := h
  rfl
def opR : Value → Option (DataW Unit × List MemPlace)
  | .agg ⟨[.bool d, .string k, .string v]⟩ => some (opDat ⟨d, k.data.toList, v.data.toList⟩, [])
  | _ => none
theorem opR_mk (o : Bt.O) : opR (opV o) = some (opDat o, []) := by
  obtain ⟨d, k, v⟩ := o
  rfl
theorem opR_inv {v : Value} {y : DataW Unit × List MemPlace} (h : opR v = some y) : ∃ o : Bt.O, v = opV o := by
  unfold opR at h
  split at h
  · rename_i d k v
    refine ⟨⟨d, k.data.toList, v.data.toList⟩, ?_⟩
    obtain ⟨⟨k⟩⟩ := k
    obtain ⟨⟨v⟩⟩ := v
    rfl
  · cases h
abbrev klit (k : Tb.Txt) : Lit := .string k
/-- What the map holds behind these ops. -/
def mapD (ops : List Bt.O) : DataW Unit := ops.foldl (fun D o => D.put (klit o.key) (opDat (Bt.clean o))) (.map [])
theorem mapD_snoc (ops : List Bt.O) (o : Bt.O) : mapD (ops ++ [o]) = (mapD ops).put (klit o.key) (opDat (Bt.clean o)) := by simp [mapD]
theorem isMap_foldl : ∀ (ops : List Bt.O) (D : DataW Unit), IsMap D → IsMap (ops.foldl (fun D o => D.put (klit o.key) (opDat (Bt.clean o))) D)
  | [], _, h => h
  | _ :: ops, _, h => isMap_foldl ops _ (h.put _ _)
theorem mapD_isMap (ops : List Bt.O) : IsMap (mapD ops) := isMap_foldl ops _ isMap_empty
theorem mapD_at : ∀ (ops : List Bt.O) (k : Tb.Txt), has (mapD ops) (klit k) = (Tb.lastOf (Bt.codes ops) k).isSome ∧ ∀ z, (mapD ops).atKey (klit k) z = match Tb.lastOf (Bt.codes ops) k with | none => z | some c => opDat (Bt.dec (k, c)) := by
  intro ops
  induction h : ops.length generalizing ops with
  | zero =>
    intro k
    obtain rfl := List.length_eq_zero_iff.1 h
    exact ⟨rfl, fun z => rfl⟩
  | succ n ih =>
    intro k
    obtain ⟨pre, o, rfl⟩ : ∃ pre o, ops = pre ++ [o] := by
      have hne : ops ≠ [] := by rintro rfl; simp at h
      exact ⟨ops.dropLast, ops.getLast hne, (List.dropLast_concat_getLast hne).symm⟩
    have ih := ih pre (by simpa using h) k
    rw [mapD_snoc, Bt.codes_append, show Bt.codes [o] = [Bt.code o] from rfl, Tb.lastOf_snoc]
    by_cases e : o.key = k
    · subst e
      rw [if_pos (show (Bt.code o).1 = o.key from rfl)]
      refine ⟨by rw [has_put_same (k := klit o.key) (mapD_isMap pre) trivial]; rfl, fun z => ?_⟩
      rw [atKey_put_same (k := klit o.key) (mapD_isMap pre) trivial]
      show opDat (Bt.clean o) = opDat (Bt.dec (Bt.code o))
      rw [Bt.dec_code]
    · have hne : klit k ≠ klit o.key := fun h2 => e (by injection h2 with h2; exact h2.symm)
      rw [if_neg (show ¬ (Bt.code o).1 = k from e)]
      refine ⟨by rw [has_put_other hne]; exact ih.1, fun z => ?_⟩
      rw [atKey_put_other hne]
      exact ih.2 z
theorem normal_iff (ops : List Bt.O) (o : Bt.O) : o ∈ Bt.normal ops ↔ Bt.clean o = o ∧ Tb.lastOf (Bt.codes ops) o.key = some (Bt.code o).2 := by
  constructor
  · intro h
    have hc := (Bt.normal_norm ops).clean o h
    refine ⟨hc, ?_⟩
    rw [← Tb.get_ofL, ← Bt.codes_normal, Tb.get_some (Bt.normal_norm ops).rise]
    exact List.mem_map.2 ⟨o, h, rfl⟩
  · rintro ⟨hc, hl⟩
    rw [← Tb.get_ofL, ← Bt.codes_normal, Tb.get_some (Bt.normal_norm ops).rise] at hl
    obtain ⟨p, hp, e⟩ := List.mem_map.1 hl
    have e2 : Bt.clean p = Bt.clean o := by rw [← Bt.dec_code, ← Bt.dec_code, e]; rfl
    rw [(Bt.normal_norm ops).clean p hp, hc] at e2
    exact e2 ▸ hp
theorem mapD_has {ops : List Bt.O} {o : Bt.O} (h : o ∈ Bt.normal ops) : has (mapD ops) (klit o.key) = true := by
  rw [(mapD_at ops o.key).1, ((normal_iff ops o).1 h).2]
  rfl
/-- An entry that comes is an op of the normal form, at its own key. -/
theorem mapD_entry {ops : List Bt.O} {k : Tb.Txt} {c : Bt.O} (h : ∀ z, (mapD ops).atKey (klit k) z = opDat c) : c ∈ Bt.normal ops ∧ c.key = k := by
  cases hl : Tb.lastOf (Bt.codes ops) k with
  | none =>
    have h1 := h .nil
    rw [(mapD_at ops k).2, hl] at h1
    cases h1
  | some v =>
    have h1 := h .nil
    rw [(mapD_at ops k).2, hl] at h1
    have e := opDat_inj h1
    subst e
    refine ⟨(normal_iff ops _).2 ⟨?_, ?_⟩, rfl⟩
    · have hm : (k, v) ∈ Tb.ofL (Bt.codes ops) := (Tb.get_some (Tb.ofL_sorted _)).1 (by rw [Tb.get_ofL]; exact hl)
      exact (Bt.normal_norm ops).clean _ (List.mem_map.2 ⟨_, hm, rfl⟩)
    · have hm : (k, v) ∈ Tb.ofL (Bt.codes ops) := (Tb.get_some (Tb.ofL_sorted _)).1 (by rw [Tb.get_ofL]; exact hl)
      obtain ⟨p, _, e⟩ := List.mem_map.1 (Tb.ofL_sub _ _ hm)
      show Tb.lastOf (Bt.codes ops) k = _
      rw [hl, ← e, Bt.dec_code, Bt.code_clean, e]
theorem size_le {P : Program} {k : TypeId} {R : Value → Option (DataW Unit × List MemPlace)} {w : World} {b n : Nat} {D : DataW Unit} (h : w.ownsMap P k R b n D) : size D ≤ n := by
  obtain ⟨es, clock, _, _, hs, rfl⟩ := h
  rw [size_eq, length_sorted, List.length_map, Array.length_toList]
  exact hs
/-- What the second loop keeps: what has come is what is no longer left. -/
structure Came (ops : List Bt.O) (left : Lit → Bool) (xs : List Bt.O) : Prop where
  apart : Bt.Apart xs
  mem : ∀ o, o ∈ xs ↔ o ∈ Bt.normal ops ∧ left (klit o.key) = false
theorem came_start (ops : List Bt.O) : Came ops (has (mapD ops)) [] := ⟨List.Pairwise.nil, fun o => by
  constructor
  · intro h; cases h
  · rintro ⟨h, e⟩; rw [mapD_has h] at e; cases e⟩
theorem came_step {ops : List Bt.O} {left : Lit → Bool} {xs : List Bt.O} {c : Bt.O} (h : Came ops left xs) (hc : c ∈ Bt.normal ops) (hl : left (klit c.key) = true) : Came ops (fun z => left z && !z.sameKey (klit c.key)) (xs ++ [c]) := by
  refine ⟨List.pairwise_append.2 ⟨h.apart, List.pairwise_singleton _ _, fun a ha b hb => ?_⟩, fun o => ?_⟩
  · rw [List.mem_singleton] at hb
    subst hb
    intro e
    have := ((h.mem a).1 ha).2
    rw [e, hl] at this
    cases this
  · rw [List.mem_append, List.mem_singleton, h.mem o]
    constructor
    · rintro (⟨h1, h2⟩ | rfl)
      · exact ⟨h1, by simp only [h2, Bool.false_and]⟩
      · refine ⟨hc, ?_⟩
        have : (klit o.key).sameKey (klit o.key) = true := WideAt.sameKey_self trivial
        simp only [this, Bool.not_true, Bool.and_false]
    · rintro ⟨h1, h2⟩
      by_cases e : o.key = c.key
      · exact .inr ((Bt.normal_norm ops).apart.inj h1 hc e)
      · left
        refine ⟨h1, ?_⟩
        have hne : (klit o.key).sameKey (klit c.key) = false := sameKey_ne (fun h3 => e (by injection h3))
        rw [hne] at h2
        simpa using h2
theorem came_end {ops : List Bt.O} {left : Lit → Bool} {xs : List Bt.O} (h : Came ops left xs) (hl : ∀ k, left k = false) : ∀ o, o ∈ xs ↔ o ∈ Bt.normal ops := fun o => by
  rw [h.mem o]
  exact ⟨fun h => h.1, fun h => ⟨h, hl _⟩⟩
end Go.Proofs.YtffjleceogablaaDoor
