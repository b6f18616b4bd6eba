/-
  The order of keys as slices.SortFunc asks it; a row of structs sorted in place.
  A map from keys to ops: what it holds behind a list of ops.
-/
import Derived.Test.YtffjleceogablaaDoorP08
import Derived.Shelf.SlSortCmp.NoneTotal
import Derived.Lib.Bytealg
import Derived.Maps.RangeWalk
import Derived.Maps.OwnOps
import Derived.Maps.OwnSet
import Derived.Maps.Ext
namespace Go.Proofs.YtffjleceogablaaDoor
open Go.RowKit Go.WideShapes Go.Sort Go.Shelf
set_option maxRecDepth 100000

namespace Bt
instance : Inhabited O := ⟨⟨false, [], []⟩⟩
def cmpK (x y : O) : Int := Lib.compareBytes x.key y.key
theorem cmp_lt : ∀ a b : Tb.Txt, decide (Lib.compareBytes a b < 0) = Tb.lt a b
  | [], [] => rfl
  | [], _ :: _ => rfl
  | _ :: _, [] => rfl
  | a :: x, b :: y => by
    rw [Tb.lt_cons, ← cmp_lt x y]
    show decide ((if a < b then (-1 : Int) else if b < a then 1 else Lib.compareBytes x y) < 0) = _
    by_cases h1 : a < b
    · simp [h1]
    · by_cases h2 : b < a
      · have hne : ¬ a = b := fun e => by subst e; exact h1 h2
        simp [h1, h2, hne]
      · have he : a = b := by
          have h1' : ¬ a.toNat < b.toNat := h1
          have h2' : ¬ b.toNat < a.toNat := h2
          exact UInt8.toNat_inj.1 (by omega)
        subst he
        simp [h1]
theorem ltOf_cmpK (x y : O) : ltOf cmpK x y = Tb.lt x.key y.key := cmp_lt x.key y.key
theorem swoK : SWO (ltOf cmpK) where
  irrefl x := by rw [ltOf_cmpK]; exact Tb.lt_irrefl _
  trans x y z h1 h2 := by rw [ltOf_cmpK] at *; exact Tb.lt_trans h1 h2
  ntrans x y z h1 h2 := by
    rw [ltOf_cmpK] at *
    cases h : Tb.lt x.key z.key with
    | false => rfl
    | true => rw [Tb.lt_of_lt_ge h h2] at h1; cases h1
/-- Keys, each but once. -/
def Apart (l : List O) : Prop := l.Pairwise (fun a b => a.key ≠ b.key)
theorem Apart.inj {l : List O} (h : Apart l) {a b : O} (ha : a ∈ l) (hb : b ∈ l) (e : a.key = b.key) : a = b := by
  induction l with
  | nil => cases ha
  | cons x l ih =>
    obtain ⟨h1, h2⟩ := List.pairwise_cons.1 h
    rcases List.mem_cons.1 ha with e1 | ha2
    · rcases List.mem_cons.1 hb with e2 | hb2
      · rw [e1, e2]
      · exact absurd (e1 ▸ e) (h1 b hb2)
    · rcases List.mem_cons.1 hb with e2 | hb2
      · exact absurd (e2 ▸ e.symm) (h1 a ha2)
      · exact ih h2 ha2 hb2
theorem Apart.nodup {l : List O} (h : Apart l) : l.Nodup := h.imp (fun hne e => hne (by rw [e]))
theorem Norm.apart {l : List O} (h : Norm l) : Apart l := by
  have h2 := List.pairwise_map.1 h.rise
  exact h2.imp (fun {a b} hl => Tb.lt_ne hl)
/-- What the sort leaves is the normal list of the same members. -/
theorem sorted_is {l m : List O} {d : Array O} (hl : Apart l) (hm : Norm m) (hmem : ∀ o, o ∈ l ↔ o ∈ m) (hp : d.toList.Perm l) (hs : SortedIn (ltOf cmpK) 0 d.size d) : d.toList = m := by
  have p2 : d.toList.Perm m := hp.trans ((List.perm_ext_iff_of_nodup hl.nodup hm.apart.nodup).2 hmem)
  have w1 : d.toList.Pairwise (fun a b => Tb.lt b.key a.key = false) := by
    rw [List.pairwise_iff_getElem]
    intro i j hi hj hij
    have hj' : j < d.size := by simpa using hj
    have h := hs i j (Nat.zero_le _) hij hj'
    rw [ltOf_cmpK, getElem!_pos d j hj', getElem!_pos d i (by omega)] at h
    simpa using h
  have w2 : m.Pairwise (fun a b => Tb.lt b.key a.key = false) := by
    have h2 := List.pairwise_map.1 hm.rise
    exact h2.imp (fun {a b} hl => Tb.lt_asymm hl)
  refine List.Perm.eq_of_pairwise (fun a b ha hb h1 h2 => ?_) w1 w2 p2
  exact hm.apart.inj (p2.mem_iff.1 ha) hb (Tb.lt_total h2 h1)
end Bt
section
variable {α : Type} [Inhabited α] {f : α → List Value} {n : Nat} {E : TypeId}
theorem flat_get (hf : ∀ x, (f x).length = n) (hn : 0 < n) (d : Array α) {t : Nat} (ht : t < d.size * n) : (cellsG f d.toList)[t]? = some ((flatK f n d)[t]!) := by
  have hd : t / n < d.size := Nat.div_lt_of_lt_mul (by rw [Nat.mul_comm]; exact ht)
  have hm : t % n < n := Nat.mod_lt _ hn
  rw [get_flatK f n d t ht]
  have h1 : d.toList[t / n]? = some (d[t / n]!) := by rw [Array.getElem?_toList, Array.getElem?_eq_getElem hd, getElem!_pos d _ hd]
  have h2 : (f d[t / n]!)[t % n]? = some ((f d[t / n]!)[t % n]!) := by
    have hl : t % n < (f d[t / n]!).length := by rw [hf]; exact hm
    rw [List.getElem?_eq_getElem hl, getElem!_pos (f d[t / n]!) (t % n) hl]
  have h := cellsG_get hf h1 h2
  rwa [Nat.mul_comm, Nat.div_add_mod] at h
theorem sortK_holds (hf : ∀ x, (f x).length = n) (hn : 0 < n) {W : World} {g c : Nat} {d : Array α} (h : W.ownsRow 0 E n (.slice (some ⟨g, 0, none⟩) d.size c) d.size (cellsG f d.toList)) : HoldsK f n W g 0 d := by
  intro j hj
  rw [size_flatK] at hj
  refine ⟨?_, ownG_frozen h _⟩
  have hc := (World.ownsRowF_of h).cells (g := g) rfl _ _ (flat_get hf hn d hj)
  rwa [add_plain] at hc
theorem sortK_keeps (W : World) (g m : Nat) (d : Array α) (os : Array Obj) : Keeps (fun j => j = g) W (sortWorldK f n W g 0 m d os) := by
  refine ⟨rfl, rfl, rfl, ?_, fun j hj hn => ?_⟩
  · simp [sortWorldK, putRowK, grow, putRow, mapBlock]
  · simp only [sortWorldK, putRowK, grow, putRow, mapBlock]
    rw [Array.getElem?_append_left (by simpa using hj), Array.getElem?_modify, if_neg (fun e => hn e.symm)]
    rfl
theorem sortK_own (hf : ∀ x, (f x).length = n) (hn : 0 < n) {W : World} {g c : Nat} {d d2 : Array α} (h : W.ownsRow 0 E n (.slice (some ⟨g, 0, none⟩) d.size c) d.size (cellsG f d.toList)) (hs : d2.size = d.size) (m : Nat) (os : Array Obj) : (sortWorldK f n W g 0 m d2 os).ownsRow 0 E n (.slice (some ⟨g, 0, none⟩) d.size c) d.size (cellsG f d2.toList) := by
  have hlen : (cellsG f d2.toList).length = d.size * n := by rw [cellsG_length hf]; simp [hs]
  refine ⟨hlen, ?_⟩
  rcases h.2 with ⟨e, _⟩ | ⟨g', c', cur, e, hb, hg, hnc, hcm, hsz, htk⟩
  · cases e
  · injection e with e1 e2 e3
    injection e1 with e1
    injection e1 with e1
    subst e1 e3
    have hlt := lt_of_block hg
    have hle : d.size * n ≤ c * n := Nat.mul_le_mul_right n hnc
    refine .inr ⟨g, c, putCells id 0 (flatK f n d2) cur, rfl, hb, ?_, hnc, hcm, by simp [putCells, hsz], ?_⟩
    · simp only [sortWorldK, putRowK, grow, putRow, mapBlock]
      rw [Array.getElem?_append_left (by simpa using hlt), Array.getElem?_modify, if_pos rfl, show (Go.Sort.ahead W m).heap = W.heap from rfl, hg]
      rfl
    · refine List.ext_getElem? (fun t => ?_)
      by_cases ht : t < d.size * n
      · rw [List.getElem?_take_of_lt ht, flat_get hf hn d2 (by rw [hs]; exact ht), Array.getElem?_toList]
        unfold putCells
        rw [Array.getElem?_mapIdx, Array.getElem?_eq_getElem (by omega), Option.map_some, if_pos ⟨Nat.zero_le _, by rw [size_flatK, hs]; omega⟩]
        rfl
      · rw [List.getElem?_eq_none (by rw [List.length_take]; omega), List.getElem?_eq_none (by rw [hlen]; omega)]
end
end Go.Proofs.YtffjleceogablaaDoor
namespace Go.Proofs.YtffjleceogablaaDoor
open Go.RowKit Go.WideShapes Go.Maps
set_option maxRecDepth 100000

/-- An op as the map's reader tells it. -/
def opDat (o : Bt.O) : DataW Unit := .slice [.lit (.bool o.del), .lit (.string o.key), .lit (.string o.val)] []
theorem opDat_inj {a b : Bt.O} (h : opDat a = opDat b) : a = b := by
  obtain ⟨d, k, v⟩ := a
  obtain ⟨d2, k2, v2⟩ := b
  simp only [opDat, DataW.slice.injEq, List.cons.injEq, DataW.lit.injEq, Lit.bool.injEq, Lit.string.injEq, and_true] at h
  obtain ⟨rfl, rfl, rfl⟩ := h
  rfl
def opR : Value → Option (DataW Unit × List MemPlace)
  | .agg ⟨[.bool d, .string k, .string v]⟩ => some (opDat ⟨d, k.data.toList, v.data.toList⟩, [])
  | _ => none
theorem opR_mk (o : Bt.O) : opR (opV o) = some (opDat o, []) := by
  obtain ⟨d, k, v⟩ := o
  rfl
theorem opR_inv {v : Value} {y : DataW Unit × List MemPlace} (h : opR v = some y) : ∃ o : Bt.O, v = opV o := by
  unfold opR at h
  split at h
  · rename_i d k v
    refine ⟨⟨d, k.data.toList, v.data.toList⟩, ?_⟩
    obtain ⟨⟨k⟩⟩ := k
    obtain ⟨⟨v⟩⟩ := v
    rfl
  · cases h
abbrev klit (k : Tb.Txt) : Lit := .string k
/-- What the map holds behind these ops. -/
def mapD (ops : List Bt.O) : DataW Unit := ops.foldl (fun D o => D.put (klit o.key) (opDat (Bt.clean o))) (.map [])
theorem mapD_snoc (ops : List Bt.O) (o : Bt.O) : mapD (ops ++ [o]) = (mapD ops).put (klit o.key) (opDat (Bt.clean o)) := by simp [mapD]
theorem isMap_foldl : ∀ (ops : List Bt.O) (D : DataW Unit), IsMap D → IsMap (ops.foldl (fun D o => D.put (klit o.key) (opDat (Bt.clean o))) D)
  | [], _, h => h
  | _ :: ops, _, h => isMap_foldl ops _ (h.put _ _)
theorem mapD_isMap (ops : List Bt.O) : IsMap (mapD ops) := isMap_foldl ops _ isMap_empty
theorem mapD_at : ∀ (ops : List Bt.O) (k : Tb.Txt), has (mapD ops) (klit k) = (Tb.lastOf (Bt.codes ops) k).isSome ∧ ∀ z, (mapD ops).atKey (klit k) z = match Tb.lastOf (Bt.codes ops) k with | none => z | some c => opDat (Bt.dec (k, c)) := by
  intro ops
  induction h : ops.length generalizing ops with
  | zero =>
    intro k
    obtain rfl := List.length_eq_zero_iff.1 h
    exact ⟨rfl, fun z => rfl⟩
  | succ n ih =>
    intro k
    obtain ⟨pre, o, rfl⟩ : ∃ pre o, ops = pre ++ [o] := by
      have hne : ops ≠ [] := by rintro rfl; simp at h
      exact ⟨ops.dropLast, ops.getLast hne, (List.dropLast_concat_getLast hne).symm⟩
    have ih := ih pre (by simpa using h) k
    rw [mapD_snoc, Bt.codes_append, show Bt.codes [o] = [Bt.code o] from rfl, Tb.lastOf_snoc]
    by_cases e : o.key = k
    · subst e
      rw [if_pos (show (Bt.code o).1 = o.key from rfl)]
      refine ⟨by rw [has_put_same (k := klit o.key) (mapD_isMap pre) trivial]; rfl, fun z => ?_⟩
      rw [atKey_put_same (k := klit o.key) (mapD_isMap pre) trivial]
      show opDat (Bt.clean o) = opDat (Bt.dec (Bt.code o))
      rw [Bt.dec_code]
    · have hne : klit k ≠ klit o.key := fun h2 => e (by injection h2 with h2; exact h2.symm)
      rw [if_neg (show ¬ (Bt.code o).1 = k from e)]
      refine ⟨by rw [has_put_other hne]; exact ih.1, fun z => ?_⟩
      rw [atKey_put_other hne]
      exact ih.2 z
theorem normal_iff (ops : List Bt.O) (o : Bt.O) : o ∈ Bt.normal ops ↔ Bt.clean o = o ∧ Tb.lastOf (Bt.codes ops) o.key = some (Bt.code o).2 := by
  constructor
  · intro h
    have hc := (Bt.normal_norm ops).clean o h
    refine ⟨hc, ?_⟩
    rw [← Tb.get_ofL, ← Bt.codes_normal, Tb.get_some (Bt.normal_norm ops).rise]
    exact List.mem_map.2 ⟨o, h, rfl⟩
  · rintro ⟨hc, hl⟩
    rw [← Tb.get_ofL, ← Bt.codes_normal, Tb.get_some (Bt.normal_norm ops).rise] at hl
    obtain ⟨p, hp, e⟩ := List.mem_map.1 hl
    have e2 : Bt.clean p = Bt.clean o := by rw [← Bt.dec_code, ← Bt.dec_code, e]; rfl
    rw [(Bt.normal_norm ops).clean p hp, hc] at e2
    exact e2 ▸ hp
theorem mapD_has {ops : List Bt.O} {o : Bt.O} (h : o ∈ Bt.normal ops) : has (mapD ops) (klit o.key) = true := by
  rw [(mapD_at ops o.key).1, ((normal_iff ops o).1 h).2]
  rfl
/-- An entry that comes is an op of the normal form, at its own key. -/
theorem mapD_entry {ops : List Bt.O} {k : Tb.Txt} {c : Bt.O} (h : ∀ z, (mapD ops).atKey (klit k) z = opDat c) : c ∈ Bt.normal ops ∧ c.key = k := by
  cases hl : Tb.lastOf (Bt.codes ops) k with
  | none =>
    have h1 := h .nil
    rw [(mapD_at ops k).2, hl] at h1
    cases h1
  | some v =>
    have h1 := h .nil
    rw [(mapD_at ops k).2, hl] at h1
    have e := opDat_inj h1
    subst e
    refine ⟨(normal_iff ops _).2 ⟨?_, ?_⟩, rfl⟩
    · have hm : (k, v) ∈ Tb.ofL (Bt.codes ops) := (Tb.get_some (Tb.ofL_sorted _)).1 (by rw [Tb.get_ofL]; exact hl)
      exact (Bt.normal_norm ops).clean _ (List.mem_map.2 ⟨_, hm, rfl⟩)
    · have hm : (k, v) ∈ Tb.ofL (Bt.codes ops) := (Tb.get_some (Tb.ofL_sorted _)).1 (by rw [Tb.get_ofL]; exact hl)
      obtain ⟨p, _, e⟩ := List.mem_map.1 (Tb.ofL_sub _ _ hm)
      show Tb.lastOf (Bt.codes ops) k = _
      rw [hl, ← e, Bt.dec_code, Bt.code_clean, e]
theorem size_le {P : Program} {k : TypeId} {R : Value → Option (DataW Unit × List MemPlace)} {w : World} {b n : Nat} {D : DataW Unit} (h : w.ownsMap P k R b n D) : size D ≤ n := by
  obtain ⟨es, clock, _, _, hs, rfl⟩ := h
  rw [size_eq, length_sorted, List.length_map, Array.length_toList]
  exact hs
/-- What the second loop keeps: what has come is what is no longer left. -/
structure Came (ops : List Bt.O) (left : Lit → Bool) (xs : List Bt.O) : Prop where
  apart : Bt.Apart xs
  mem : ∀ o, o ∈ xs ↔ o ∈ Bt.normal ops ∧ left (klit o.key) = false
theorem came_start (ops : List Bt.O) : Came ops (has (mapD ops)) [] := ⟨List.Pairwise.nil, fun o => by
  constructor
  · intro h; cases h
  · rintro ⟨h, e⟩; rw [mapD_has h] at e; cases e⟩
theorem came_step {ops : List Bt.O} {left : Lit → Bool} {xs : List Bt.O} {c : Bt.O} (h : Came ops left xs) (hc : c ∈ Bt.normal ops) (hl : left (klit c.key) = true) : Came ops (fun z => left z && !z.sameKey (klit c.key)) (xs ++ [c]) := by
  refine ⟨List.pairwise_append.2 ⟨h.apart, List.pairwise_singleton _ _, fun a ha b hb => ?_⟩, fun o => ?_⟩
  · rw [List.mem_singleton] at hb
    subst hb
    intro e
    have := ((h.mem a).1 ha).2
    rw [e, hl] at this
    cases this
  · rw [List.mem_append, List.mem_singleton, h.mem o]
    constructor
    · rintro (⟨h1, h2⟩ | rfl)
      · exact ⟨h1, by simp only [h2, Bool.false_and]⟩
      · refine ⟨hc, ?_⟩
        have : (klit o.key).sameKey (klit o.key) = true := WideAt.sameKey_self trivial
        simp only [this, Bool.not_true, Bool.and_false]
    · rintro ⟨h1, h2⟩
      by_cases e : o.key = c.key
      · exact .inr ((Bt.normal_norm ops).apart.inj h1 hc e)
      · left
        refine ⟨h1, ?_⟩
        have hne : (klit o.key).sameKey (klit c.key) = false := sameKey_ne (fun h3 => e (by injection h3))
        rw [hne] at h2
        simpa using h2
theorem came_end {ops : List Bt.O} {left : Lit → Bool} {xs : List Bt.O} (h : Came ops left xs) (hl : ∀ k, left k = false) : ∀ o, o ∈ xs ↔ o ∈ Bt.normal ops := fun o => by
  rw [h.mem o]
  exact ⟨fun h => h.1, fun h => ⟨h, hl _⟩⟩
end Go.Proofs.YtffjleceogablaaDoor
