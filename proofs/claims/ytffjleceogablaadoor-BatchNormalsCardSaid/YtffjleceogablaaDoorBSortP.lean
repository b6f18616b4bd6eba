/-
  The order of keys as slices.SortFunc asks it; a row of structs sorted in place.
-/
import Derived.Test.YtffjleceogablaaDoorBRow
import Derived.Shelf.SlSortCmp.NoneTotal
import Derived.Lib.Bytealg
namespace Go.Proofs.YtffjleceogablaaDoor
open Go.RowKit Go.WideShapes Go.Sort Go.Shelf
set_option maxRecDepth 100000

namespace Bt
instance : Inhabited O := ⟨⟨false, [], []⟩⟩
def cmpK (x y : O) : Int := Lib.compareBytes x.key y.key
theorem cmp_lt : ∀ a b : Tb.Txt, decide (Lib.compareBytes a b < 0) = Tb.lt a b
  | [], [] => rfl
  | [], _ :: _ => rfl
  | _ :: _, [] => rfl
  | a :: x, b :: y => by
    rw [Tb.lt_cons, ← cmp_lt x y]
    show decide ((if a < b then (-1 : Int) else if b < a then 1 else Lib.compareBytes x y) < 0) = _
    by_cases h1 : a < b
    · simp [h1]
    · by_cases h2 : b < a
      · have hne : ¬ a = b := fun e => by subst e; exact h1 h2
        simp [h1, h2, hne]
      · have he : a = b := by
          have h1' : ¬ a.toNat < b.toNat := h1
          have h2' : ¬ b.toNat < a.toNat := h2
          exact UInt8.toNat_inj.1 (by omega)
        subst he
        simp [h1]
theorem ltOf_cmpK (x y : O) : ltOf cmpK x y = Tb.lt x.key y.key := cmp_lt x.key y.key
theorem swoK : SWO (ltOf cmpK) where
  irrefl x := by rw [ltOf_cmpK]; exact Tb.lt_irrefl _
  trans x y z h1 h2 := by rw [ltOf_cmpK] at *; exact Tb.lt_trans h1 h2
  ntrans x y z h1 h2 := by
    rw [ltOf_cmpK] at *
    cases h : Tb.lt x.key z.key with
    | false => rfl
    | true => rw [Tb.lt_of_lt_ge h h2] at h1; cases h1
/-- Keys, each but once. -/
def Apart (l : List O) : Prop := l.Pairwise (fun a b => a.key ≠ b.key)
theorem Apart.inj {l : List O} (h : Apart l) {a b : O} (ha : a ∈ l) (hb : b ∈ l) (e : a.key = b.key) : a = b := by
  induction l with
  | nil => cases ha
  | cons x l ih =>
    obtain ⟨h1, h2⟩ := List.pairwise_cons.1 h
    rcases List.mem_cons.1 ha with e1 | ha2
    · rcases List.mem_cons.1 hb with e2 | hb2
      · rw [e1, e2]
      · exact absurd (e1 ▸ e) (h1 b hb2)
    · rcases List.mem_cons.1 hb with e2 | hb2
      · exact absurd (e2 ▸ e.symm) (h1 a ha2)
      · exact ih h2 ha2 hb2
theorem Apart.nodup {l : List O} (h : Apart l) : l.Nodup := h.imp (fun hne e => hne (by rw [e]))
theorem Norm.apart {l : List O} (h : Norm l) : Apart l := by
  have h2 := List.pairwise_map.1 h.rise
  exact h2.imp (fun {a b} hl => Tb.lt_ne hl)
/-- What the sort leaves is the normal list of the same members. -/
theorem sorted_is {l m : List O} {d : Array O} (hl : Apart l) (hm : Norm m) (hmem : ∀ o, o ∈ l ↔ o ∈ m) (hp : d.toList.Perm l) (hs : SortedIn (ltOf cmpK) 0 d.size d) : d.toList = m := by
  have p2 : d.toList.Perm m := hp.trans ((List.perm_ext_iff_of_nodup hl.nodup hm.apart.nodup).2 hmem)
  have w1 : d.toList.Pairwise (fun a b => Tb.lt b.key a.key = false) := by
    rw [List.pairwise_iff_getElem]
    intro i j hi hj hij
    have hj' : j < d.size := by simpa using hj
    have h := hs i j (Nat.zero_le _) hij hj'
    rw [ltOf_cmpK, getElem!_pos d j hj', getElem!_pos d i (by omega)] at h
    simpa using h
  have w2 : m.Pairwise (fun a b => Tb.lt b.key a.key = false) := by
    have h2 := List.pairwise_map.1 hm.rise
    exact h2.imp (fun {a b} hl => Tb.lt_asymm hl)
  refine List.Perm.eq_of_pairwise (fun a b ha hb h1 h2 => ?_) w1 w2 p2
  exact hm.apart.inj (p2.mem_iff.1 ha) hb (Tb.lt_total h2 h1)
end Bt
section
variable {α : Type} [Inhabited α] {f : α → List Value} {n : Nat} {E : TypeId}
theorem flat_get (hf : ∀ x, (f x).length = n) (hn : 0 < n) (d : Array α) {t : Nat} (ht : t < d.size * n) : (cellsG f d.toList)[t]? = some ((flatK f n d)[t]!) := by
  have hd : t / n < d.size := Nat.div_lt_of_lt_mul (by rw [Nat.mul_comm]; exact ht)
  have hm : t % n < n := Nat.mod_lt _ hn
  rw [get_flatK f n d t ht]
  have h1 : d.toList[t / n]? = some (d[t / n]!) := by rw [Array.getElem?_toList, Array.getElem?_eq_getElem hd, getElem!_pos d _ hd]
  have h2 : (f d[t / n]!)[t % n]? = some ((f d[t / n]!)[t % n]!) := by
    have hl : t % n < (f d[t / n]!).length := by rw [hf]; exact hm
    rw [List.getElem?_eq_getElem hl, getElem!_pos (f d[t / n]!) (t % n) hl]
  have h := cellsG_get hf h1 h2
  rwa [Nat.mul_comm, Nat.div_add_mod] at h
theorem sortK_holds (hf : ∀ x, (f x).length = n) (hn : 0 < n) {W : World} {g c : Nat} {d : Array α} (h : W.ownsRow 0 E n (.slice (some ⟨g, 0, none⟩) d.size c) d.size (cellsG f d.toList)) : HoldsK f n W g 0 d := by
  intro j hj
  rw [size_flatK] at hj
  refine ⟨?_, ownG_frozen h _⟩
  have hc := (World.ownsRowF_of h).cells (g := g) rfl _ _ (flat_get hf hn d hj)
  rwa [add_plain] at hc
theorem sortK_keeps (W : World) (g m : Nat) (d : Array α) (os : Array Obj) : Keeps (fun j => j = g) W (sortWorldK f n W g 0 m d os) := by
  refine ⟨rfl, rfl, rfl, ?_, fun j hj hn => ?_⟩
  · simp [sortWorldK, putRowK, grow, putRow, mapBlock]
  · simp only [sortWorldK, putRowK, grow, putRow, mapBlock]
    rw [Array.getElem?_append_left (by simpa using hj), Array.getElem?_modify, if_neg (fun e => hn e.symm)]
    rfl
theorem sortK_own (hf : ∀ x, (f x).length = n) (hn : 0 < n) {W : World} {g c : Nat} {d d2 : Array α} (h : W.ownsRow 0 E n (.slice (some ⟨g, 0, none⟩) d.size c) d.size (cellsG f d.toList)) (hs : d2.size = d.size) (m : Nat) (os : Array Obj) : (sortWorldK f n W g 0 m d2 os).ownsRow 0 E n (.slice (some ⟨g, 0, none⟩) d.size c) d.size (cellsG f d2.toList) := by
  have hlen : (cellsG f d2.toList).length = d.size * n := by rw [cellsG_length hf]; simp [hs]
  refine ⟨hlen, ?_⟩
  rcases h.2 with ⟨e, _⟩ | ⟨g', c', cur, e, hb, hg, hnc, hcm, hsz, htk⟩
  · cases e
  · injection e with e1 e2 e3
    injection e1 with e1
    injection e1 with e1
    subst e1 e3
    have hlt := lt_of_block hg
    have hle : d.size * n ≤ c * n := Nat.mul_le_mul_right n hnc
    refine .inr ⟨g, c, putCells id 0 (flatK f n d2) cur, rfl, hb, ?_, hnc, hcm, by simp [putCells, hsz], ?_⟩
    · simp only [sortWorldK, putRowK, grow, putRow, mapBlock]
      rw [Array.getElem?_append_left (by simpa using hlt), Array.getElem?_modify, if_pos rfl, show (Go.Sort.ahead W m).heap = W.heap from rfl, hg]
      rfl
    · refine List.ext_getElem? (fun t => ?_)
      by_cases ht : t < d.size * n
      · rw [List.getElem?_take_of_lt ht, flat_get hf hn d2 (by rw [hs]; exact ht), Array.getElem?_toList]
        unfold putCells
        rw [Array.getElem?_mapIdx, Array.getElem?_eq_getElem (by omega), Option.map_some, if_pos ⟨Nat.zero_le _, by rw [size_flatK, hs]; omega⟩]
        rfl
      · rw [List.getElem?_eq_none (by rw [List.length_take]; omega), List.getElem?_eq_none (by rw [hlen]; omega)]
end
end Go.Proofs.YtffjleceogablaaDoor
