/-
  SlotsApart, plain: two places of two slots on one disk.
-/
import Derived.Test.YtnnkibhlildojaaDoorGKeepsPQ5
namespace Go.Proofs.YtnnkibhlildojaaDoor
set_option maxRecDepth 100000

/-- At place i: version c with its value. -/
def PlaceI (D : List (List UInt8)) (i c : Nat) (l : List UInt8) (k : Nat) : Prop := c ≤ k ∧ ∃ o old, G.Keeps (slotsOf D i) c l o old [] 0
theorem PlaceI.write {D : List (List UInt8)} {i c k : Nat} {l p : List UInt8} (h : PlaceI D i c l k) (hk : k ≤ 500) (hD : i + 2 ≤ D.length) (hp : p.length ≤ 234) : PlaceI (D.set (i + (c + 1) % 2) (E.sct (c + 1) p)) i (c + 1) p (k + 1) := by
  obtain ⟨hc, o, old, hK⟩ := h
  have hK := hK.other_next hp
  have hthere : slotsOf (D.set (i + (c + 1) % 2) (E.sct (c + 1) p)) i ((c + 1) % 2) = E.sct (c + 1) p := by unfold slotsOf; exact getD_set2 _ (by omega)
  have hold : (slotsOf D i ((c + 1) % 2)).length = 256 := by
    rw [hK.other, G.tear_none]
    exact G.stand_length hK.old
  have h2 := hK.again (k := 256) (Nat.le_refl _) (t := slotsOf (D.set (i + (c + 1) % 2) (E.sct (c + 1) p)) i) (by unfold slotsOf; exact getD_set1 _ (by omega)) (by rw [hthere, G.tear_all _ _ hold (E.sct_length _ hp)])
  exact ⟨by omega, c, l, h2.step hthere (by decide) (by omega)⟩
theorem PlaceI.other {D : List (List UInt8)} {i c k q : Nat} {l : List UInt8} (h : PlaceI D i c l k) (s : List UInt8) (h0 : q ≠ i) (h1 : q ≠ i + 1) : PlaceI (D.set q s) i c l (k + 1) := by
  obtain ⟨hc, o, old, hK⟩ := h
  refine ⟨by omega, o, old, ?_, ?_, hK.o, hK.n, hK.val, hK.old, hK.next, hK.m⟩
  · rw [← hK.own]; unfold slotsOf; exact getD_set1 _ (by omega)
  · rw [← hK.other]; unfold slotsOf; exact getD_set1 _ (by omega)
theorem PlaceI.more {D : List (List UInt8)} {i c k : Nat} {l : List UInt8} (h : PlaceI D i c l k) : PlaceI D i c l (k + 1) := ⟨by have := h.1; omega, h.2⟩
theorem PlaceI.reads {d : DS} {i c k : Nat} {l : List UInt8} (h : PlaceI d.dur i c l k) (hC : d.Calm) (hD : i + 2 ≤ d.dur.length) : d.slotsR i = if c = 0 then ([], 0, 14) else (l, c, 0) := by
  obtain ⟨hc, o, old, hK⟩ := h
  have ht : d.slotsR i = tellS (G.readS (slotsOf d.dur i)) := hC.tells hD
  rw [ht, Keeps.fresh hK]
  by_cases h0 : c = 0
  · rw [if_pos h0, if_pos h0]; rfl
  · rw [if_neg h0, if_neg h0]; rfl

structure ApartI (k : Nat) (d : DS) (c0 : Nat) (l0 : List UInt8) (c1 : Nat) (l1 : List UInt8) : Prop where
  calm : d.Calm
  len : d.dur.length = 6
  wr : d.wr ≤ k
  fl : d.fl ≤ k
  cr : d.cr = 0
  armed : d.armed = -1
  z0 : d.dur.getD 0 [] = zeros
  z5 : d.dur.getD 5 [] = zeros
  p0 : PlaceI d.dur 1 c0 l0 k
  p1 : PlaceI d.dur 3 c1 l1 k
theorem ApartI.start : ApartI 0 (DS.newD 6) 0 [] 0 [] := by
  have hz : ∀ j, j < 6 → (DS.newD 6).dur.getD j [] = zeros := fun j hj => by
    show (List.replicate 6 zeros).getD j [] = zeros
    rw [List.getD_eq_getElem?_getD, List.getElem?_replicate, if_pos hj]; rfl
  refine ⟨⟨rfl, rfl⟩, by simp [DS.newD], Nat.le_refl _, Nat.le_refl _, rfl, rfl, hz 0 (by decide), hz 5 (by decide), ⟨Nat.le_refl _, 0, [], G.Keeps.start (next := []) (hz 1 (by decide)) (hz 2 (by decide)) (by decide)⟩, ⟨Nat.le_refl _, 0, [], G.Keeps.start (next := []) (hz 3 (by decide)) (hz 4 (by decide)) (by decide)⟩⟩
section
variable {k c0 c1 : Nat} {d : DS} {l0 l1 p : List UInt8}
theorem ApartI.more (h : ApartI k d c0 l0 c1 l1) : ApartI (k + 1) d c0 l0 c1 l1 :=
  ⟨h.calm, h.len, by have := h.wr; omega, by have := h.fl; omega, h.cr, h.armed, h.z0, h.z5, h.p0.more, h.p1.more⟩
theorem ApartI.fewer (h : ApartI k d c0 l0 c1 l1) (hk : k ≤ 500) : d.Fewer :=
  ⟨by rw [h.calm.ways]; decide, by have := h.wr; omega, by have := h.fl; omega, by have := h.cr; omega⟩
/-- A value that is too long. -/
theorem ApartI.long (h : ApartI k d c0 l0 c1 l1) (i c : Nat) (hi : i + 2 ≤ 6) (h1 : 1 ≤ c) (h2 : c ≤ 1000) (hp : 234 < p.length) : d.slotsE i c p = 3 ∧ d.slotsD i c p = d := by
  have hl := h.len
  have hin := DS.slots_in (d := d) (i := i) (v := c) (by omega) h1 (by omega)
  refine ⟨?_, ?_⟩
  · unfold DS.slotsE; rw [if_neg hin, if_pos hp]
  · unfold DS.slotsD; rw [if_neg hin, if_pos hp]
theorem ApartI.step0 (h : ApartI k d c0 l0 c1 l1) (hk : k ≤ 500) (hp : p.length ≤ 234) : ∃ d2, d.slotsE 1 ((c0 : Int) + 1) p = 0 ∧ d.slotsD 1 ((c0 : Int) + 1) p = d2 ∧ ApartI (k + 1) d2 (c0 + 1) p c1 l1 := by
  have hl := h.len
  have hc := h.p0.1
  have e1 : ((c0 : Int) + 1) = ((c0 + 1 : Nat) : Int) := by push_cast; rfl
  rw [e1]
  obtain ⟨a1, a2⟩ := h.calm.slots2 (i := 1) (v := c0 + 1) (p := p) (by omega) (by omega) (by omega) hp (by rw [h.armed]; decide) (by rw [h.armed]; decide)
  refine ⟨_, a1, a2, ⟨rfl, h.calm.off⟩, ?_, ?_, ?_, h.cr, ?_, ?_, ?_, ?_, ?_⟩
  · show (d.dur.set _ _).length = 6; rw [List.length_set]; exact hl
  · show d.wr + 1 ≤ k + 1; have := h.wr; omega
  · show d.fl + 1 ≤ k + 1; have := h.fl; omega
  · show dec (dec d.armed) = -1; rw [h.armed]; rfl
  · exact (getD_set1 _ (by omega)).trans h.z0
  · exact (getD_set1 _ (by omega)).trans h.z5
  · exact h.p0.write hk (by omega) hp
  · exact h.p1.other _ (by omega) (by omega)
theorem ApartI.step1 (h : ApartI k d c0 l0 c1 l1) (hk : k ≤ 500) (hp : p.length ≤ 234) : ∃ d2, d.slotsE 3 ((c1 : Int) + 1) p = 0 ∧ d.slotsD 3 ((c1 : Int) + 1) p = d2 ∧ ApartI (k + 1) d2 c0 l0 (c1 + 1) p := by
  have hl := h.len
  have hc := h.p1.1
  have e1 : ((c1 : Int) + 1) = ((c1 + 1 : Nat) : Int) := by push_cast; rfl
  rw [e1]
  obtain ⟨a1, a2⟩ := h.calm.slots2 (i := 3) (v := c1 + 1) (p := p) (by omega) (by omega) (by omega) hp (by rw [h.armed]; decide) (by rw [h.armed]; decide)
  refine ⟨_, a1, a2, ⟨rfl, h.calm.off⟩, ?_, ?_, ?_, h.cr, ?_, ?_, ?_, ?_, ?_⟩
  · show (d.dur.set _ _).length = 6; rw [List.length_set]; exact hl
  · show d.wr + 1 ≤ k + 1; have := h.wr; omega
  · show d.fl + 1 ≤ k + 1; have := h.fl; omega
  · show dec (dec d.armed) = -1; rw [h.armed]; rfl
  · exact (getD_set1 _ (by omega)).trans h.z0
  · exact (getD_set1 _ (by omega)).trans h.z5
  · exact h.p0.other _ (by omega) (by omega)
  · exact h.p1.write hk (by omega) hp
theorem ApartI.read0 (h : ApartI k d c0 l0 c1 l1) : d.slotsR 1 = if c0 = 0 then ([], 0, 14) else (l0, c0, 0) := h.p0.reads h.calm (by have := h.len; omega)
theorem ApartI.read1 (h : ApartI k d c0 l0 c1 l1) : d.slotsR 3 = if c1 = 0 then ([], 0, 14) else (l1, c1, 0) := h.p1.reads h.calm (by have := h.len; omega)
theorem ApartI.ends (h : ApartI k d c0 l0 c1 l1) : d.reach 0 = 0 ∧ d.readE 0 = zeros ∧ d.reach 5 = 0 ∧ d.readE 5 = zeros := by
  have hl := h.len
  have r0 : d.reach 0 = 0 := DS.reach_calm (i := 0) h.calm.off (by omega)
  have r5 : d.reach 5 = 0 := DS.reach_calm (i := 5) h.calm.off (by omega)
  refine ⟨r0, ?_, r5, ?_⟩
  · have e : (if d.reach 0 = 0 then d.read (0 : Int).toNat else []) = d.read 0 := if_pos r0
    exact (e.trans (h.calm.read 0)).trans h.z0
  · have e : (if d.reach 5 = 0 then d.read (5 : Int).toNat else []) = d.read 5 := if_pos r5
    exact (e.trans (h.calm.read 5)).trans h.z5
end
end Go.Proofs.YtnnkibhlildojaaDoor
