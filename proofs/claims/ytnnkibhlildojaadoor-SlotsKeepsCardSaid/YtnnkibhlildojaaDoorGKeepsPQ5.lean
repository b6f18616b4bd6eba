/-
  SlotsKeeps, plain: what a round leaves.
-/
import Derived.Test.YtnnkibhlildojaaDoorGDisk
import Derived.Test.YtnnkibhlildojaaDoorGWriteQ5
namespace Go.Proofs.YtnnkibhlildojaaDoor
set_option maxRecDepth 100000

def slotsOf (D : List (List UInt8)) (i : Nat) (j : Nat) : List UInt8 := D.getD (i + j) []
/-- The disk behind k rounds: version n with its value is there, and of the next one a beginning, perhaps. -/
structure KeptI (k : Nat) (d : DS) (n : Nat) (val next : List UInt8) (fresh : Bool) : Prop where
  calm : d.Calm
  len : d.dur.length = 3
  nk : n ≤ k
  wr : d.wr ≤ k
  fl : d.fl ≤ k
  cr : d.cr ≤ k
  a1 : d.armed ≤ 9223372036854775807
  keeps : ∃ o old nx m, G.Keeps (slotsOf d.dur 1) n val o old nx m ∧ (fresh = true → m = 0) ∧ (fresh = false → nx = next)
  next : fresh = false → next.length ≤ 234

theorem Keeps.fresh {s : Nat → List UInt8} {n o : Nat} {val old next : List UInt8} (h : G.Keeps s n val o old next 0) : G.readS s = if n = 0 then none else some (n, val) := by
  rcases h.read with h1 | h1
  · exfalso
    have h2 := h.other_next (after := if next = [] then [0] else []) (by split <;> decide)
    rcases h2.read with h3 | h3
    · rw [h1] at h3
      simp only [Option.some.injEq, Prod.mk.injEq, true_and] at h3
      split at h3
      · rename_i e; rw [e] at h3; cases h3
      · rename_i e; exact e h3
    · rw [h1] at h3
      split at h3
      · cases h3
      · simp only [Option.some.injEq, Prod.mk.injEq] at h3; omega
  · exact h1

theorem KeptI.start : KeptI 0 (DS.newD 3) 0 [] [] true := by
  refine ⟨⟨rfl, rfl⟩, by simp [DS.newD], Nat.le_refl _, Nat.le_refl _, Nat.le_refl _, Nat.le_refl _, by decide, ⟨0, [], [], 0, G.Keeps.start (next := []) ?_ ?_ (by decide), fun _ => rfl, fun h => by cases h⟩, fun h => by cases h⟩
  · simp [slotsOf, DS.newD, List.getD]; rfl
  · simp [slotsOf, DS.newD, List.getD]; rfl

section
variable {k n : Nat} {d : DS} {val next nx : List UInt8} {fresh : Bool} {arm : Int}
/-- The next version's value chosen, if it is to be chosen. -/
theorem KeptI.choose (h : KeptI k d n val next fresh) (hx : fresh = false → nx = next) (hl : nx.length ≤ 234) : ∃ o old m, G.Keeps (slotsOf d.dur 1) n val o old nx m := by
  obtain ⟨o, old, nx0, m, hK, h1, h2⟩ := h.keeps
  cases fresh with
  | true =>
    obtain rfl := h1 rfl
    exact ⟨o, old, 0, hK.other_next hl⟩
  | false =>
    obtain rfl := h2 rfl
    obtain rfl := hx rfl
    exact ⟨o, old, m, hK⟩
theorem getD_set1 {D : List (List UInt8)} {p q : Nat} (s : List UInt8) (h : p ≠ q) : (D.set p s).getD q [] = D.getD q [] := by simp [List.getD, h]
theorem getD_set2 {D : List (List UInt8)} {p : Nat} (s : List UInt8) (h : p < D.length) : (D.set p s).getD p [] = s := by simp [List.getD, h]
/-- A sector set, torn or not. -/
theorem keeps_set {D : List (List UInt8)} {o m : Nat} {old : List UInt8} (h : G.Keeps (slotsOf D 1) n val o old nx m) (hD : D.length = 3) {t : Nat} (ht : t ≤ 256) :
    G.Keeps (slotsOf (D.set (1 + (n + 1) % 2) (tornBy (D.getD (1 + (n + 1) % 2) []) (E.sct (n + 1) nx) t)) 1) n val o old nx (max m t) := by
  refine h.again ht ?_ ?_
  · unfold slotsOf; exact getD_set1 _ (by omega)
  · unfold slotsOf; exact getD_set2 _ (by omega)
theorem KeptI.fits (h : KeptI k d n val next fresh) : 1 + 2 ≤ (d.armD arm).dur.length := by
  show 1 + 2 ≤ d.dur.length; rw [h.len]; decide
theorem KeptI.calm' (h : KeptI k d n val next fresh) : (d.armD arm).Calm := ⟨h.calm.ways, h.calm.off⟩
theorem KeptI.fewer (h : KeptI k d n val next fresh) (hk : k ≤ 2000) : (d.armD arm).Fewer :=
  ⟨by show d.ways.length ≤ _; rw [h.calm.ways]; decide, by show d.wr ≤ _; have := h.wr; omega, by show d.fl ≤ _; have := h.fl; omega, by show d.cr ≤ _; have := h.cr; omega⟩

/-- What Read tells behind a round of which the power went. -/
def DownP (k : Nat) (d : DS) (n : Nat) (val nx : List UInt8) : Prop :=
  (d.slotsR 1 = (nx, n + 1, 0) ∧ KeptI k d (n + 1) nx nx true) ∨ (n = 0 ∧ d.slotsR 1 = ([], 0, 14) ∧ KeptI k d n val nx false) ∨ (n ≠ 0 ∧ d.slotsR 1 = (val, n, 0) ∧ KeptI k d n val nx false)

theorem down_round {d3 : DS} {o m : Nat} {old : List UInt8} (hk : k ≤ 2000) (hC : d3.Calm) (hlen : d3.dur.length = 3) (hn : n ≤ k) (hw : d3.wr ≤ k + 1) (hfl : d3.fl ≤ k + 1) (hcr : d3.cr ≤ k + 1) (ha : d3.armed ≤ 9223372036854775807) (hK : G.Keeps (slotsOf d3.dur 1) n val o old nx m) : DownP (k + 1) d3 n val nx := by
  have ht := hC.tells (i := 1) (by rw [hlen]; decide)
  have ht : d3.slotsR 1 = tellS (G.readS (slotsOf d3.dur 1)) := ht
  rcases hK.read with h1 | h1
  · left
    refine ⟨by rw [ht, h1]; rfl, ⟨hC, hlen, by omega, hw, hfl, hcr, ha, ⟨n, val, [], 0, hK.step (hK.next_there h1) (after := []) (by decide) (by omega), fun _ => rfl, fun h => by cases h⟩, fun h => by cases h⟩⟩
  · right
    have hI : KeptI (k + 1) d3 n val nx false := ⟨hC, hlen, by omega, hw, hfl, hcr, ha, ⟨o, old, nx, m, hK, (fun h => by cases h), fun _ => rfl⟩, fun _ => hK.next⟩
    by_cases h0 : n = 0
    · left
      refine ⟨h0, ?_, hI⟩
      rw [ht, h1, if_pos h0]; rfl
    · right
      refine ⟨h0, ?_, hI⟩
      rw [ht, h1, if_neg h0]; rfl

theorem crash_one {d2 : DS} {p : Nat} {s : List UInt8} (f : FT) (h : d2.ways = [(p, s)]) : (d2.crashD f).dur = d2.dur.set p (tornBy (d2.dur.getD p []) s (f.done 0)) := by
  unfold DS.crashD
  rw [h]
  rfl
theorem crash_none {d2 : DS} (f : FT) (h : d2.ways = []) : (d2.crashD f).dur = d2.dur := by
  unfold DS.crashD
  rw [h]
  rfl

/-- THE POWER GOES. -/
theorem KeptI.down (h : KeptI k d n val next fresh) (hk : k ≤ 2000) (hx : fresh = false → nx = next) (hl : nx.length ≤ 234) (ha : arm = 0 ∨ arm = 1) :
    ∃ d2, (d.armD arm).slotsE 1 ((n : Int) + 1) nx = 12 ∧ (d.armD arm).slotsD 1 ((n : Int) + 1) nx = d2 ∧ d2.Few ∧ ∀ f, DownP (k + 1) (d2.crashD f) n val nx := by
  obtain ⟨o, old, m, hK⟩ := h.choose hx hl
  have hn := h.nk
  have hw := h.wr
  have hfl := h.fl
  have hcr := h.cr
  have hlen := h.len
  have e1 : ((n : Int) + 1) = ((n + 1 : Nat) : Int) := by push_cast; rfl
  rw [e1]
  have hfin : ∀ d2 : DS, d2.ways = [(1 + (n + 1) % 2, E.sct (n + 1) nx)] → d2.dur = d.dur → d2.wr ≤ k + 1 → d2.fl ≤ k → d2.cr ≤ k → d2.Few ∧ ∀ f, DownP (k + 1) (d2.crashD f) n val nx := by
    intro d2 hwy hd w1 f1 c1
    refine ⟨⟨by rw [hwy]; simp, by omega, by omega, by omega⟩, fun f => ?_⟩
    have hdur := crash_one f hwy
    rw [hd] at hdur
    have hK2 := keeps_set hK hlen (f.done_le 0)
    rw [← hdur] at hK2
    exact down_round hk ⟨rfl, rfl⟩ (by rw [hdur, List.length_set]; exact hlen) hn w1 (show d2.fl ≤ k + 1 by omega) (show d2.cr + 1 ≤ k + 1 by omega) (by show (-1 : Int) ≤ _; decide) hK2
  rcases ha with rfl | rfl
  · obtain ⟨a1, a2⟩ := (h.calm' (arm := 0)).slots0 (i := 1) (v := n + 1) (p := nx) h.fits (by omega) (by omega) hl rfl
    exact ⟨_, a1, a2, hfin _ rfl rfl (show d.wr ≤ k + 1 by omega) hfl hcr⟩
  · obtain ⟨a1, a2⟩ := (h.calm' (arm := 1)).slots1 (i := 1) (v := n + 1) (p := nx) h.fits (by omega) (by omega) hl rfl
    exact ⟨_, a1, a2, hfin _ rfl rfl (show d.wr + 1 ≤ k + 1 by omega) hfl hcr⟩

/-- THE POWER STAYS ON. -/
theorem KeptI.up (h : KeptI k d n val next fresh) (hk : k ≤ 2000) (hx : fresh = false → nx = next) (hl : nx.length ≤ 234) (ha : arm ≤ 9223372036854775807) (h0 : arm ≠ 0) (h1 : arm ≠ 1) :
    ∃ d2, (d.armD arm).slotsE 1 ((n : Int) + 1) nx = 0 ∧ (d.armD arm).slotsD 1 ((n : Int) + 1) nx = d2 ∧ d2.Few ∧ (d2.slotsR 1 = (nx, n + 1, 0) ∧ KeptI (k + 1) d2 (n + 1) nx nx true) ∧ ∀ f, (d2.crashD f).slotsR 1 = (nx, n + 1, 0) ∧ KeptI (k + 1) (d2.crashD f) (n + 1) nx nx true := by
  obtain ⟨o, old, m, hK⟩ := h.choose hx hl
  have hn := h.nk
  have hw := h.wr
  have hfl := h.fl
  have hcr := h.cr
  have hlen := h.len
  have e1 : ((n : Int) + 1) = ((n + 1 : Nat) : Int) := by push_cast; rfl
  rw [e1]
  have k0 : (d.armD arm).armed ≠ 0 := by show max arm (-1) ≠ 0; omega
  have k1 : (d.armD arm).armed ≠ 1 := by show max arm (-1) ≠ 1; omega
  obtain ⟨a1, a2⟩ := (h.calm' (arm := arm)).slots2 (i := 1) (v := n + 1) (p := nx) h.fits (by omega) (by omega) hl k0 k1
  have hold : (d.dur.getD (1 + (n + 1) % 2) []).length = 256 := by
    have h2 := hK.other
    have h3 : slotsOf d.dur 1 ((n + 1) % 2) = d.dur.getD (1 + (n + 1) % 2) [] := rfl
    rw [← h3, h2]
    exact E.tear_length (G.stand_length hK.old) (E.sct_length _ hK.next) hK.m
  have hK2 := keeps_set hK hlen (Nat.le_refl 256)
  rw [tornBy_all hold (E.sct_length _ hl)] at hK2
  have hthere : slotsOf (d.dur.set (1 + (n + 1) % 2) (E.sct (n + 1) nx)) 1 ((n + 1) % 2) = E.sct (n + 1) nx := by unfold slotsOf; exact getD_set2 _ (by omega)
  have hK3 := hK2.step hthere (after := []) (by decide) (by omega)
  have hfin : ∀ d2 : DS, d2.Calm → d2.dur = d.dur.set (1 + (n + 1) % 2) (E.sct (n + 1) nx) → d2.wr ≤ k + 1 → d2.fl ≤ k + 1 → d2.cr ≤ k + 1 → d2.armed ≤ 9223372036854775807 → d2.slotsR 1 = (nx, n + 1, 0) ∧ KeptI (k + 1) d2 (n + 1) nx nx true := by
    intro d2 hC hd w1 f1 c1 am
    have hlen2 : d2.dur.length = 3 := by rw [hd, List.length_set]; exact hlen
    have ht : d2.slotsR 1 = tellS (G.readS (slotsOf d2.dur 1)) := hC.tells (i := 1) (by rw [hlen2]; decide)
    rw [← hd] at hK3
    refine ⟨?_, ⟨hC, hlen2, by omega, w1, f1, c1, am, ⟨n, val, [], 0, hK3, fun _ => rfl, fun h => by cases h⟩, fun h => by cases h⟩⟩
    rw [ht, Keeps.fresh hK3, if_neg (by omega)]
    rfl
  have hda : dec (dec (max arm (-1))) ≤ 9223372036854775807 := by
    have d1 := dec_le (a := max arm (-1)) (by omega)
    have d2 := dec_le (a := dec (max arm (-1))) d1.1
    omega
  refine ⟨_, a1, a2, ⟨by simp, by show d.wr + 1 ≤ _; omega, by show d.fl + 1 ≤ _; omega, by show d.cr ≤ _; omega⟩, hfin _ ⟨rfl, h.calm.off⟩ rfl (show d.wr + 1 ≤ k + 1 by omega) (show d.fl + 1 ≤ k + 1 by omega) (show d.cr ≤ k + 1 by omega) hda, fun f => ?_⟩
  exact hfin _ ⟨rfl, rfl⟩ (crash_none f rfl) (show d.wr + 1 ≤ k + 1 by omega) (show d.fl + 1 ≤ k + 1 by omega) (show d.cr + 1 ≤ k + 1 by omega) (by show (-1 : Int) ≤ _; decide)
end
end Go.Proofs.YtnnkibhlildojaaDoor
