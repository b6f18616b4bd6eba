/-
  A row of structs that came in, of any plain fields, opened.
-/
import Derived.Test.YtffjleceogablaaDoorRecsB
import Derived.ChangeSlices
import Derived.SizedLaws
import Derived.Deep.Slices
import Derived.OpenShut
import Derived.ChangeAt
import Derived.WideShapes
namespace Go.Proofs.YtffjleceogablaaDoor
open Go.ChangeShapes Go.WideShapes Go.ChangeAt Go.RowKit
set_option maxRecDepth 100000

theorem choose7 {α : Type} {Q : Nat → α → Prop} : ∀ (n : Nat), (∀ k, k < n → ∃ o, Q k o) → ∃ os : List α, os.length = n ∧ ∀ (k : Nat) (o : α), os[k]? = some o → Q k o
  | 0, _ => ⟨[], rfl, fun k o h => by simp at h⟩
  | n + 1, h => by
    obtain ⟨os, hl, ho⟩ := choose7 n (fun k hk => h k (by omega))
    obtain ⟨o, hq⟩ := h n (by omega)
    refine ⟨os ++ [o], by simp [hl], fun k o' hk => ?_⟩
    by_cases hkn : k < n
    · rw [List.getElem?_append_left (by omega)] at hk
      exact ho k o' hk
    · rw [List.getElem?_append_right (by omega)] at hk
      have hk0 : k - os.length = 0 := by
        have := (List.getElem?_eq_some_iff.1 hk).1
        simp at this
        omega
      rw [hk0] at hk
      simp at hk
      subst hk
      have : k = n := by omega
      subst this
      exact hq

/-- A ROW OF STRUCTS THAT CAME IN; Q: what is known of each element's data. -/
theorem open_recsQ {α H : Type} {Q : DataW H → Prop} {enc : TypeId × Value → H} {W : World} {T E : TypeId} {n : Nat} {f : α → List Value} {P : α → Prop} (hu : Tryd.prog.underlying T = some (.slice E)) (hn : Tryd.prog.cellsOf E = n) (hn0 : 0 < n) (hfl : ∀ o, (f o).length = n)
    (hone : ∀ (fuel : Nat) (cs : List Value) (x : DataW H × List MemPlace), DataW.trod enc Tryd.prog W 0 (fun _ => true) true fuel E cs = some x → Q x.1 → ∃ o, cs = f o ∧ P o)
    {fuel : Nat} {c : Value} {y : DataW H × List MemPlace} (h : DataW.trod enc Tryd.prog W 0 (fun _ => true) true fuel T [c] = some y) (hQ : ∀ l spare, y.1 = .slice l spare → ∀ d ∈ l, Q d) :
    ∃ (g off : Nat) (os : List α), (∀ (k : Nat) (o : α), os[k]? = some o → P o) ∧ (os.length ≤ 17592186044416 → Recs n f W c g off os) ∧ ((y.1 = .nil ∧ os = []) ∨ ∃ l spare, y.1 = .slice l spare ∧ l.length = os.length) := by
  rcases Go.Deep.open_slice hu h with ⟨hcs, hx⟩ | ⟨a, len, cap, m, n', D, Pl, hcs, _, hl, hm, hmc, hx, hel⟩
  · simp at hcs
    subst hcs
    exact ⟨0, 0, [], fun k o hk => by simp at hk, fun _ => ⟨⟨none, 0, rfl, fun h => absurd rfl h⟩, by simp, fun k o hk => by simp at hk⟩, .inl ⟨by rw [hx], rfl⟩⟩
  · simp at hcs
    subst hcs
    simp only [if_true] at hmc
    rw [hn] at hel
    obtain ⟨b, off, spot⟩ := a
    have hone' : ∀ k, k < len → ∃ (p : α), W.cells? 0 ((⟨b, off, spot⟩ : Addr).add (k * n)) n = some (f p) ∧ P p := by
      intro k hk
      obtain ⟨cs', hcs', ht⟩ := hel k (by omega)
      obtain ⟨p, rfl, hP⟩ := hone _ _ _ ht (hQ _ _ (by rw [hx]) _ (List.mem_map.2 ⟨k, List.mem_range.2 hk, rfl⟩))
      exact ⟨p, hcs', hP⟩
    obtain ⟨ps, hol, hps⟩ := choose7 len hone'
    have hspot : ps ≠ [] → spot = none := by
      intro hne
      obtain ⟨p, r, rfl⟩ := List.exists_cons_of_ne_nil hne
      have h0 := (World.cells?_some (hps 0 p rfl).1).2.2 0 hn0
      obtain ⟨u, hu0⟩ : ∃ u, (f p)[0]? = some u := ⟨(f p)[0]'(by rw [hfl]; exact hn0), List.getElem?_eq_getElem _⟩
      rw [hu0] at h0
      simpa [Addr.add] using World.cell?_spot h0
    refine ⟨b, off, ps, fun k o hk => (hps k o hk).2, fun hle => ⟨⟨some ⟨b, off, spot⟩, cap, by rw [hol], fun hne => by rw [hspot hne]⟩, hle, fun k p hk j u hj => ?_⟩, .inr ⟨_, _, by rw [hx], by simp [hol]⟩⟩
    have hne : ps ≠ [] := by rintro rfl; simp at hk
    obtain rfl := hspot hne
    have hj3 : j < n := by have := (List.getElem?_eq_some_iff.1 hj).1; rw [hfl] at this; exact this
    have h0 := (World.cells?_some (hps k p hk).1).2.2 j hj3
    rw [add_plain, add_plain] at h0
    exact h0.trans hj
/-- The same, and how each stands to its datum. -/
theorem open_recsD {α H : Type} {Q : DataW H → Prop} {R : α → DataW H → Prop} {enc : TypeId × Value → H} {W : World} {T E : TypeId} {n : Nat} {f : α → List Value} {P : α → Prop} (hu : Tryd.prog.underlying T = some (.slice E)) (hn : Tryd.prog.cellsOf E = n) (hn0 : 0 < n) (hfl : ∀ o, (f o).length = n)
    (hone : ∀ (fuel : Nat) (cs : List Value) (x : DataW H × List MemPlace), DataW.trod enc Tryd.prog W 0 (fun _ => true) true fuel E cs = some x → Q x.1 → ∃ o, cs = f o ∧ P o ∧ R o x.1)
    {fuel : Nat} {c : Value} {y : DataW H × List MemPlace} (h : DataW.trod enc Tryd.prog W 0 (fun _ => true) true fuel T [c] = some y) (hQ : ∀ l spare, y.1 = .slice l spare → ∀ d ∈ l, Q d) :
    ∃ (g off : Nat) (os : List α), (∀ (k : Nat) (o : α), os[k]? = some o → P o) ∧ (os.length ≤ 17592186044416 → Recs n f W c g off os) ∧ ((y.1 = .nil ∧ os = []) ∨ ∃ l spare, y.1 = .slice l spare ∧ l.length = os.length ∧ ∀ (k : Nat) (o : α) (d : DataW H), os[k]? = some o → l[k]? = some d → R o d) := by
  rcases Go.Deep.open_slice hu h with ⟨hcs, hx⟩ | ⟨a, len, cap, m, n', D, Pl, hcs, _, hl, hm, hmc, hx, hel⟩
  · simp at hcs
    subst hcs
    exact ⟨0, 0, [], fun k o hk => by simp at hk, fun _ => ⟨⟨none, 0, rfl, fun h => absurd rfl h⟩, by simp, fun k o hk => by simp at hk⟩, .inl ⟨by rw [hx], rfl⟩⟩
  · simp at hcs
    subst hcs
    simp only [if_true] at hmc
    rw [hn] at hel
    obtain ⟨b, off, spot⟩ := a
    have hone' : ∀ k, k < len → ∃ (p : α), W.cells? 0 ((⟨b, off, spot⟩ : Addr).add (k * n)) n = some (f p) ∧ P p ∧ R p (D k) := by
      intro k hk
      obtain ⟨cs', hcs', ht⟩ := hel k (by omega)
      obtain ⟨p, rfl, hP, hR⟩ := hone _ _ _ ht (hQ _ _ (by rw [hx]) _ (List.mem_map.2 ⟨k, List.mem_range.2 hk, rfl⟩))
      exact ⟨p, hcs', hP, hR⟩
    obtain ⟨ps, hol, hps⟩ := choose7 len hone'
    have hspot : ps ≠ [] → spot = none := by
      intro hne
      obtain ⟨p, r, rfl⟩ := List.exists_cons_of_ne_nil hne
      have h0 := (World.cells?_some (hps 0 p rfl).1).2.2 0 hn0
      obtain ⟨u, hu0⟩ : ∃ u, (f p)[0]? = some u := ⟨(f p)[0]'(by rw [hfl]; exact hn0), List.getElem?_eq_getElem _⟩
      rw [hu0] at h0
      simpa [Addr.add] using World.cell?_spot h0
    refine ⟨b, off, ps, fun k o hk => (hps k o hk).2.1, fun hle => ⟨⟨some ⟨b, off, spot⟩, cap, by rw [hol], fun hne => by rw [hspot hne]⟩, hle, fun k p hk j u hj => ?_⟩, .inr ⟨_, _, by rw [hx], by simp [hol], fun k o d hk hd => ?_⟩⟩
    · have hne : ps ≠ [] := by rintro rfl; simp at hk
      obtain rfl := hspot hne
      have hj3 : j < n := by have := (List.getElem?_eq_some_iff.1 hj).1; rw [hfl] at this; exact this
      have h0 := (World.cells?_some (hps k p hk).1).2.2 j hj3
      rw [add_plain, add_plain] at h0
      exact h0.trans hj
    · have hk2 : k < len := by have := (List.getElem?_eq_some_iff.1 hk).1; omega
      rw [List.getElem?_map, List.getElem?_range hk2] at hd
      have e : D k = d := Option.some.inj hd
      exact e ▸ (hps k o hk).2.2
end Go.Proofs.YtffjleceogablaaDoor
