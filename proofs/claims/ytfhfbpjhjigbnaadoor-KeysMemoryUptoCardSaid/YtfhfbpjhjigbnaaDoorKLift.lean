/-
  A []api.Part that came in; what the bound gives; internal/bytealg's MaxLen.
-/
import Derived.Test.YtfhfbpjhjigbnaaDoorKJoin2
import Derived.Test.YtfhfbpjhjigbnaaDoorRows
import Derived.ProofKit
import Derived.LaidMore
import Derived.LaidLaws
import Derived.OpenShut
import Derived.Stop.LaidErr
import Derived.Deep.DeepHandedRow
import Derived.Deep.DeepWitnessRowRef
import Derived.Deep.Slices
import Derived.Lib.SmallJoins
namespace Go.Proofs.YtfhfbpjhjigbnaaDoor
open Go.ChangeShapes Go.WideShapes Go.ChangeAt Go.RowKit
set_option maxRecDepth 100000

theorem maxL_of_shape {W : World} (h : W.ShapedOpen Tryd.prog) : ∃ m, MaxL m W := Tryd.laysM155.s1_3 W h

theorem bulk_one {H : Type} (d : DataW H) : 1 ≤ Rows.uptoBulk d := by
  cases d with
  | lit l => cases l <;> simp [Rows.uptoBulk]
  | nil => simp [Rows.uptoBulk]
  | ptr d => simp [Rows.uptoBulk]
  | slice elems spare => simp [Rows.uptoBulk]
  | agg parts => simp [Rows.uptoBulk]
  | iface t d => simp [Rows.uptoBulk]
  | map entries => simp [Rows.uptoBulk]
  | held h => simp [Rows.uptoBulk]

theorem part_of_trod {H : Type} {enc : TypeId × Value → H} {W : World} {fuel : Nat} {cs : List Value} {x : DataW H × List MemPlace} (hf : DataW.trod enc Tryd.prog W 0 (fun _ => true) true fuel 25 cs = some x) (hb : Rows.uptoBulk x.1 ≤ 1048576) :
    ∃ p : PD, cs = p.list ∧ p.Ok ∧ (K.formB p.part).length ≤ 3 * Rows.uptoBulk x.1 := by
  obtain ⟨xs, n, _, hx, hcl, hxl, hel⟩ := DataW.trod_struct Tryd.underlying25 hf
  have k3 : Tryd.prog.cellsOf 25 = 3 := by kernel_rfl
  have hl : cs.length = 3 := by rw [hcl, k3]
  match cs, hl with
  | [c0, c1, c2], _ =>
  have hx3 : xs.length = 3 := hxl
  match xs, hx3 with
  | [y0, y1, y2], _ =>
  have k4 : Tryd.prog.cellsOf 4 = 1 := by kernel_rfl
  have k2 : Tryd.prog.cellsOf 2 = 1 := by kernel_rfl
  have k9 : Tryd.prog.cellsOf 9 = 1 := by kernel_rfl
  have t0 : DataW.trod enc Tryd.prog W 0 (fun _ => true) true n 4 (([c0, c1, c2].drop 0).take (Tryd.prog.cellsOf 4)) = some y0 := hel 0 _ rfl
  rw [k4] at t0
  have t1 : DataW.trod enc Tryd.prog W 0 (fun _ => true) true n 2 (([c0, c1, c2].drop 1).take (Tryd.prog.cellsOf 2)) = some y1 := hel 1 _ rfl
  rw [k2] at t1
  have t2 : DataW.trod enc Tryd.prog W 0 (fun _ => true) true n 9 (([c0, c1, c2].drop 2).take (Tryd.prog.cellsOf 9)) = some y2 := hel 2 _ rfl
  rw [k9] at t2
  simp only [List.drop_zero, List.drop_succ_cons, List.take_succ_cons, List.take_zero] at t0 t1 t2
  obtain ⟨z0, e0, rfl⟩ := DataW.trod_bool Tryd.underlying4 t0
  obtain ⟨z1, e1, rfl, w1⟩ := DataW.trod_int Tryd.underlying2 t1
  obtain ⟨z2, e2, rfl, _⟩ := DataW.trod_string Tryd.underlying9 t2
  simp only [List.cons.injEq, and_true] at e0 e1 e2
  subst e0 e1 e2
  subst hx
  simp only [List.map_cons, List.map_nil, Rows.uptoBulk, Rows.uptoBulkAll] at hb ⊢
  have hz : z2.size = z2.data.toList.length := rfl
  have hn := bounds_i64 w1
  refine ⟨⟨z0, z1, z2⟩, rfl, ⟨hn.1, hn.2, by simp only; omega⟩, ?_⟩
  have h1 := formB_le ⟨z0, z1, z2⟩
  simp only at h1
  omega

theorem choose_list {α : Type} {Q : Nat → α → Prop} : ∀ (n : Nat), (∀ k, k < n → ∃ o, Q k o) → ∃ os : List α, os.length = n ∧ ∀ (k : Nat) (o : α), os[k]? = some o → Q k o
  | 0, _ => ⟨[], rfl, fun k o h => by simp at h⟩
  | n + 1, h => by
    obtain ⟨os, hl, ho⟩ := choose_list n (fun k hk => h k (by omega))
    obtain ⟨o, hq⟩ := h n (by omega)
    refine ⟨os ++ [o], by simp [hl], fun k o' hk => ?_⟩
    by_cases hkn : k < n
    · rw [List.getElem?_append_left (by omega)] at hk
      exact ho k o' hk
    · rw [List.getElem?_append_right (by omega)] at hk
      have hk0 : k - os.length = 0 := by
        have := (List.getElem?_eq_some_iff.1 hk).1
        simp at this
        omega
      rw [hk0] at hk
      simp at hk
      subst hk
      obtain rfl : k = n := by omega
      exact hq

theorem bulk_parts {H : Type} (D : Nat → DataW H) : ∀ (n : Nat) (ps : List PD), ps.length = n → (∀ k p, ps[k]? = some p → (K.formB p.part).length ≤ 3 * Rows.uptoBulk (D k)) → (K.joinB (ps.map PD.part)).length ≤ 3 * Rows.uptoBulkAll ((List.range n).map D) ∧ n ≤ Rows.uptoBulkAll ((List.range n).map D) := by
  intro n
  induction n with
  | zero => intro ps h _; obtain rfl := List.eq_nil_of_length_eq_zero h; simp [K.joinB, Rows.uptoBulkAll]
  | succ n ih =>
    intro ps h hk
    have happ : ∀ (l r : List (DataW H)), Rows.uptoBulkAll (l ++ r) = Rows.uptoBulkAll l + Rows.uptoBulkAll r := by
      intro l r
      induction l with
      | nil => simp [Rows.uptoBulkAll]
      | cons x l ih => simp only [List.cons_append, Rows.uptoBulkAll, ih]; omega
    have hlt : n < ps.length := by omega
    have e : ps = ps.take n ++ [ps[n]] := by
      have := List.take_append_drop n ps
      rw [List.drop_eq_getElem_cons hlt, List.drop_eq_nil_of_le (by omega)] at this
      exact this.symm
    obtain ⟨h1, h2⟩ := ih (ps.take n) (by simp; omega) (fun k p hko => hk k p (by
      have hk' : k < n := by have := (List.getElem?_eq_some_iff.1 hko).1; simp at this; omega
      rwa [List.getElem?_take_of_lt hk'] at hko))
    have h3 := hk n _ (List.getElem?_eq_getElem hlt)
    have h4 := bulk_one (D n)
    rw [List.range_succ, List.map_append, happ]
    simp only [List.map_cons, List.map_nil, Rows.uptoBulkAll]
    have e2 : K.joinB (ps.map PD.part) = K.joinB ((ps.take n).map PD.part) ++ K.formB (ps[n]).part := by
      conv => lhs; rw [e]
      rw [List.map_append, List.map_cons, List.map_nil, joinB_snoc]
    rw [e2, List.length_append]
    omega

/-- A []api.Part THAT CAME IN. -/
theorem open_parts {H : Type} {enc : TypeId × Value → H} {W : World} {fuel : Nat} {c : Value} {y : DataW H × List MemPlace} (h : DataW.trod enc Tryd.prog W 0 (fun _ => true) true fuel 22 [c] = some y) (hb : Rows.uptoBulk y.1 ≤ 1048576) :
    ∃ (g off : Nat) (ps : List PD), Parts W c g off ps ∧ (∀ p ∈ ps, p.Ok) ∧ (K.joinB (ps.map PD.part)).length ≤ 3 * Rows.uptoBulk y.1 ∧ ps.length ≤ Rows.uptoBulk y.1 ∧ (∀ a n k, c = .slice a n k → n ≤ k) := by
  have k3 : Tryd.prog.cellsOf 25 = 3 := by kernel_rfl
  rcases Go.Deep.open_slice Tryd.underlying22 h with ⟨hcs, hx⟩ | ⟨a, len, cap, m, n, D, Pl, hcs, _, hl, hm, hmc, hx, hel⟩
  · simp at hcs
    subst hcs
    exact ⟨0, 0, [], ⟨⟨none, 0, rfl, fun h => absurd rfl h⟩, by simp, fun k o hk => by simp at hk⟩, by simp, by simp [K.joinB], by simp, fun a n k e => by injection e with _ e1 e2; omega⟩
  · simp at hcs
    subst hcs
    simp only [if_true] at hmc
    rw [k3] at hel
    rw [hx] at hb ⊢
    simp only [Rows.uptoBulk] at hb ⊢
    obtain ⟨b, off, spot⟩ := a
    have hpart : ∀ k, k < len → Rows.uptoBulk (D k) ≤ 1048576 := by
      intro k hk
      have hp : ∀ (l : List (DataW H)) (d : DataW H), d ∈ l → Rows.uptoBulk d ≤ Rows.uptoBulkAll l := by
        intro l
        induction l with
        | nil => intro d h; cases h
        | cons x r ih =>
          intro d h
          simp only [Rows.uptoBulkAll]
          rcases List.mem_cons.1 h with rfl | h
          · omega
          · have := ih d h; omega
      have := hp ((List.range len).map D) (D k) (List.mem_map_of_mem (List.mem_range.2 hk))
      omega
    have hone : ∀ k, k < len → ∃ (p : PD), W.cells? 0 ((⟨b, off, spot⟩ : Addr).add (k * 3)) 3 = some p.list ∧ p.Ok ∧ (K.formB p.part).length ≤ 3 * Rows.uptoBulk (D k) := by
      intro k hk
      obtain ⟨cs', hcs', ht⟩ := hel k (by omega)
      obtain ⟨p, rfl, h1, h2⟩ := part_of_trod ht (hpart k hk)
      exact ⟨p, hcs', h1, h2⟩
    obtain ⟨ps, hol, hps⟩ := choose_list len hone
    obtain ⟨hs1, hs2⟩ := bulk_parts D len ps hol (fun k p hk => (hps k p hk).2.2)
    have hspot : ps ≠ [] → spot = none := by
      intro hne
      obtain ⟨p, r, rfl⟩ := List.exists_cons_of_ne_nil hne
      have h0 := (World.cells?_some (hps 0 p rfl).1).2.2 0 (by omega)
      have h1 : W.cell? (((⟨b, off, spot⟩ : Addr).add (0 * 3)).add 0) = some (.bool p.b) := h0
      simpa [Addr.add] using World.cell?_spot h1
    refine ⟨b, off, ps, ⟨⟨some ⟨b, off, spot⟩, cap, by rw [hol], fun hne => by rw [hspot hne]⟩, by omega, fun k p hk => ?_⟩, fun p hp => ?_, by omega, by omega, fun a n k e => by injection e with _ e1 e2; omega⟩
    · have hne : ps ≠ [] := by rintro rfl; simp at hk
      obtain rfl := hspot hne
      have hj : ∀ j u, p.list[j]? = some u → W.cell? ⟨b, off + k * 3 + j, none⟩ = some u := fun j u hj => by
        have hj3 : j < 3 := (List.getElem?_eq_some_iff.1 hj).1
        have h0 := (World.cells?_some (hps k p hk).1).2.2 j hj3
        rw [add_plain, add_plain] at h0
        exact h0.trans hj
      exact ⟨hj 0 _ rfl, hj 1 _ rfl, hj 2 _ rfl⟩
    · obtain ⟨k, hk⟩ := List.getElem?_of_mem hp
      exact (hps k p hk).2.1
end Go.Proofs.YtfhfbpjhjigbnaaDoor
