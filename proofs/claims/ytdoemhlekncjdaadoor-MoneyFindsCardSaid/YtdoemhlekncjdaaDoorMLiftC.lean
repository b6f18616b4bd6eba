/-
  A []api.Currency that came in, opened.
-/
import Derived.Test.YtdoemhlekncjdaaDoorMFind
import Derived.Test.YtdoemhlekncjdaaDoorLaid
import Derived.ChangeSlices
import Derived.SizedLaws
import Derived.Deep.Slices
namespace Go.Proofs.YtdoemhlekncjdaaDoor
open Go.ChangeShapes Go.WideShapes Go.ChangeAt Go.RowKit
set_option maxRecDepth 100000

theorem cur_of_trod {H : Type} {enc : TypeId × Value → H} {W : World} {fuel : Nat} {cs : List Value} {x : DataW H × List MemPlace} (hf : DataW.trod enc Tryd.prog W 0 (fun _ => true) true fuel 25 cs = some x) :
    ∃ p : Cur, cs = [.string p.1, .int .i64 p.2] := by
  obtain ⟨xs, n, _, hx, hcl, hxl, hel⟩ := DataW.trod_struct Tryd.underlying25 hf
  have k3 : Tryd.prog.cellsOf 25 = 2 := by kernel_rfl
  have hl : cs.length = 2 := by rw [hcl, k3]
  match cs, hl with
  | [c0, c1], _ =>
  have hx3 : xs.length = 2 := hxl
  match xs, hx3 with
  | [y0, y1], _ =>
  have k9 : Tryd.prog.cellsOf 9 = 1 := by kernel_rfl
  have k2 : Tryd.prog.cellsOf 3 = 1 := by kernel_rfl
  have t0 : DataW.trod enc Tryd.prog W 0 (fun _ => true) true n 9 (([c0, c1].drop 0).take (Tryd.prog.cellsOf 9)) = some y0 := hel 0 _ rfl
  rw [k9] at t0
  have t1 : DataW.trod enc Tryd.prog W 0 (fun _ => true) true n 3 (([c0, c1].drop 1).take (Tryd.prog.cellsOf 3)) = some y1 := hel 1 _ rfl
  rw [k2] at t1
  simp only [List.drop_zero, List.drop_succ_cons, List.take_succ_cons, List.take_zero] at t0 t1
  obtain ⟨z0, e0, rfl, _⟩ := DataW.trod_string Tryd.underlying9 t0
  obtain ⟨z1, e1, rfl, w1⟩ := DataW.trod_int Tryd.underlying3 t1
  simp only [List.cons.injEq, and_true] at e0 e1
  subst e0 e1
  exact ⟨(z0, z1), rfl⟩

theorem choose_listC {α : Type} {Q : Nat → α → Prop} : ∀ (n : Nat), (∀ k, k < n → ∃ o, Q k o) → ∃ os : List α, os.length = n ∧ ∀ (k : Nat) (o : α), os[k]? = some o → Q k o
  | 0, _ => ⟨[], rfl, fun k o h => by simp at h⟩
  | n + 1, h => by
    obtain ⟨os, hl, ho⟩ := choose_listC n (fun k hk => h k (by omega))
    obtain ⟨o, hq⟩ := h n (by omega)
    refine ⟨os ++ [o], by simp [hl], fun k o' hk => ?_⟩
    by_cases hkn : k < n
    · rw [List.getElem?_append_left (by omega)] at hk
      exact ho k o' hk
    · rw [List.getElem?_append_right (by omega)] at hk
      have hk0 : k - os.length = 0 := by
        have := (List.getElem?_eq_some_iff.1 hk).1
        simp at this
        omega
      rw [hk0] at hk
      simp at hk
      subst hk
      have : k = n := by omega
      subst this
      exact hq

/-- A []api.Currency THAT CAME IN. -/
theorem open_curs {H : Type} {enc : TypeId × Value → H} {W : World} {fuel : Nat} {c : Value} {y : DataW H × List MemPlace} (h : DataW.trod enc Tryd.prog W 0 (fun _ => true) true fuel 22 [c] = some y) :
    ∃ (g off : Nat) (cs : List Cur), (cs.length ≤ 17592186044416 → CursAt W c g off cs) ∧ ((y.1 = .nil ∧ cs = []) ∨ ∃ l spare, y.1 = .slice l spare ∧ l.length = cs.length) := by
  have k3 : Tryd.prog.cellsOf 25 = 2 := by kernel_rfl
  rcases Go.Deep.open_slice Tryd.underlying22 h with ⟨hcs, hx⟩ | ⟨a, len, cap, m, n, D, Pl, hcs, _, hl, hm, hmc, hx, hel⟩
  · simp at hcs
    subst hcs
    exact ⟨0, 0, [], fun _ => ⟨⟨none, 0, rfl, fun h => absurd rfl h⟩, by simp, fun k o hk => by simp at hk⟩, .inl ⟨by rw [hx], rfl⟩⟩
  · simp at hcs
    subst hcs
    simp only [if_true] at hmc
    rw [k3] at hel
    obtain ⟨b, off, spot⟩ := a
    have hone : ∀ k, k < len → ∃ (p : Cur), W.cells? 0 ((⟨b, off, spot⟩ : Addr).add (k * 2)) 2 = some [.string p.1, .int .i64 p.2] := by
      intro k hk
      obtain ⟨cs', hcs', ht⟩ := hel k (by omega)
      obtain ⟨p, rfl⟩ := cur_of_trod ht
      exact ⟨p, hcs'⟩
    obtain ⟨ps, hol, hps⟩ := choose_listC len hone
    have hspot : ps ≠ [] → spot = none := by
      intro hne
      obtain ⟨p, r, rfl⟩ := List.exists_cons_of_ne_nil hne
      have h0 := (World.cells?_some (hps 0 p rfl)).2.2 0 (by omega)
      have h1 : W.cell? (((⟨b, off, spot⟩ : Addr).add (0 * 2)).add 0) = some (.string p.1) := h0
      simpa [Addr.add] using World.cell?_spot h1
    refine ⟨b, off, ps, fun hle => ⟨⟨some ⟨b, off, spot⟩, cap, by rw [hol], fun hne => by rw [hspot hne]⟩, hle, fun k p hk => ?_⟩, .inr ⟨_, _, by rw [hx], by simp [hol]⟩⟩
    have hne : ps ≠ [] := by rintro rfl; simp at hk
    obtain rfl := hspot hne
    have hj : ∀ j u, ([.string p.1, .int .i64 p.2] : List Value)[j]? = some u → W.cell? ⟨b, off + k * 2 + j, none⟩ = some u := fun j u hj => by
      have hj3 : j < 2 := (List.getElem?_eq_some_iff.1 hj).1
      have h0 := (World.cells?_some (hps k p hk)).2.2 j hj3
      rw [add_plain, add_plain] at h0
      exact h0.trans hj
    exact ⟨hj 0 _ rfl, hj 1 _ rfl⟩
theorem bytesCur : Tryd.prog.bytesOf 25 = 24 := by kernel_rfl
theorem curs_len {H : Type} {ts : List TypeId} {ds : List (DataW H)} (h : (DataW.weightsEach Tryd.prog ts ds).all (· ≤ reachBytes) = true) {j : Nat} {xs : List Cur} {d : DataW H} (ht : ts[j]? = some 22) (hd : ds[j]? = some d) (hx : (d = .nil ∧ xs = []) ∨ ∃ l spare, d = .slice l spare ∧ l.length = xs.length) : xs.length ≤ 5864062014634 := by
  rcases hx with ⟨_, rfl⟩ | ⟨l, spare, rfl, e⟩
  · simp
  · have := sized_slice h ht hd Tryd.underlying22
    rw [bytesCur, e] at this
    unfold reachBytes at this
    omega
end Go.Proofs.YtdoemhlekncjdaaDoor
