/-
  The arguments' readings: a []string, an Op; what the bound gives.
-/
import Derived.Test.YtilhkbohemghlaaDoorOps
import Derived.Test.YtilhkbohemghlaaDoorDoor
import Derived.SliceStrings
import Derived.Lib.SmallJoins
namespace Go.Proofs.YtilhkbohemghlaaDoor
open Go.ChangeShapes Go.WideShapes Go.ChangeAt Go.RowKit
set_option maxRecDepth 100000

section
variable {H : Type} {enc : TypeId × Value → H} {W : World}

/-- A []string that came in. -/
theorem open_texts {fuel : Nat} {c : Value} {y : DataW H × List MemPlace} (h : DataW.trod enc Tryd.prog W 0 (fun _ => true) true fuel 28 [c] = some y) :
    ∃ (g g0 : Nat) (Xs : List ByteArray), (Xs.length ≤ 140737488355328 → Strs W c g g0 (Xs.map (·.data.toList))) ∧ ((y.1 = .nil ∧ Xs = []) ∨ ∃ spare, y.1 = .slice (strs Xs) spare) := by
  rcases open_strings Tryd.underlying28 Tryd.underlying9 cellsString h with ⟨hcs, hx⟩ | ⟨a, len, cap, ss, hcs, _, hl, hm, hz, hx, hcell, _⟩
  · simp at hcs
    subst hcs
    refine ⟨0, 0, [], fun _ => ⟨⟨none, 0, rfl, fun h => absurd rfl h⟩, by simp, fun j s hj => by simp at hj⟩, .inl ⟨by rw [hx], rfl⟩⟩
  · simp at hcs
    subst hcs
    simp only [if_true] at hz
    obtain ⟨b, off, spot⟩ := a
    have htl : (ss.take len).length = len := by simp; omega
    refine ⟨b, off, ss.take len, fun hle => ⟨⟨some ⟨b, off, spot⟩, cap, by simp [htl]; omega, fun hne => ?_⟩, by simpa using hle, fun j s hj => ?_⟩, .inr ⟨_, by rw [hx]⟩⟩
    · have h0 : 0 < ss.length := by
        rcases Nat.eq_zero_or_pos ss.length with h0 | h0
        · have : ss = [] := List.eq_nil_of_length_eq_zero h0
          subst this
          simp at hne
        · exact h0
      have hspot : spot = none := by simpa [Addr.add] using World.cell?_spot (hcell 0 h0)
      rw [hspot]
    · simp only [List.getElem?_map, Option.map_eq_some_iff] at hj
      obtain ⟨X, hX, rfl⟩ := hj
      have hj' : j < len := by have := (List.getElem?_eq_some_iff.1 hX).1; omega
      have hspot : spot = none := by simpa [Addr.add] using World.cell?_spot (hcell 0 (by omega))
      subst hspot
      have hX' : ss.getD j ByteArray.empty = X := by
        rw [List.getElem?_take_of_lt hj'] at hX
        simp [List.getD, hX]
      have hc := hcell j (by omega)
      rw [hX', add_plain] at hc
      exact hc
end

/-! ### What the bound gives -/

theorem bulk_one {H : Type} (d : DataW H) : 1 ≤ Rows.uptoBulk d := by
  cases d with
  | lit l => cases l <;> simp [Rows.uptoBulk]
  | nil => simp [Rows.uptoBulk]
  | ptr d => simp [Rows.uptoBulk]
  | slice elems spare => simp [Rows.uptoBulk]
  | agg parts => simp [Rows.uptoBulk]
  | iface t d => simp [Rows.uptoBulk]
  | map entries => simp [Rows.uptoBulk]
  | held h => simp [Rows.uptoBulk]

theorem bulk_strs {H : Type} {M : Nat} (hM : M ≤ 16777216) : ∀ (Xs : List ByteArray), Rows.uptoBulkAll (strs (H := H) Xs) ≤ M → Xs.length ≤ Rows.uptoBulkAll (strs (H := H) Xs) ∧ (∀ x ∈ Xs.map (·.data.toList), x.length ≤ M) ∧ (eachB (Xs.map (·.data.toList))).length ≤ 10 * Rows.uptoBulkAll (strs (H := H) Xs)
  | [], _ => by simp [strs, Rows.uptoBulkAll, eachB]
  | X :: r, h => by
    have e : Rows.uptoBulkAll (strs (H := H) (X :: r)) = X.data.toList.length + 1 + Rows.uptoBulkAll (strs (H := H) r) := by simp [strs, Rows.uptoBulkAll, Rows.uptoBulk]
    rw [e] at h ⊢
    obtain ⟨h1, h2, h3⟩ := bulk_strs hM r (by omega)
    have ht := textB_le X.data.toList (by omega)
    refine ⟨by rw [List.length_cons]; omega, fun x hx => ?_, ?_⟩
    · rcases List.mem_cons.1 hx with rfl | hx
      · show X.data.toList.length ≤ M; omega
      · exact h2 x hx
    · rw [List.map_cons, eachB, List.length_append]
      omega

/-- AN Op THAT CAME IN: its value and its reading. -/
theorem open_op {H : Type} {enc : TypeId × Value → H} {W : World} {base : Nat} {v : Value} {d : DataW H} {p : List MemPlace} (hv : Value.okWide Tryd.prog W .any base 30 v) (h : DataW.Trod enc Tryd.prog W 0 (fun _ => true) true 30 v d p) (hb : Rows.uptoBulk d ≤ 1048576) :
    ∃ (o : OpD) (g g0 : Nat), v = o.val ∧ o.Ok ∧ o.Small ∧ Strs W o.v g g0 o.ss := by
  obtain ⟨cs, rfl, hsz⟩ := okWide_struct Tryd.underlying30 hv
  have hsz8 : cs.size = 8 := by rw [hsz]; kernel_rfl
  obtain ⟨l⟩ := cs
  have hl : l.length = 8 := hsz8
  match l, hl with
  | [c0, c1, c2, c3, c4, c5, c6, c7], _ =>
  obtain ⟨fuel, hf⟩ := h
  obtain ⟨xs, n, _, hx, _, hxl, hel⟩ := DataW.trod_struct Tryd.underlying30 hf
  have hx8 : xs.length = 8 := hxl
  match xs, hx8 with
  | [y0, y1, y2, y3, y4, y5, y6, y7], _ =>
  have k3 : Tryd.prog.cellsOf 3 = 1 := by kernel_rfl
  have k4 : Tryd.prog.cellsOf 4 = 1 := by kernel_rfl
  have k27 : Tryd.prog.cellsOf 27 = 1 := by kernel_rfl
  have k2 : Tryd.prog.cellsOf 2 = 1 := by kernel_rfl
  have k28 : Tryd.prog.cellsOf 28 = 1 := by kernel_rfl
  have t0 : DataW.trod enc Tryd.prog W 0 (fun _ => true) true n 3 (([c0, c1, c2, c3, c4, c5, c6, c7].drop 0).take (Tryd.prog.cellsOf 3)) = some y0 := hel 0 _ rfl
  rw [k3] at t0
  have t1 : DataW.trod enc Tryd.prog W 0 (fun _ => true) true n 4 (([c0, c1, c2, c3, c4, c5, c6, c7].drop 1).take (Tryd.prog.cellsOf 4)) = some y1 := hel 1 _ rfl
  rw [k4] at t1
  have t2 : DataW.trod enc Tryd.prog W 0 (fun _ => true) true n 27 (([c0, c1, c2, c3, c4, c5, c6, c7].drop 2).take (Tryd.prog.cellsOf 27)) = some y2 := hel 2 _ rfl
  rw [k27] at t2
  have t3 : DataW.trod enc Tryd.prog W 0 (fun _ => true) true n 2 (([c0, c1, c2, c3, c4, c5, c6, c7].drop 3).take (Tryd.prog.cellsOf 2)) = some y3 := hel 3 _ rfl
  rw [k2] at t3
  have t4 : DataW.trod enc Tryd.prog W 0 (fun _ => true) true n 3 (([c0, c1, c2, c3, c4, c5, c6, c7].drop 4).take (Tryd.prog.cellsOf 3)) = some y4 := hel 4 _ rfl
  rw [k3] at t4
  have t5 : DataW.trod enc Tryd.prog W 0 (fun _ => true) true n 3 (([c0, c1, c2, c3, c4, c5, c6, c7].drop 5).take (Tryd.prog.cellsOf 3)) = some y5 := hel 5 _ rfl
  rw [k3] at t5
  have t6 : DataW.trod enc Tryd.prog W 0 (fun _ => true) true n 9 (([c0, c1, c2, c3, c4, c5, c6, c7].drop 6).take (Tryd.prog.cellsOf 9)) = some y6 := hel 6 _ rfl
  rw [cellsString] at t6
  have t7 : DataW.trod enc Tryd.prog W 0 (fun _ => true) true n 28 (([c0, c1, c2, c3, c4, c5, c6, c7].drop 7).take (Tryd.prog.cellsOf 28)) = some y7 := hel 7 _ rfl
  rw [k28] at t7
  simp only [List.drop_zero, List.drop_succ_cons, List.take_succ_cons, List.take_zero] at t0 t1 t2 t3 t4 t5 t6 t7
  obtain ⟨z0, e0, rfl, w0⟩ := DataW.trod_int Tryd.underlying3 t0
  obtain ⟨z1, e1, rfl⟩ := DataW.trod_bool Tryd.underlying4 t1
  obtain ⟨z2, e2, rfl, w2⟩ := DataW.trod_int Tryd.underlying27 t2
  obtain ⟨z3, e3, rfl, w3⟩ := DataW.trod_int Tryd.underlying2 t3
  obtain ⟨z4, e4, rfl, w4⟩ := DataW.trod_int Tryd.underlying3 t4
  obtain ⟨z5, e5, rfl, w5⟩ := DataW.trod_int Tryd.underlying3 t5
  obtain ⟨z6, e6, rfl, _⟩ := DataW.trod_string Tryd.underlying9 t6
  obtain ⟨g, g0, Xs, hst, hd⟩ := open_texts t7
  simp only [List.cons.injEq, and_true] at e0 e1 e2 e3 e4 e5 e6
  subst e0 e1 e2 e3 e4 e5 e6
  simp only [Prod.mk.injEq] at hx
  obtain ⟨rfl, _⟩ := hx
  simp only [List.map_cons, List.map_nil, Rows.uptoBulk, Rows.uptoBulkAll] at hb
  have hbt : Rows.uptoBulkAll (strs (H := H) Xs) ≤ 1048576 := by
    rcases hd with ⟨_, rfl⟩ | ⟨spare, hd⟩
    · simp [strs, Rows.uptoBulkAll]
    · rw [hd] at hb
      simp only [Rows.uptoBulk] at hb
      omega
  obtain ⟨b1, b2, b3⟩ := bulk_strs (H := H) (M := 1048576) (by omega) Xs hbt
  have hu := bounds_u64 w2
  have hi := bounds_i64 w3
  have hn := bounds_i64 w4
  have hm := bounds_i64 w5
  refine ⟨⟨z0, z1, z2.toNat, z3, z4, z5, z6, c7, Xs.map (·.data.toList)⟩, g, g0, ?_, ⟨by simp only; omega, by simp only; omega, by simp only; omega, by simp only; omega, by simp only; omega⟩, ⟨?_, ?_, ?_, ?_⟩, hst (by omega)⟩
  · simp only [OpD.val]
    rw [show ((z2.toNat : Nat) : Int) = z2 by omega]
  · have : z6.size = z6.data.toList.length := rfl
    simp only; omega
  · simp only [List.length_map]; omega
  · intro x hx; have := b2 x hx; omega
  · simp only; omega
end Go.Proofs.YtilhkbohemghlaaDoor
