/-
  A []Op that came in.
-/
import Derived.Test.YtilhkbohemghlaaDoorLift
import Derived.Deep.Slices
namespace Go.Proofs.YtilhkbohemghlaaDoor
open Go.ChangeShapes Go.WideShapes Go.ChangeAt Go.RowKit
set_option maxRecDepth 100000

/-- An Op's cells, as a list. -/
def OpD.list (o : OpD) : List Value := [.int .i64 o.kind, .bool o.second, .int .u64 o.u, .int .i64 o.i, .int .i64 o.n, .int .i64 o.m, .string o.s, o.v]

/-- One Op's cells that came in. -/
theorem op_of_trod {H : Type} {enc : TypeId × Value → H} {W : World} {fuel : Nat} {cs : List Value} {x : DataW H × List MemPlace} (hf : DataW.trod enc Tryd.prog W 0 (fun _ => true) true fuel 30 cs = some x) (hb : Rows.uptoBulk x.1 ≤ 1048576) :
    ∃ (o : OpD) (g g0 : Nat), cs = o.list ∧ o.Ok ∧ o.Small ∧ Strs W o.v g g0 o.ss ∧ (∀ y, o.enc = some y → y.length ≤ 11 * Rows.uptoBulk x.1) := by
  obtain ⟨xs, n, _, hx, hcl, hxl, hel⟩ := DataW.trod_struct Tryd.underlying30 hf
  have k8 : Tryd.prog.cellsOf 30 = 8 := by kernel_rfl
  have hl : cs.length = 8 := by rw [hcl, k8]
  match cs, hl with
  | [c0, c1, c2, c3, c4, c5, c6, c7], _ =>
  have hx8 : xs.length = 8 := hxl
  match xs, hx8 with
  | [y0, y1, y2, y3, y4, y5, y6, y7], _ =>
  have k3 : Tryd.prog.cellsOf 3 = 1 := by kernel_rfl
  have k4 : Tryd.prog.cellsOf 4 = 1 := by kernel_rfl
  have k27 : Tryd.prog.cellsOf 27 = 1 := by kernel_rfl
  have k2 : Tryd.prog.cellsOf 2 = 1 := by kernel_rfl
  have k28 : Tryd.prog.cellsOf 28 = 1 := by kernel_rfl
  have t0 : DataW.trod enc Tryd.prog W 0 (fun _ => true) true n 3 (([c0, c1, c2, c3, c4, c5, c6, c7].drop 0).take (Tryd.prog.cellsOf 3)) = some y0 := hel 0 _ rfl
  rw [k3] at t0
  have t1 : DataW.trod enc Tryd.prog W 0 (fun _ => true) true n 4 (([c0, c1, c2, c3, c4, c5, c6, c7].drop 1).take (Tryd.prog.cellsOf 4)) = some y1 := hel 1 _ rfl
  rw [k4] at t1
  have t2 : DataW.trod enc Tryd.prog W 0 (fun _ => true) true n 27 (([c0, c1, c2, c3, c4, c5, c6, c7].drop 2).take (Tryd.prog.cellsOf 27)) = some y2 := hel 2 _ rfl
  rw [k27] at t2
  have t3 : DataW.trod enc Tryd.prog W 0 (fun _ => true) true n 2 (([c0, c1, c2, c3, c4, c5, c6, c7].drop 3).take (Tryd.prog.cellsOf 2)) = some y3 := hel 3 _ rfl
  rw [k2] at t3
  have t4 : DataW.trod enc Tryd.prog W 0 (fun _ => true) true n 3 (([c0, c1, c2, c3, c4, c5, c6, c7].drop 4).take (Tryd.prog.cellsOf 3)) = some y4 := hel 4 _ rfl
  rw [k3] at t4
  have t5 : DataW.trod enc Tryd.prog W 0 (fun _ => true) true n 3 (([c0, c1, c2, c3, c4, c5, c6, c7].drop 5).take (Tryd.prog.cellsOf 3)) = some y5 := hel 5 _ rfl
  rw [k3] at t5
  have t6 : DataW.trod enc Tryd.prog W 0 (fun _ => true) true n 9 (([c0, c1, c2, c3, c4, c5, c6, c7].drop 6).take (Tryd.prog.cellsOf 9)) = some y6 := hel 6 _ rfl
  rw [cellsString] at t6
  have t7 : DataW.trod enc Tryd.prog W 0 (fun _ => true) true n 28 (([c0, c1, c2, c3, c4, c5, c6, c7].drop 7).take (Tryd.prog.cellsOf 28)) = some y7 := hel 7 _ rfl
  rw [k28] at t7
  simp only [List.drop_zero, List.drop_succ_cons, List.take_succ_cons, List.take_zero] at t0 t1 t2 t3 t4 t5 t6 t7
  obtain ⟨z0, e0, rfl, w0⟩ := DataW.trod_int Tryd.underlying3 t0
  obtain ⟨z1, e1, rfl⟩ := DataW.trod_bool Tryd.underlying4 t1
  obtain ⟨z2, e2, rfl, w2⟩ := DataW.trod_int Tryd.underlying27 t2
  obtain ⟨z3, e3, rfl, w3⟩ := DataW.trod_int Tryd.underlying2 t3
  obtain ⟨z4, e4, rfl, w4⟩ := DataW.trod_int Tryd.underlying3 t4
  obtain ⟨z5, e5, rfl, w5⟩ := DataW.trod_int Tryd.underlying3 t5
  obtain ⟨z6, e6, rfl, _⟩ := DataW.trod_string Tryd.underlying9 t6
  obtain ⟨g, g0, Xs, hst, hd⟩ := open_texts t7
  simp only [List.cons.injEq, and_true] at e0 e1 e2 e3 e4 e5 e6
  subst e0 e1 e2 e3 e4 e5 e6
  subst hx
  simp only [List.map_cons, List.map_nil, Rows.uptoBulk, Rows.uptoBulkAll] at hb ⊢
  have hbt : Rows.uptoBulkAll (strs (H := H) Xs) ≤ Rows.uptoBulk y7.1 := by
    rcases hd with ⟨_, rfl⟩ | ⟨spare, hd⟩
    · simp [strs, Rows.uptoBulkAll]
    · rw [hd]
      simp only [Rows.uptoBulk]
      omega
  obtain ⟨b1, b2, b3⟩ := bulk_strs (H := H) (M := 1048576) (by omega) Xs (by omega)
  have hu := bounds_u64 w2
  have hi := bounds_i64 w3
  have hn := bounds_i64 w4
  have hm := bounds_i64 w5
  have hz6 : z6.size = z6.data.toList.length := rfl
  have hok : OpD.Ok ⟨z0, z1, z2.toNat, z3, z4, z5, z6, c7, Xs.map (·.data.toList)⟩ := ⟨by simp only; omega, by simp only; omega, by simp only; omega, by simp only; omega, by simp only; omega⟩
  have hsm : OpD.Small ⟨z0, z1, z2.toNat, z3, z4, z5, z6, c7, Xs.map (·.data.toList)⟩ := ⟨by simp only; omega, by simp only [List.length_map]; omega, fun x hx => by have := b2 x hx; omega, by simp only; omega⟩
  refine ⟨⟨z0, z1, z2.toNat, z3, z4, z5, z6, c7, Xs.map (·.data.toList)⟩, g, g0, ?_, hok, hsm, hst (by omega), fun y hy => ?_⟩
  · simp only [OpD.list]
    rw [show ((z2.toNat : Nat) : Int) = z2 by omega]
  · have h7 := bulk_one y7.1
    have hu10 := Lib.uvarint_length64 hok.u
    have hz10 := Lib.uvarint_length64 (Lib.zigzag_lt hok.i0 hok.i1)
    rcases OpD.enc_cases hy with ⟨_, rfl⟩ | ⟨_, rfl⟩ | ⟨_, rfl⟩ | ⟨_, rfl⟩ | ⟨_, rfl⟩ | ⟨_, rfl⟩ | ⟨_, rfl⟩ | ⟨_, rfl⟩
    · omega
    · omega
    · omega
    · rw [lowB_length]; omega
    · simp; omega
    · rw [floatB, lowB_length]; omega
    · have h1 := textB_le z6.data.toList (by omega)
      simp only
      omega
    · have h1 := textsB_le (Xs.map (·.data.toList)) (by rw [List.length_map]; omega)
      simp only
      omega

/-- The bytes of a script. -/
def encs : List OpD → List UInt8
  | [] => []
  | o :: r => (o.enc).getD [] ++ encs r
theorem encs_append : ∀ l m, encs (l ++ m) = encs l ++ encs m
  | [], m => rfl
  | o :: r, m => by simp [encs, encs_append r m]

/-- A []Op value: its cells in block g from off on. -/
structure Script (W : World) (v : Value) (g off : Nat) (os : List OpD) : Prop where
  val : ∃ a cap, v = .slice a os.length cap ∧ (os ≠ [] → a = some ⟨g, off, none⟩)
  le : os.length ≤ 1048576
  cells : ∀ (k : Nat) (o : OpD), os[k]? = some o → ∀ (j : Nat) (u : Value), o.list[j]? = some u → W.cell? ⟨g, off + k * 8 + j, none⟩ = some u
  each : ∀ (k : Nat) (o : OpD), os[k]? = some o → o.Ok ∧ o.Small ∧ ∃ g' g0, Strs W o.v g' g0 o.ss
  sum : (encs os).length ≤ 11534336

theorem Script.elem {W : World} {v : Value} {g off : Nat} {os : List OpD} (h : Script W v g off os) {k : Nat} (hk : k < os.length) : ∃ o cap, os[k]? = some o ∧ v = .slice (some ⟨g, off, none⟩) os.length cap := by
  obtain ⟨a, cap, rfl, ha⟩ := h.val
  have hne : os ≠ [] := by rintro rfl; simp at hk
  obtain rfl := ha hne
  exact ⟨os[k], cap, List.getElem?_eq_getElem hk, rfl⟩

theorem bulk_range {H : Type} (D : Nat → DataW H) : ∀ (n : Nat) (os : List OpD), os.length = n → (∀ k o, os[k]? = some o → ∀ y, o.enc = some y → y.length ≤ 11 * Rows.uptoBulk (D k)) → (encs os).length ≤ 11 * Rows.uptoBulkAll ((List.range n).map D) ∧ n ≤ Rows.uptoBulkAll ((List.range n).map D) := by
  intro n
  induction n with
  | zero => intro os h _; obtain rfl := List.eq_nil_of_length_eq_zero h; simp [encs, Rows.uptoBulkAll]
  | succ n ih =>
    intro os h hk
    have happ : ∀ (l r : List (DataW H)), Rows.uptoBulkAll (l ++ r) = Rows.uptoBulkAll l + Rows.uptoBulkAll r := by
      intro l r
      induction l with
      | nil => simp [Rows.uptoBulkAll]
      | cons x l ih => simp only [List.cons_append, Rows.uptoBulkAll, ih]; omega
    have hlt : n < os.length := by omega
    have e : os = os.take n ++ [os[n]] := by
      have := List.take_append_drop n os
      rw [List.drop_eq_getElem_cons hlt, List.drop_eq_nil_of_le (by omega)] at this
      exact this.symm
    obtain ⟨h1, h2⟩ := ih (os.take n) (by simp; omega) (fun k o hko => hk k o (by
      have hk' : k < n := by have := (List.getElem?_eq_some_iff.1 hko).1; simp at this; omega
      rwa [List.getElem?_take_of_lt hk'] at hko))
    have h3 : ((os[n]).enc.getD []).length ≤ 11 * Rows.uptoBulk (D n) := by
      cases hy : (os[n]).enc with
      | none => simp
      | some y => simpa using hk n _ (List.getElem?_eq_getElem hlt) y hy
    have h4 := bulk_one (D n)
    rw [List.range_succ, List.map_append, happ]
    simp only [List.map_cons, List.map_nil, Rows.uptoBulkAll]
    have e2 : encs os = encs (os.take n) ++ (os[n]).enc.getD [] := by
      conv => lhs; rw [e]
      rw [encs_append]
      simp [encs]
    rw [e2, List.length_append]
    omega

theorem choose_list {Q : Nat → OpD → Prop} : ∀ (n : Nat), (∀ k, k < n → ∃ o, Q k o) → ∃ os : List OpD, os.length = n ∧ ∀ (k : Nat) (o : OpD), os[k]? = some o → Q k o
  | 0, _ => ⟨[], rfl, fun k o h => by simp at h⟩
  | n + 1, h => by
    obtain ⟨os, hl, ho⟩ := choose_list n (fun k hk => h k (by omega))
    obtain ⟨o, hq⟩ := h n (by omega)
    refine ⟨os ++ [o], by simp [hl], fun k o' hk => ?_⟩
    by_cases hkn : k < n
    · rw [List.getElem?_append_left (by omega)] at hk
      exact ho k o' hk
    · rw [List.getElem?_append_right (by omega)] at hk
      have hk0 : k - os.length = 0 := by
        have := (List.getElem?_eq_some_iff.1 hk).1
        simp at this
        omega
      rw [hk0] at hk
      simp at hk
      subst hk
      obtain rfl : k = n := by omega
      exact hq

theorem open_script {H : Type} {enc : TypeId × Value → H} {W : World} {fuel : Nat} {c : Value} {y : DataW H × List MemPlace} (h : DataW.trod enc Tryd.prog W 0 (fun _ => true) true fuel 22 [c] = some y) (hb : Rows.uptoBulk y.1 ≤ 1048576) :
    ∃ (g off : Nat) (os : List OpD), Script W c g off os := by
  have k8 : Tryd.prog.cellsOf 30 = 8 := by kernel_rfl
  rcases Go.Deep.open_slice Tryd.underlying22 h with ⟨hcs, hx⟩ | ⟨a, len, cap, m, n, D, Pl, hcs, _, hl, hm, hmc, hx, hel⟩
  · simp at hcs
    subst hcs
    exact ⟨0, 0, [], ⟨⟨none, 0, rfl, fun h => absurd rfl h⟩, by simp, fun k o hk => by simp at hk, fun k o hk => by simp at hk, by simp [encs]⟩⟩
  · simp at hcs
    subst hcs
    simp only [if_true] at hmc
    rw [k8] at hel
    rw [hx] at hb
    simp only [Rows.uptoBulk] at hb
    obtain ⟨b, off, spot⟩ := a
    -- each element
    have hpart : ∀ k, k < len → Rows.uptoBulk (D k) ≤ 1048576 := by
      intro k hk
      have hp : ∀ (l : List (DataW H)) (d : DataW H), d ∈ l → Rows.uptoBulk d ≤ Rows.uptoBulkAll l := by
        intro l
        induction l with
        | nil => intro d h; cases h
        | cons x r ih =>
          intro d h
          simp only [Rows.uptoBulkAll]
          rcases List.mem_cons.1 h with rfl | h
          · omega
          · have := ih d h; omega
      have := hp ((List.range len).map D) (D k) (List.mem_map_of_mem (List.mem_range.2 hk))
      omega
    have hone : ∀ k, k < len → ∃ (o : OpD), W.cells? 0 ((⟨b, off, spot⟩ : Addr).add (k * 8)) 8 = some o.list ∧ o.Ok ∧ o.Small ∧ (∃ g' g0, Strs W o.v g' g0 o.ss) ∧ (∀ y, o.enc = some y → y.length ≤ 11 * Rows.uptoBulk (D k)) := by
      intro k hk
      obtain ⟨cs', hcs', ht⟩ := hel k (by omega)
      obtain ⟨o, g', g0, rfl, h1, h2, h3, h4⟩ := op_of_trod ht (hpart k hk)
      exact ⟨o, hcs', h1, h2, ⟨g', g0, h3⟩, h4⟩
    have hos : ∃ os : List OpD, os.length = len ∧ ∀ (k : Nat) (o : OpD), os[k]? = some o → W.cells? 0 ((⟨b, off, spot⟩ : Addr).add (k * 8)) 8 = some o.list ∧ o.Ok ∧ o.Small ∧ (∃ g' g0, Strs W o.v g' g0 o.ss) ∧ (∀ y, o.enc = some y → y.length ≤ 11 * Rows.uptoBulk (D k)) := by
      exact choose_list len hone
    obtain ⟨os, hol, hos⟩ := hos
    obtain ⟨hs1, hs2⟩ := bulk_range D len os hol (fun k o hk => (hos k o hk).2.2.2.2)
    have hspot : os ≠ [] → spot = none := by
      intro hne
      obtain ⟨o, r, rfl⟩ := List.exists_cons_of_ne_nil hne
      have h0 := (World.cells?_some (hos 0 o rfl).1).2.2 0 (by omega)
      have h1 : W.cell? (((⟨b, off, spot⟩ : Addr).add (0 * 8)).add 0) = some (.int .i64 o.kind) := h0
      simpa [Addr.add] using World.cell?_spot h1
    refine ⟨b, off, os, ⟨⟨some ⟨b, off, spot⟩, cap, by rw [hol], fun hne => by rw [hspot hne]⟩, by omega, fun k o hk j u hj => ?_, fun k o hk => ⟨(hos k o hk).2.1, (hos k o hk).2.2.1, (hos k o hk).2.2.2.1⟩, by omega⟩⟩
    have hne : os ≠ [] := by rintro rfl; simp at hk
    obtain rfl := hspot hne
    have hj8 : j < 8 := (List.getElem?_eq_some_iff.1 hj).1
    have h0 := (World.cells?_some (hos k o hk).1).2.2 j hj8
    rw [add_plain, add_plain] at h0
    exact h0.trans hj
end Go.Proofs.YtilhkbohemghlaaDoor
