/-
  A []Op, a Fate that came in.
-/
import Derived.Test.YtbifhnlinnokaaaDoorLArms
import Derived.Test.YtbifhnlinnokaaaDoorLaid
import Derived.Deep.Slices
import Derived.Deep.Grids
import Derived.Lib.SmallJoins
import Derived.OpenShut
namespace Go.Proofs.YtbifhnlinnokaaaDoor
open Go.ChangeShapes Go.WideShapes Go.ChangeAt Go.RowKit
set_option maxRecDepth 100000

theorem bulk_one {H : Type} (d : DataW H) : 1 ≤ Rows.uptoBulk d := by
  cases d with
  | lit l => cases l <;> simp [Rows.uptoBulk]
  | _ => simp [Rows.uptoBulk]
theorem bulk_len {H : Type} : ∀ l : List (DataW H), l.length ≤ Rows.uptoBulkAll l
  | [] => by simp [Rows.uptoBulkAll]
  | d :: r => by have := bulk_len r; have := bulk_one d; simp only [Rows.uptoBulkAll, List.length_cons]; omega
theorem bulk_mem {H : Type} : ∀ (l : List (DataW H)) (d : DataW H), d ∈ l → Rows.uptoBulk d ≤ Rows.uptoBulkAll l
  | [], _, h => by cases h
  | x :: r, d, h => by
    simp only [Rows.uptoBulkAll]
    rcases List.mem_cons.1 h with rfl | h
    · omega
    · have := bulk_mem r d h; omega

theorem cellsBool : Tryd.prog.cellsOf 4 = 1 := by kernel_rfl
theorem cellsInt : Tryd.prog.cellsOf 3 = 1 := by kernel_rfl
theorem cellsU8 : Tryd.prog.cellsOf 5 = 1 := by kernel_rfl
theorem cellsBools : Tryd.prog.cellsOf 40 = 1 := by kernel_rfl
theorem cellsFate : Tryd.prog.cellsOf 42 = 3 := by kernel_rfl
theorem cellsOp6 : Tryd.prog.cellsOf 44 = 7 := by kernel_rfl

theorem bools_of_trod {H : Type} {enc : TypeId × Value → H} {W : World} {fuel : Nat} {c : Value} {y : DataW H × List MemPlace} (h : DataW.trod enc Tryd.prog W 0 (fun _ => true) true fuel 40 [c] = some y) (hb : Rows.uptoBulk y.1 ≤ 1048576) : ∃ l, Bools W c l ∧ l.length ≤ 1048576 := by
  rcases Go.Deep.open_slice Tryd.underlying40 h with ⟨hcs, _⟩ | ⟨ad, len, cap, m, n, D, Pl, hcs, _, hl, hm, hmc, hx, hel⟩
  · simp at hcs
    subst hcs
    exact ⟨[], ⟨none, 0, rfl, by simp, fun k x hx => by simp at hx⟩, by simp⟩
  · simp at hcs
    subst hcs
    simp only [if_true] at hmc
    rw [cellsBool] at hel
    rw [hx] at hb
    simp only [Rows.uptoBulk] at hb
    have hlen := bulk_len ((List.range len).map D)
    simp only [List.length_map, List.length_range] at hlen
    have hone : ∀ k, k < len → ∃ b : Bool, W.cell? (ad.add k) = some (.bool b) := by
      intro k hk
      obtain ⟨cs', hcs', ht⟩ := hel k (by omega)
      obtain ⟨_, hcl, hat⟩ := World.cells?_some hcs'
      match cs', hcl with
      | [c0], _ =>
        obtain ⟨b, e, _⟩ := DataW.trod_bool Tryd.underlying4 ht
        simp at e
        subst e
        have := hat 0 (by omega)
        exact ⟨b, by simpa [Addr.add] using this⟩
    obtain ⟨b, off, spot⟩ := ad
    have hch : ∃ l : List Bool, l.length = len ∧ ∀ (k : Nat) (x : Bool), l[k]? = some x → W.cell? ((⟨b, off, spot⟩ : Addr).add k) = some (.bool x) := by
      clear hlen hb hx hel hm hmc hl h
      induction len with
      | zero => exact ⟨[], rfl, fun k x hx => by simp at hx⟩
      | succ q ih =>
        obtain ⟨l, h1, h2⟩ := ih (fun k hk => hone k (by omega))
        obtain ⟨x, hx⟩ := hone q (by omega)
        refine ⟨l ++ [x], by simp [h1], fun k y hy => ?_⟩
        by_cases hkl : k < l.length
        · rw [List.getElem?_append_left hkl] at hy; exact h2 k y hy
        · rw [List.getElem?_append_right (by omega)] at hy
          obtain ⟨q1, q2⟩ := List.getElem?_eq_some_iff.1 hy
          have : k - l.length = 0 := by simpa using q1
          simp [this] at q2
          subst q2
          obtain rfl : k = q := by omega
          exact hx
    obtain ⟨l, hll, hlc⟩ := hch
    refine ⟨l, ⟨some ⟨b, off, spot⟩, cap, by rw [hll], by omega, fun k x hx => ?_⟩, by omega⟩
    have hc := hlc k x hx
    have hl0 : 0 < l.length := by have := (List.getElem?_eq_some_iff.1 hx).1; omega
    have hc0 := hlc 0 l[0] (List.getElem?_eq_getElem hl0)
    have hsp : spot = none := by simpa [Addr.add] using World.cell?_spot hc0
    subst hsp
    rw [add_plain] at hc
    exact ⟨b, off, rfl, hc⟩

/-- A Fate's three cells. -/
theorem fate_of_trod {H : Type} {enc : TypeId × Value → H} {W : World} {fuel : Nat} {cs : List Value} {x : DataW H × List MemPlace} (hf : DataW.trod enc Tryd.prog W 0 (fun _ => true) true fuel 42 cs = some x) (hb : Rows.uptoBulk x.1 ≤ 1048576) :
    ∃ (kv : Value) (f : FT), cs = [kv, .int .i64 f.torn, .int .i64 f.bytes] ∧ Bools W kv f.kept ∧ f.kept.length ≤ 1048576 := by
  obtain ⟨xs, n, _, hx, hcl, hxl, hel⟩ := DataW.trod_struct Tryd.underlying42 hf
  have hl : cs.length = 3 := by rw [hcl, cellsFate]
  match cs, hl with
  | [c0, c1, c2], _ =>
  have hx3 : xs.length = 3 := hxl
  match xs, hx3 with
  | [y0, y1, y2], _ =>
  have t0 : DataW.trod enc Tryd.prog W 0 (fun _ => true) true n 40 (([c0, c1, c2].drop 0).take (Tryd.prog.cellsOf 40)) = some y0 := hel 0 _ rfl
  have t1 : DataW.trod enc Tryd.prog W 0 (fun _ => true) true n 3 (([c0, c1, c2].drop 1).take (Tryd.prog.cellsOf 3)) = some y1 := hel 1 _ rfl
  have t2 : DataW.trod enc Tryd.prog W 0 (fun _ => true) true n 3 (([c0, c1, c2].drop 2).take (Tryd.prog.cellsOf 3)) = some y2 := hel 2 _ rfl
  rw [cellsBools] at t0
  rw [cellsInt] at t1 t2
  simp only [List.drop_zero, List.drop_succ_cons, List.take_succ_cons, List.take_zero] at t0 t1 t2
  obtain ⟨z1, e1, rfl, _⟩ := DataW.trod_int Tryd.underlying3 t1
  obtain ⟨z2, e2, rfl, _⟩ := DataW.trod_int Tryd.underlying3 t2
  simp only [List.cons.injEq, and_true] at e1 e2
  subst e1 e2 hx
  simp only [List.map_cons, List.map_nil, Rows.uptoBulk, Rows.uptoBulkAll] at hb
  obtain ⟨l, hB⟩ := bools_of_trod t0 (by omega)
  exact ⟨c0, ⟨l, z1, z2⟩, rfl, hB⟩

/-- One Op's cells that came in. -/
theorem op_of_trod {H : Type} {enc : TypeId × Value → H} {W : World} {fuel : Nat} {cs : List Value} {x : DataW H × List MemPlace} (hf : DataW.trod enc Tryd.prog W 0 (fun _ => true) true fuel 44 cs = some x) (hb : Rows.uptoBulk x.1 ≤ 1048576) :
    ∃ o : OpD, cs = o.list ∧ o.Ok ∧ Bools W o.kv o.f.kept := by
  obtain ⟨xs, n, _, hx, hcl, hxl, hel⟩ := DataW.trod_struct Tryd.underlying44 hf
  have hl : cs.length = 7 := by rw [hcl, cellsOp6]
  match cs, hl with
  | [c0, c1, c2, c3, c4, c5, c6], _ =>
  have hx5 : xs.length = 5 := hxl
  match xs, hx5 with
  | [y0, y1, y2, y3, y4], _ =>
  have t0 : DataW.trod enc Tryd.prog W 0 (fun _ => true) true n 3 (([c0, c1, c2, c3, c4, c5, c6].drop 0).take (Tryd.prog.cellsOf 3)) = some y0 := hel 0 _ rfl
  have t1 : DataW.trod enc Tryd.prog W 0 (fun _ => true) true n 3 (([c0, c1, c2, c3, c4, c5, c6].drop 1).take (Tryd.prog.cellsOf 3)) = some y1 := hel 1 _ rfl
  have t2 : DataW.trod enc Tryd.prog W 0 (fun _ => true) true n 9 (([c0, c1, c2, c3, c4, c5, c6].drop 2).take (Tryd.prog.cellsOf 9)) = some y2 := hel 2 _ rfl
  have t3 : DataW.trod enc Tryd.prog W 0 (fun _ => true) true n 5 (([c0, c1, c2, c3, c4, c5, c6].drop 3).take (Tryd.prog.cellsOf 5)) = some y3 := hel 3 _ rfl
  have t4 : DataW.trod enc Tryd.prog W 0 (fun _ => true) true n 42 (([c0, c1, c2, c3, c4, c5, c6].drop 4).take (Tryd.prog.cellsOf 42)) = some y4 := hel 4 _ rfl
  rw [cellsInt] at t0 t1
  rw [cellsString] at t2
  rw [cellsU8] at t3
  rw [cellsFate] at t4
  simp only [List.drop_zero, List.drop_succ_cons, List.take_succ_cons, List.take_zero] at t0 t1 t2 t3 t4
  obtain ⟨z0, e0, rfl, w0⟩ := DataW.trod_int Tryd.underlying3 t0
  obtain ⟨z1, e1, rfl, w1⟩ := DataW.trod_int Tryd.underlying3 t1
  obtain ⟨z2, e2, rfl, _⟩ := DataW.trod_string Tryd.underlying9 t2
  obtain ⟨z3, e3, rfl, w3⟩ := DataW.trod_int Tryd.underlying5 t3
  simp only [List.cons.injEq, and_true] at e0 e1 e2 e3
  subst e0 e1 e2 e3 hx
  simp only [List.map_cons, List.map_nil, Rows.uptoBulk, Rows.uptoBulkAll] at hb
  obtain ⟨kv, f, e4, hB, hkl⟩ := fate_of_trod t4 (by omega)
  simp only [List.cons.injEq, and_true] at e4
  obtain ⟨rfl, rfl, rfl⟩ := e4
  have b0 := bounds_i64 w0
  have b1 := bounds_i64 w1
  have b3 := bounds_u8 w3
  have hz2 : z2.size = z2.data.toList.length := rfl
  refine ⟨⟨z0, z1, z2, z3.toNat.toUInt8, c4, f⟩, ?_, ⟨b0.1, b0.2, b1.1, b1.2, by simp only; omega, hkl⟩, hB⟩
  have e : ((z3.toNat.toUInt8.toNat : Nat) : Int) = z3 := by
    have : z3.toNat.toUInt8.toNat = z3.toNat := by simp; omega
    omega
  simp only [OpD.list, e]

theorem choose_list {α : Type} {Q : Nat → α → Prop} : ∀ (n : Nat), (∀ k, k < n → ∃ o, Q k o) → ∃ os : List α, os.length = n ∧ ∀ (k : Nat) (o : α), os[k]? = some o → Q k o
  | 0, _ => ⟨[], rfl, fun k o h => by simp at h⟩
  | n + 1, h => by
    obtain ⟨os, hl, ho⟩ := choose_list n (fun k hk => h k (by omega))
    obtain ⟨o, hq⟩ := h n (by omega)
    refine ⟨os ++ [o], by simp [hl], fun k o' hk => ?_⟩
    by_cases hkn : k < n
    · rw [List.getElem?_append_left (by omega)] at hk
      exact ho k o' hk
    · rw [List.getElem?_append_right (by omega)] at hk
      have hk0 : k - os.length = 0 := by
        have := (List.getElem?_eq_some_iff.1 hk).1
        simp at this
        omega
      rw [hk0] at hk
      simp at hk
      subst hk
      obtain rfl : k = n := by omega
      exact hq

/-- A []Op that came in. -/
theorem open_script {H : Type} {enc : TypeId × Value → H} {W : World} {fuel : Nat} {c : Value} {y : DataW H × List MemPlace} (h : DataW.trod enc Tryd.prog W 0 (fun _ => true) true fuel 22 [c] = some y) (hb : Rows.uptoBulk y.1 ≤ 1048576) :
    ∃ (g off : Nat) (os : List OpD), Script W c g off os := by
  rcases Go.Deep.open_slice Tryd.underlying22 h with ⟨hcs, hx⟩ | ⟨a, len, cap, m, n, D, Pl, hcs, _, hl, hm, hmc, hx, hel⟩
  · simp at hcs
    subst hcs
    exact ⟨0, 0, [], ⟨⟨none, 0, rfl, fun h => absurd rfl h⟩, by simp, fun k o hk => by simp at hk, fun k o hk => by simp at hk⟩⟩
  · simp at hcs
    subst hcs
    simp only [if_true] at hmc
    rw [cellsOp6] at hel
    rw [hx] at hb
    simp only [Rows.uptoBulk] at hb
    obtain ⟨b, off, spot⟩ := a
    have hlen := bulk_len ((List.range len).map D)
    simp only [List.length_map, List.length_range] at hlen
    have hpart : ∀ k, k < len → Rows.uptoBulk (D k) ≤ 1048576 := by
      intro k hk
      have := bulk_mem ((List.range len).map D) (D k) (List.mem_map_of_mem (List.mem_range.2 hk))
      omega
    have hone : ∀ k, k < len → ∃ o : OpD, W.cells? 0 ((⟨b, off, spot⟩ : Addr).add (k * 7)) 7 = some o.list ∧ o.Ok ∧ Bools W o.kv o.f.kept := by
      intro k hk
      obtain ⟨cs', hcs', ht⟩ := hel k (by omega)
      obtain ⟨o, rfl, h1, h2⟩ := op_of_trod ht (hpart k hk)
      exact ⟨o, hcs', h1, h2⟩
    obtain ⟨os, hol, hos⟩ := choose_list len hone
    have hspot : os ≠ [] → spot = none := by
      intro hne
      obtain ⟨o, r, rfl⟩ := List.exists_cons_of_ne_nil hne
      have h0 := (World.cells?_some (hos 0 o rfl).1).2.2 0 (by omega)
      have h1 : W.cell? (((⟨b, off, spot⟩ : Addr).add (0 * 7)).add 0) = some (.int .i64 o.kind) := h0
      simpa [Addr.add] using World.cell?_spot h1
    refine ⟨b, off, os, ⟨⟨some ⟨b, off, spot⟩, cap, by rw [hol], fun hne => by rw [hspot hne]⟩, by omega, fun k o hk j u hj => ?_, fun k o hk => (hos k o hk).2⟩⟩
    have hne : os ≠ [] := by rintro rfl; simp at hk
    obtain rfl := hspot hne
    have hj7 : j < 7 := (List.getElem?_eq_some_iff.1 hj).1
    have h0 := (World.cells?_some (hos k o hk).1).2.2 j hj7
    rw [add_plain, add_plain] at h0
    exact h0.trans hj
end Go.Proofs.YtbifhnlinnokaaaDoor
