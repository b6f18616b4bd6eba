/-
  Layer 8's rows that came in: Steps, texts, bools.
-/
import Derived.Test.YtnnkibhlildojaaDoorGStepQ5
import Derived.Test.YtnnkibhlildojaaDoorRecsQ5
import Derived.Deep.Slices
import Derived.OpenShut
import Derived.Lib.SmallJoins
namespace Go.Proofs.YtnnkibhlildojaaDoor
open Go.ChangeShapes Go.WideShapes Go.ChangeAt Go.RowKit
set_option maxRecDepth 100000

theorem cellsBool : Tryd.prog.cellsOf 4 = 1 := by kernel_rfl
theorem cellsBools : Tryd.prog.cellsOf 44 = 1 := by kernel_rfl
theorem cellsFate : Tryd.prog.cellsOf 46 = 3 := by kernel_rfl
theorem cellsStep8 : Tryd.prog.cellsOf 51 = 6 := by kernel_rfl
theorem bytesStep8 : Tryd.prog.bytesOf 51 = 72 := by kernel_rfl
theorem bytesStr : Tryd.prog.bytesOf 9 = 16 := by kernel_rfl

/-- A []bool that came in. -/
theorem bools_of_trod8 {H : Type} {enc : TypeId × Value → H} {W : World} {fuel : Nat} {c : Value} {y : DataW H × List MemPlace} (h : DataW.trod enc Tryd.prog W 0 (fun _ => true) true fuel 44 [c] = some y) : ∃ l, Bools W c l := by
  rcases Go.Deep.open_slice Tryd.underlying44 h with ⟨hcs, _⟩ | ⟨ad, len, cap, m, n, D, Pl, hcs, _, hl, hm, hmc, hx, hel⟩
  · simp at hcs
    subst hcs
    exact ⟨[], ⟨none, 0, rfl, fun k x hx => by simp at hx⟩⟩
  · simp at hcs
    subst hcs
    simp only [if_true] at hmc
    rw [cellsBool] at hel
    have hone : ∀ k, k < len → ∃ b : Bool, W.cell? (ad.add k) = some (.bool b) := by
      intro k hk
      obtain ⟨cs', hcs', ht⟩ := hel k (by omega)
      obtain ⟨_, hcl, hat⟩ := World.cells?_some hcs'
      match cs', hcl with
      | [c0], _ =>
        obtain ⟨b, e, _⟩ := DataW.trod_bool Tryd.underlying4 ht
        simp at e
        subst e
        have := hat 0 (by omega)
        exact ⟨b, by simpa [Addr.add] using this⟩
    obtain ⟨b, off, spot⟩ := ad
    have hch : ∃ l : List Bool, l.length = len ∧ ∀ (k : Nat) (x : Bool), l[k]? = some x → W.cell? ((⟨b, off, spot⟩ : Addr).add k) = some (.bool x) := by
      clear hx hel hm hmc hl h
      induction len with
      | zero => exact ⟨[], rfl, fun k x hx => by simp at hx⟩
      | succ q ih =>
        obtain ⟨l, h1, h2⟩ := ih (fun k hk => hone k (by omega))
        obtain ⟨x, hx⟩ := hone q (by omega)
        refine ⟨l ++ [x], by simp [h1], fun k y hy => ?_⟩
        by_cases hkl : k < l.length
        · rw [List.getElem?_append_left hkl] at hy; exact h2 k y hy
        · rw [List.getElem?_append_right (by omega)] at hy
          obtain ⟨q1, q2⟩ := List.getElem?_eq_some_iff.1 hy
          have : k - l.length = 0 := by simpa using q1
          simp [this] at q2
          subst q2
          obtain rfl : k = q := by omega
          exact hx
    obtain ⟨l, hll, hlc⟩ := hch
    refine ⟨l, ⟨some ⟨b, off, spot⟩, cap, by rw [hll], fun k x hx => ?_⟩⟩
    have hc := hlc k x hx
    have hl0 : 0 < l.length := by have := (List.getElem?_eq_some_iff.1 hx).1; omega
    have hc0 := hlc 0 l[0] (List.getElem?_eq_getElem hl0)
    have hsp : spot = none := by simpa [Addr.add] using World.cell?_spot hc0
    subst hsp
    rw [add_plain] at hc
    exact ⟨b, off, rfl, hc⟩

/-- A Fate's three cells. -/
theorem fate_of_trod8 {H : Type} {enc : TypeId × Value → H} {W : World} {fuel : Nat} {cs : List Value} {x : DataW H × List MemPlace} (hf : DataW.trod enc Tryd.prog W 0 (fun _ => true) true fuel 46 cs = some x) :
    ∃ (kv : Value) (f : FT), cs = [kv, .int .i64 f.torn, .int .i64 f.bytes] ∧ Bools W kv f.kept := by
  obtain ⟨xs, n, _, hx, hcl, hxl, hel⟩ := DataW.trod_struct Tryd.underlying46 hf
  have hl : cs.length = 3 := by rw [hcl, cellsFate]
  match cs, hl with
  | [c0, c1, c2], _ =>
  have hx3 : xs.length = 3 := hxl
  match xs, hx3 with
  | [y0, y1, y2], _ =>
  have t0 : DataW.trod enc Tryd.prog W 0 (fun _ => true) true n 44 (([c0, c1, c2].drop 0).take (Tryd.prog.cellsOf 44)) = some y0 := hel 0 _ rfl
  have t1 : DataW.trod enc Tryd.prog W 0 (fun _ => true) true n 3 (([c0, c1, c2].drop 1).take (Tryd.prog.cellsOf 3)) = some y1 := hel 1 _ rfl
  have t2 : DataW.trod enc Tryd.prog W 0 (fun _ => true) true n 3 (([c0, c1, c2].drop 2).take (Tryd.prog.cellsOf 3)) = some y2 := hel 2 _ rfl
  rw [cellsBools] at t0
  rw [cellsInt] at t1 t2
  simp only [List.drop_zero, List.drop_succ_cons, List.take_succ_cons, List.take_zero] at t0 t1 t2
  obtain ⟨z1, e1, rfl, _⟩ := DataW.trod_int Tryd.underlying3 t1
  obtain ⟨z2, e2, rfl, _⟩ := DataW.trod_int Tryd.underlying3 t2
  simp only [List.cons.injEq, and_true] at e1 e2
  subst e1 e2 hx
  obtain ⟨l, hB⟩ := bools_of_trod8 t0
  exact ⟨c0, ⟨l, z1, z2⟩, rfl, hB⟩

/-- One Step's cells that came in. -/
theorem step_of_trod {H : Type} {enc : TypeId × Value → H} {W : World} (fuel : Nat) (cs : List Value) (x : DataW H × List MemPlace) (hf : DataW.trod enc Tryd.prog W 0 (fun _ => true) true fuel 51 cs = some x) :
    ∃ o : StD, cs = o.list ∧ o.Ok W := by
  obtain ⟨xs, n, _, hx, hcl, hxl, hel⟩ := DataW.trod_struct Tryd.underlying51 hf
  have hl : cs.length = 6 := by rw [hcl, cellsStep8]
  match cs, hl with
  | [c0, c1, c2, c3, c4, c5], _ =>
  have hx4 : xs.length = 4 := hxl
  match xs, hx4 with
  | [y0, y1, y2, y3], _ =>
  have t0 : DataW.trod enc Tryd.prog W 0 (fun _ => true) true n 9 (([c0, c1, c2, c3, c4, c5].drop 0).take (Tryd.prog.cellsOf 9)) = some y0 := hel 0 _ rfl
  have t1 : DataW.trod enc Tryd.prog W 0 (fun _ => true) true n 3 (([c0, c1, c2, c3, c4, c5].drop 1).take (Tryd.prog.cellsOf 3)) = some y1 := hel 1 _ rfl
  have t2 : DataW.trod enc Tryd.prog W 0 (fun _ => true) true n 4 (([c0, c1, c2, c3, c4, c5].drop 2).take (Tryd.prog.cellsOf 4)) = some y2 := hel 2 _ rfl
  have t3 : DataW.trod enc Tryd.prog W 0 (fun _ => true) true n 46 (([c0, c1, c2, c3, c4, c5].drop 3).take (Tryd.prog.cellsOf 46)) = some y3 := hel 3 _ rfl
  rw [cellsStr] at t0
  rw [cellsInt] at t1
  rw [cellsBool] at t2
  rw [cellsFate] at t3
  simp only [List.drop_zero, List.drop_succ_cons, List.take_succ_cons, List.take_zero] at t0 t1 t2 t3
  obtain ⟨z0, e0, rfl, _⟩ := DataW.trod_string Tryd.underlying9 t0
  obtain ⟨z1, e1, rfl, w1⟩ := DataW.trod_int Tryd.underlying3 t1
  obtain ⟨z2, e2, rfl⟩ := DataW.trod_bool Tryd.underlying4 t2
  simp only [List.cons.injEq, and_true] at e0 e1 e2
  subst e0 e1 e2 hx
  obtain ⟨kv, f, e3, hB⟩ := fate_of_trod8 t3
  simp only [List.cons.injEq, and_true] at e3
  obtain ⟨rfl, rfl, rfl⟩ := e3
  have b1 := bounds_i64 w1
  exact ⟨⟨z0, z1, z2, c3, f⟩, rfl, ⟨b1.1, by show z1 ≤ 9223372036854775807; omega, hB⟩⟩

/-- One text's cell that came in. -/
theorem text_of_trod {H : Type} {enc : TypeId × Value → H} {W : World} (fuel : Nat) (cs : List Value) (x : DataW H × List MemPlace) (hf : DataW.trod enc Tryd.prog W 0 (fun _ => true) true fuel 9 cs = some x) :
    ∃ o : ByteArray, cs = [Value.string o] ∧ True := by
  obtain ⟨z0, e0, _⟩ := DataW.trod_string Tryd.underlying9 hf
  exact ⟨z0, e0, trivial⟩
end Go.Proofs.YtnnkibhlildojaaDoor
