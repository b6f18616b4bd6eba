/-
  Rows within what came in: each within reach; []bool, Fates.
  Layer 10's rows that came in: numbers, Lives.
  All errors of package api, in whatever order they are listed.
-/
import Derived.Test.YtggogaaooacooaaDoorP32
import Derived.Test.YtggogaaooacooaaDoorP13
import Derived.Deep.Slices
import Derived.OpenShut
import Derived.Lib.SmallJoins
import Derived.Test.YtggogaaooacooaaDoorP42
import Derived.Test.YtggogaaooacooaaDoorP09
namespace Go.Proofs.YtggogaaooacooaaDoor
open Go.ChangeShapes Go.WideShapes Go.ChangeAt Go.RowKit
set_option maxRecDepth 100000

theorem cellsBool9 : Tryd.prog.cellsOf 4 = 1 := by kernel_rfl
theorem bytesBool9 : Tryd.prog.bytesOf 4 = 1 := by kernel_rfl
theorem cellsBools9 : Tryd.prog.cellsOf 38 = 1 := by kernel_rfl
theorem cellsFate9 : Tryd.prog.cellsOf 40 = 3 := by kernel_rfl
/-- Each of its rows and texts is within reach. -/
def Reach {H : Type} (t : TypeId) (d : DataW H) : Prop := ∀ n ∈ d.weights Tryd.prog t, n ≤ reachBytes
theorem weights_all {H : Type} {P : Program} {e : TypeId} : ∀ {l : List (DataW H)} {d : DataW H}, d ∈ l → ∀ n ∈ d.weights P e, n ∈ DataW.weightsAll P e l
  | [], _, h, _, _ => by cases h
  | x :: r, d, h, n, hn => by
    simp only [DataW.weightsAll, List.mem_append]
    rcases List.mem_cons.1 h with rfl | h
    · exact .inl hn
    · exact .inr (weights_all h n hn)
theorem Reach.each {H : Type} {ts : List TypeId} {ds : List (DataW H)} (h : (DataW.weightsEach Tryd.prog ts ds).all (· ≤ reachBytes) = true) {j : Nat} {t : TypeId} {d : DataW H} (ht : ts[j]? = some t) (hd : ds[j]? = some d) : Reach t d := fun n hn => by
  have := List.all_eq_true.1 h _ (DataW.weights_mem_each ht hd n hn)
  simpa using this
theorem Reach.slice {H : Type} {t e : TypeId} {l spare : List (DataW H)} (hu : Tryd.prog.underlying t = some (.slice e)) (h : Reach t (.slice l spare)) : l.length * Tryd.prog.bytesOf e ≤ reachBytes ∧ ∀ d ∈ l, Reach e d := by
  unfold Reach at h
  simp only [DataW.weights, hu, List.mem_cons, List.mem_append] at h
  refine ⟨?_, fun d hd n hn => h n (.inr (.inl (weights_all hd n hn)))⟩
  have := h _ (.inl rfl)
  have h2 := Nat.mul_le_mul_right (Tryd.prog.bytesOf e) (Nat.le_add_right l.length spare.length)
  omega
theorem Reach.part {H : Type} {t : TypeId} {fs : Array Field} {ps : List (DataW H)} (hu : Tryd.prog.underlying t = some (.struct fs)) (h : Reach t (.agg ps)) {j : Nat} {f : Field} {d : DataW H} (hf : fs[j]? = some f) (hd : ps[j]? = some d) : Reach f.type d := fun n hn => by
  unfold Reach at h
  simp only [DataW.weights, hu] at h
  exact h n (DataW.weights_mem_each (t := f.type) (by simp [hf]) hd n hn)

/-- A []bool that came in. -/
theorem bools_of_trod9 {H : Type} {enc : TypeId × Value → H} {W : World} {fuel : Nat} {c : Value} {y : DataW H × List MemPlace} (h : DataW.trod enc Tryd.prog W 0 (fun _ => true) true fuel 38 [c] = some y) (hw : Reach 38 y.1) : ∃ l, Bools W c l ∧ l.length ≤ 140737488355328 := by
  rcases Go.Deep.open_slice Tryd.underlying38 h with ⟨hcs, _⟩ | ⟨ad, len, cap, m, n, D, Pl, hcs, _, hl, hm, hmc, hx, hel⟩
  · simp at hcs
    subst hcs
    exact ⟨[], ⟨none, 0, rfl, fun k x hx => by simp at hx⟩, by simp⟩
  · simp at hcs
    subst hcs
    simp only [if_true] at hmc
    rw [cellsBool9] at hel
    rw [hx] at hw
    have hlen := (hw.slice Tryd.underlying38).1
    rw [bytesBool9] at hlen
    simp only [List.length_map, List.length_range] at hlen
    unfold reachBytes at hlen
    have hone : ∀ k, k < len → ∃ b : Bool, W.cell? (ad.add k) = some (.bool b) := by
      intro k hk
      obtain ⟨cs', hcs', ht⟩ := hel k (by omega)
      obtain ⟨_, hcl, hat⟩ := World.cells?_some hcs'
      match cs', hcl with
      | [c0], _ =>
        obtain ⟨b, e, _⟩ := DataW.trod_bool Tryd.underlying4 ht
        simp at e
        subst e
        have := hat 0 (by omega)
        exact ⟨b, by simpa [Addr.add] using this⟩
    obtain ⟨b, off, spot⟩ := ad
    have hch : ∃ l : List Bool, l.length = len ∧ ∀ (k : Nat) (x : Bool), l[k]? = some x → W.cell? ((⟨b, off, spot⟩ : Addr).add k) = some (.bool x) := by
      clear hlen hw hx hel hm hmc hl h
      induction len with
      | zero => exact ⟨[], rfl, fun k x hx => by simp at hx⟩
      | succ q ih =>
        obtain ⟨l, h1, h2⟩ := ih (fun k hk => hone k (by omega))
        obtain ⟨x, hx⟩ := hone q (by omega)
        refine ⟨l ++ [x], by simp [h1], fun k y hy => ?_⟩
        by_cases hkl : k < l.length
        · rw [List.getElem?_append_left hkl] at hy; exact h2 k y hy
        · rw [List.getElem?_append_right (by omega)] at hy
          obtain ⟨q1, q2⟩ := List.getElem?_eq_some_iff.1 hy
          have : k - l.length = 0 := by simpa using q1
          simp [this] at q2
          subst q2
          obtain rfl : k = q := by omega
          exact hx
    obtain ⟨l, hll, hlc⟩ := hch
    refine ⟨l, ⟨some ⟨b, off, spot⟩, cap, by rw [hll], fun k x hx => ?_⟩, by omega⟩
    have hc := hlc k x hx
    have hl0 : 0 < l.length := by have := (List.getElem?_eq_some_iff.1 hx).1; omega
    have hc0 := hlc 0 l[0] (List.getElem?_eq_getElem hl0)
    have hsp : spot = none := by simpa [Addr.add] using World.cell?_spot hc0
    subst hsp
    rw [add_plain] at hc
    exact ⟨b, off, rfl, hc⟩

/-- A Fate's three cells. -/
theorem fate_of_trod9 {H : Type} {enc : TypeId × Value → H} {W : World} {fuel : Nat} {cs : List Value} {x : DataW H × List MemPlace} (hf : DataW.trod enc Tryd.prog W 0 (fun _ => true) true fuel 40 cs = some x) (hw : Reach 40 x.1) :
    ∃ (kv : Value) (f : FT), cs = [kv, .int .i64 f.torn, .int .i64 f.bytes] ∧ Bools W kv f.kept ∧ f.kept.length ≤ 140737488355328 := by
  obtain ⟨xs, n, _, hx, hcl, hxl, hel⟩ := DataW.trod_struct Tryd.underlying40 hf
  have hl : cs.length = 3 := by rw [hcl, cellsFate9]
  match cs, hl with
  | [c0, c1, c2], _ =>
  have hx3 : xs.length = 3 := hxl
  match xs, hx3 with
  | [y0, y1, y2], _ =>
  have t0 : DataW.trod enc Tryd.prog W 0 (fun _ => true) true n 38 (([c0, c1, c2].drop 0).take (Tryd.prog.cellsOf 38)) = some y0 := hel 0 _ rfl
  have t1 : DataW.trod enc Tryd.prog W 0 (fun _ => true) true n 3 (([c0, c1, c2].drop 1).take (Tryd.prog.cellsOf 3)) = some y1 := hel 1 _ rfl
  have t2 : DataW.trod enc Tryd.prog W 0 (fun _ => true) true n 3 (([c0, c1, c2].drop 2).take (Tryd.prog.cellsOf 3)) = some y2 := hel 2 _ rfl
  rw [cellsBools9] at t0
  rw [cellsInt] at t1 t2
  rw [hx] at hw
  have hw0 : Reach 38 y0.1 := hw.part Tryd.underlying40 (j := 0) rfl rfl
  simp only [List.drop_zero, List.drop_succ_cons, List.take_succ_cons, List.take_zero] at t0 t1 t2
  obtain ⟨z1, e1, rfl, _⟩ := DataW.trod_int Tryd.underlying3 t1
  obtain ⟨z2, e2, rfl, _⟩ := DataW.trod_int Tryd.underlying3 t2
  simp only [List.cons.injEq, and_true] at e1 e2
  subst e1 e2
  obtain ⟨l, hB, hl2⟩ := bools_of_trod9 t0 hw0
  exact ⟨c0, ⟨l, z1, z2⟩, rfl, hB, hl2⟩
end Go.Proofs.YtggogaaooacooaaDoor
namespace Go.Proofs.YtggogaaooacooaaDoor
open Go.ChangeShapes Go.WideShapes Go.ChangeAt Go.RowKit
set_option maxRecDepth 100000

theorem cellsIntJ : Tryd.prog.cellsOf 3 = 1 := by kernel_rfl
theorem bytesIntJ : Tryd.prog.bytesOf 3 = 8 := by kernel_rfl
theorem cellsIntsJ : Tryd.prog.cellsOf 62 = 1 := by kernel_rfl
theorem cellsLifeJ : Tryd.prog.cellsOf 64 = 7 := by kernel_rfl
theorem bytesLifeJ : Tryd.prog.bytesOf 64 = 104 := by kernel_rfl
/-- A []int that came in. -/
theorem nums_of_trod {H : Type} {enc : TypeId × Value → H} {W : World} {fuel : Nat} {c : Value} {y : DataW H × List MemPlace} (h : DataW.trod enc Tryd.prog W 0 (fun _ => true) true fuel 62 [c] = some y) (hw : Reach 62 y.1) : ∃ l, Nums W c l ∧ l.length ≤ 140737488355328 := by
  rcases Go.Deep.open_slice Tryd.underlying62 h with ⟨hcs, _⟩ | ⟨ad, len, cap, m, n, D, Pl, hcs, _, hl, hm, hmc, hx, hel⟩
  · simp at hcs
    subst hcs
    exact ⟨[], ⟨none, 0, rfl, fun k x hx => by simp at hx⟩, by simp⟩
  · simp at hcs
    subst hcs
    simp only [if_true] at hmc
    rw [cellsIntJ] at hel
    rw [hx] at hw
    have hlen := (hw.slice Tryd.underlying62).1
    rw [bytesIntJ] at hlen
    simp only [List.length_map, List.length_range] at hlen
    unfold reachBytes at hlen
    have hone : ∀ k, k < len → ∃ b : Int, W.cell? (ad.add k) = some (.int .i64 b) := by
      intro k hk
      obtain ⟨cs', hcs', ht⟩ := hel k (by omega)
      obtain ⟨_, hcl, hat⟩ := World.cells?_some hcs'
      match cs', hcl with
      | [c0], _ =>
        obtain ⟨b, e, _⟩ := DataW.trod_int Tryd.underlying3 ht
        simp at e
        subst e
        have := hat 0 (by omega)
        exact ⟨b, by simpa [Addr.add] using this⟩
    obtain ⟨b, off, spot⟩ := ad
    have hch : ∃ l : List Int, l.length = len ∧ ∀ (k : Nat) (x : Int), l[k]? = some x → W.cell? ((⟨b, off, spot⟩ : Addr).add k) = some (.int .i64 x) := by
      clear hlen hw hx hel hm hmc hl h
      induction len with
      | zero => exact ⟨[], rfl, fun k x hx => by simp at hx⟩
      | succ q ih =>
        obtain ⟨l, h1, h2⟩ := ih (fun k hk => hone k (by omega))
        obtain ⟨x, hx⟩ := hone q (by omega)
        refine ⟨l ++ [x], by simp [h1], fun k y hy => ?_⟩
        by_cases hkl : k < l.length
        · rw [List.getElem?_append_left hkl] at hy; exact h2 k y hy
        · rw [List.getElem?_append_right (by omega)] at hy
          obtain ⟨q1, q2⟩ := List.getElem?_eq_some_iff.1 hy
          have : k - l.length = 0 := by simpa using q1
          simp [this] at q2
          subst q2
          obtain rfl : k = q := by omega
          exact hx
    obtain ⟨l, hll, hlc⟩ := hch
    refine ⟨l, ⟨some ⟨b, off, spot⟩, cap, by rw [hll], fun k x hx => ?_⟩, by omega⟩
    have hc := hlc k x hx
    have hl0 : 0 < l.length := by have := (List.getElem?_eq_some_iff.1 hx).1; omega
    have hc0 := hlc 0 l[0] (List.getElem?_eq_getElem hl0)
    have hsp : spot = none := by simpa [Addr.add] using World.cell?_spot hc0
    subst hsp
    rw [add_plain] at hc
    exact ⟨b, off, rfl, hc⟩
/-- One Life's cells that came in. -/
theorem life_of_trod {H : Type} {enc : TypeId × Value → H} {W : World} (fuel : Nat) (cs : List Value) (x : DataW H × List MemPlace) (hf : DataW.trod enc Tryd.prog W 0 (fun _ => true) true fuel 64 cs = some x) (hw : Reach 64 x.1) :
    ∃ o : LfV, cs = o.list ∧ o.Ok W := by
  obtain ⟨xs, n, _, hx, hcl, hxl, hel⟩ := DataW.trod_struct Tryd.underlying64 hf
  have hl : cs.length = 7 := by rw [hcl, cellsLifeJ]
  match cs, hl with
  | [c0, c1, c2, c3, c4, c5, c6], _ =>
  have hx5 : xs.length = 5 := hxl
  match xs, hx5 with
  | [y0, y1, y2, y3, y4], _ =>
  have t0 : DataW.trod enc Tryd.prog W 0 (fun _ => true) true n 3 (([c0, c1, c2, c3, c4, c5, c6].drop 0).take (Tryd.prog.cellsOf 3)) = some y0 := hel 0 _ rfl
  have t1 : DataW.trod enc Tryd.prog W 0 (fun _ => true) true n 62 (([c0, c1, c2, c3, c4, c5, c6].drop 1).take (Tryd.prog.cellsOf 62)) = some y1 := hel 1 _ rfl
  have t2 : DataW.trod enc Tryd.prog W 0 (fun _ => true) true n 38 (([c0, c1, c2, c3, c4, c5, c6].drop 2).take (Tryd.prog.cellsOf 38)) = some y2 := hel 2 _ rfl
  have t3 : DataW.trod enc Tryd.prog W 0 (fun _ => true) true n 3 (([c0, c1, c2, c3, c4, c5, c6].drop 3).take (Tryd.prog.cellsOf 3)) = some y3 := hel 3 _ rfl
  have t4 : DataW.trod enc Tryd.prog W 0 (fun _ => true) true n 40 (([c0, c1, c2, c3, c4, c5, c6].drop 4).take (Tryd.prog.cellsOf 40)) = some y4 := hel 4 _ rfl
  rw [cellsIntJ] at t0 t3
  rw [cellsIntsJ] at t1
  rw [cellsBools9] at t2
  rw [cellsFate9] at t4
  rw [hx] at hw
  have hw1 : Reach 62 y1.1 := hw.part Tryd.underlying64 (j := 1) rfl rfl
  have hw2 : Reach 38 y2.1 := hw.part Tryd.underlying64 (j := 2) rfl rfl
  have hw4 : Reach 40 y4.1 := hw.part Tryd.underlying64 (j := 4) rfl rfl
  simp only [List.drop_zero, List.drop_succ_cons, List.take_succ_cons, List.take_zero] at t0 t1 t2 t3 t4
  obtain ⟨z0, e0, rfl, _⟩ := DataW.trod_int Tryd.underlying3 t0
  obtain ⟨z3, e3, rfl, w3⟩ := DataW.trod_int Tryd.underlying3 t3
  simp only [List.cons.injEq, and_true] at e0 e3
  subst e0 e3
  obtain ⟨xl, hX, hXl⟩ := nums_of_trod t1 hw1
  obtain ⟨bl, hB, hBl⟩ := bools_of_trod9 t2 hw2
  obtain ⟨kv, f, e4, hK, _⟩ := fate_of_trod9 t4 hw4
  simp only [List.cons.injEq, and_true] at e4
  obtain ⟨rfl, rfl, rfl⟩ := e4
  have b3 := bounds_i64 w3
  exact ⟨⟨z0, c1, xl, c2, bl, z3, c4, f⟩, rfl, ⟨hX, hXl, hB, hBl, by show z3 ≤ 9223372036854775807; omega, hK⟩⟩
/-- The Lives that came in. -/
theorem livesJ_of_trod {H : Type} {enc : TypeId × Value → H} {W : World} {fuel : Nat} {c : Value} {y : DataW H × List MemPlace} (h : DataW.trod enc Tryd.prog W 0 (fun _ => true) true fuel 61 [c] = some y) (hw : Reach 61 y.1) :
    ∃ (g off : Nat) (os : List LfV), (∀ (k : Nat) (o : LfV), os[k]? = some o → o.Ok W) ∧ Recs 7 LfV.list W c g off os := by
  obtain ⟨g, off, os, h1, h2, h3⟩ := open_recsQ (Q := Reach 64) (f := LfV.list) (P := LfV.Ok W) Tryd.underlying61 cellsLifeJ (by decide) (fun _ => rfl) life_of_trod h (fun l spare e => by rw [e] at hw; exact (hw.slice Tryd.underlying61).2)
  refine ⟨g, off, os, h1, h2 ?_⟩
  rcases h3 with ⟨_, rfl⟩ | ⟨l, spare, e, hl⟩
  · simp
  · rw [e] at hw
    have := (hw.slice Tryd.underlying61).1
    rw [bytesLifeJ, hl] at this
    unfold reachBytes at this
    omega
end Go.Proofs.YtggogaaooacooaaDoor
namespace Go.Proofs.YtggogaaooacooaaDoor
open Go.ChangeShapes Go.WideShapes Go.ChangeAt Go.RowKit
set_option maxRecDepth 100000

/-- All the errors, in whatever order they are listed. -/
theorem errs_of_list {W : World} (L : List (String × List UInt8)) (gs : List Nat) (hg : L.map (fun x => Tryd.prog.globalNamed x.1) = gs.map some) (ht : (gs.all fun g => decide ((Tryd.prog.globals[g]?).map (·.type) = some 26)) = true)
    (hall : (gErrs.all fun g => gs.contains g) = true) (hnd0 : gErrs.Nodup) (h : laidMet Tryd.prog (L.map fun x => (x.1, errD x.2)) W) : ∃ ad, Errs ad W := by
  obtain ⟨ps, hv, hnd, hrows⟩ := h
  obtain ⟨al, hl, h1, _, h3⟩ := laid_errs hrows L gs ps (fun _ h => h) hnd hg (fun g hg => of_decide_eq_true (List.all_eq_true.1 ht g hg)) hv
  have hlen : gErrs.length = 37 := rfl
  have pos : ∀ i, i < 37 → gs[gs.idxOf (gErrs.getD i 0)]? = some (gErrs.getD i 0) ∧ al[gs.idxOf (gErrs.getD i 0)]? = some (al.getD (gs.idxOf (gErrs.getD i 0)) default) := by
    intro i hi
    have hm : gErrs.getD i 0 ∈ gErrs := by rw [List.getD_eq_getElem?_getD, List.getElem?_eq_getElem (by omega)]; exact List.getElem_mem _
    have hm2 : gErrs.getD i 0 ∈ gs := List.contains_iff_mem.1 (List.all_eq_true.1 hall _ hm)
    have hlt := List.idxOf_lt_length_of_mem hm2
    refine ⟨by rw [List.getElem?_eq_getElem hlt]; simp, ?_⟩
    generalize gs.idxOf (gErrs.getD i 0) = x at *
    rw [List.getD_eq_getElem?_getD, List.getElem?_eq_getElem (by omega)]; rfl
  refine ⟨fun n => al.getD (gs.idxOf (gErrs.getD (n - 1) 0)) default, fun i g hgi => ?_, fun i j hi hj he => ?_, fun i hi => ?_⟩
  · have hi : i < 37 := (List.getElem?_eq_some_iff.1 hgi).1
    have e : gErrs.getD i 0 = g := by rw [List.getD_eq_getElem?_getD, hgi]; rfl
    obtain ⟨p1, p2⟩ := pos i hi
    simp only [Nat.add_sub_cancel]
    rw [e] at p1 p2 ⊢
    exact (h1 _ g _ p1 p2).1
  · simp only [Nat.add_sub_cancel] at he
    obtain ⟨p1, p2⟩ := pos i hi
    obtain ⟨q1, q2⟩ := pos j hj
    rw [← he] at q2
    have hidx : gs.idxOf (gErrs.getD i 0) = gs.idxOf (gErrs.getD j 0) := by
      refine (List.getElem?_inj (by rw [List.length_map]; exact (List.getElem?_eq_some_iff.1 p2).1) h3).1 ?_
      rw [List.getElem?_map, List.getElem?_map, p2, q2]
    rw [hidx, q1] at p1
    have hv := Option.some.inj p1
    refine ((List.getElem?_inj (by omega) hnd0).1 ?_).symm
    rw [List.getElem?_eq_getElem (show j < gErrs.length by omega), List.getElem?_eq_getElem (show i < gErrs.length by omega)]
    rw [List.getD_eq_getElem?_getD, List.getD_eq_getElem?_getD, List.getElem?_eq_getElem (show j < gErrs.length by omega), List.getElem?_eq_getElem (show i < gErrs.length by omega)] at hv
    simpa using hv
  · obtain ⟨p1, p2⟩ := pos i hi
    simp only [Nat.add_sub_cancel]
    exact (h1 _ _ _ p1 p2).2
/-- The errors and their texts, by their numbers: rows list them so. -/
def errTexts : List (String × List UInt8) := [
  ("remit/api.ErrShort", [114, 101, 109, 105, 116, 58, 32, 116, 111, 111, 32, 115, 104, 111, 114, 116]),
  ("remit/api.ErrVarint", [114, 101, 109, 105, 116, 58, 32, 118, 97, 114, 105, 110, 116]),
  ("remit/api.ErrLimit", [114, 101, 109, 105, 116, 58, 32, 108, 105, 109, 105, 116]),
  ("remit/api.ErrOrder", [114, 101, 109, 105, 116, 58, 32, 111, 114, 100, 101, 114]),
  ("remit/api.ErrTail", [114, 101, 109, 105, 116, 58, 32, 116, 97, 105, 108]),
  ("remit/api.ErrRange", [114, 101, 109, 105, 116, 58, 32, 114, 97, 110, 103, 101]),
  ("remit/api.ErrForm", [114, 101, 109, 105, 116, 58, 32, 102, 111, 114, 109]),
  ("remit/api.ErrDigits", [114, 101, 109, 105, 116, 58, 32, 99, 104, 101, 99, 107, 32, 100, 105, 103, 105, 116, 115]),
  ("remit/api.ErrAmount", [114, 101, 109, 105, 116, 58, 32, 97, 109, 111, 117, 110, 116]),
  ("remit/api.ErrOverflow", [114, 101, 109, 105, 116, 58, 32, 111, 118, 101, 114, 102, 108, 111, 119]),
  ("remit/api.ErrCurrency", [114, 101, 109, 105, 116, 58, 32, 99, 117, 114, 114, 101, 110, 99, 121]),
  ("remit/api.ErrDown", [114, 101, 109, 105, 116, 58, 32, 100, 111, 119, 110]),
  ("remit/api.ErrSmall", [114, 101, 109, 105, 116, 58, 32, 115, 109, 97, 108, 108]),
  ("remit/api.ErrBlank", [114, 101, 109, 105, 116, 58, 32, 98, 108, 97, 110, 107]),
  ("remit/api.ErrCorrupt", [114, 101, 109, 105, 116, 58, 32, 99, 111, 114, 114, 117, 112, 116]),
  ("remit/api.ErrWorn", [114, 101, 109, 105, 116, 58, 32, 119, 111, 114, 110]),
  ("remit/api.ErrFull", [114, 101, 109, 105, 116, 58, 32, 102, 117, 108, 108]),
  ("remit/api.ErrLarge", [114, 101, 109, 105, 116, 58, 32, 108, 97, 114, 103, 101]),
  ("remit/api.ErrClosed", [114, 101, 109, 105, 116, 58, 32, 99, 108, 111, 115, 101, 100]),
  ("remit/api.ErrAccount", [114, 101, 109, 105, 116, 58, 32, 97, 99, 99, 111, 117, 110, 116]),
  ("remit/api.ErrExists", [114, 101, 109, 105, 116, 58, 32, 101, 120, 105, 115, 116, 115]),
  ("remit/api.ErrFrozen", [114, 101, 109, 105, 116, 58, 32, 102, 114, 111, 122, 101, 110]),
  ("remit/api.ErrFunds", [114, 101, 109, 105, 116, 58, 32, 102, 117, 110, 100, 115]),
  ("remit/api.ErrLegs", [114, 101, 109, 105, 116, 58, 32, 108, 101, 103, 115]),
  ("remit/api.ErrConflict", [114, 101, 109, 105, 116, 58, 32, 99, 111, 110, 102, 108, 105, 99, 116]),
  ("remit/api.ErrId", [114, 101, 109, 105, 116, 58, 32, 105, 100]),
  ("remit/api.ErrPayee", [114, 101, 109, 105, 116, 58, 32, 112, 97, 121, 101, 101]),
  ("remit/api.ErrRail", [114, 101, 109, 105, 116, 58, 32, 114, 97, 105, 108]),
  ("remit/api.ErrBusy", [114, 101, 109, 105, 116, 58, 32, 98, 117, 115, 121]),
  ("remit/api.ErrWindow", [114, 101, 109, 105, 116, 58, 32, 119, 105, 110, 100, 111, 119]),
  ("remit/api.ErrPhase", [114, 101, 109, 105, 116, 58, 32, 112, 104, 97, 115, 101]),
  ("remit/api.ErrToken", [114, 101, 109, 105, 116, 58, 32, 116, 111, 107, 101, 110]),
  ("remit/api.ErrTime", [114, 101, 109, 105, 116, 58, 32, 116, 105, 109, 101]),
  ("remit/api.ErrUnknown", [114, 101, 109, 105, 116, 58, 32, 117, 110, 107, 110, 111, 119, 110]),
  ("remit/api.ErrConfig", [114, 101, 109, 105, 116, 58, 32, 99, 111, 110, 102, 105, 103, 117, 114, 97, 116, 105, 111, 110]),
  ("remit/api.ErrCommand", [114, 101, 109, 105, 116, 58, 32, 99, 111, 109, 109, 97, 110, 100]),
  ("remit/api.ErrUse", [114, 101, 109, 105, 116, 58, 32, 105, 110, 32, 117, 115, 101])]
theorem errs_of_texts {W : World} (h : laidMet Tryd.prog (errTexts.map fun x => (x.1, errD x.2)) W) : ∃ ad, Errs ad W :=
  errs_of_list errTexts gErrs (by kernel_rfl) (by kernel_rfl) (by decide) (by decide) h
end Go.Proofs.YtggogaaooacooaaDoor
