/-
  All errors of package api, in whatever order they are listed.
  The table of package checks, out of a row's list.
  Arguments of five and of seven parameters, read one by one.
-/
import Derived.Test.YtggogaaooacooaaDoorP32
import Derived.Test.YtggogaaooacooaaDoorP08
import Derived.Test.YtggogaaooacooaaDoorP22
import Derived.Carry
namespace Go.Proofs.YtggogaaooacooaaDoor
open Go.ChangeShapes Go.WideShapes Go.ChangeAt Go.RowKit
set_option maxRecDepth 100000

/-- All the errors, in whatever order they are listed. -/
theorem errs_of_list {W : World} (L : List (String × List UInt8)) (gs : List Nat) (hg : L.map (fun x => Tryd.prog.globalNamed x.1) = gs.map some) (ht : (gs.all fun g => decide ((Tryd.prog.globals[g]?).map (·.type) = some 26)) = true)
    (hall : (gErrs.all fun g => gs.contains g) = true) (hnd0 : gErrs.Nodup) (h : laidMet Tryd.prog (L.map fun x => (x.1, errD x.2)) W) : ∃ ad, Errs ad W := by
  obtain ⟨ps, hv, hnd, hrows⟩ := h
  obtain ⟨al, hl, h1, _, h3⟩ := laid_errs hrows L gs ps (fun _ h => h) hnd hg (fun g hg => of_decide_eq_true (List.all_eq_true.1 ht g hg)) hv
  have hlen : gErrs.length = 37 := rfl
  have pos : ∀ i, i < 37 → gs[gs.idxOf (gErrs.getD i 0)]? = some (gErrs.getD i 0) ∧ al[gs.idxOf (gErrs.getD i 0)]? = some (al.getD (gs.idxOf (gErrs.getD i 0)) default) := by
    intro i hi
    have hm : gErrs.getD i 0 ∈ gErrs := by rw [List.getD_eq_getElem?_getD, List.getElem?_eq_getElem (by omega)]; exact List.getElem_mem _
    have hm2 : gErrs.getD i 0 ∈ gs := List.contains_iff_mem.1 (List.all_eq_true.1 hall _ hm)
    have hlt := List.idxOf_lt_length_of_mem hm2
    refine ⟨by rw [List.getElem?_eq_getElem hlt]; simp, ?_⟩
    generalize gs.idxOf (gErrs.getD i 0) = x at *
    rw [List.getD_eq_getElem?_getD, List.getElem?_eq_getElem (by omega)]; rfl
  refine ⟨fun n => al.getD (gs.idxOf (gErrs.getD (n - 1) 0)) default, fun i g hgi => ?_, fun i j hi hj he => ?_, fun i hi => ?_⟩
  · have hi : i < 37 := (List.getElem?_eq_some_iff.1 hgi).1
    have e : gErrs.getD i 0 = g := by rw [List.getD_eq_getElem?_getD, hgi]; rfl
    obtain ⟨p1, p2⟩ := pos i hi
    simp only [Nat.add_sub_cancel]
    rw [e] at p1 p2 ⊢
    exact (h1 _ g _ p1 p2).1
  · simp only [Nat.add_sub_cancel] at he
    obtain ⟨p1, p2⟩ := pos i hi
    obtain ⟨q1, q2⟩ := pos j hj
    rw [← he] at q2
    have hidx : gs.idxOf (gErrs.getD i 0) = gs.idxOf (gErrs.getD j 0) := by
      refine (List.getElem?_inj (by rw [List.length_map]; exact (List.getElem?_eq_some_iff.1 p2).1) h3).1 ?_
      rw [List.getElem?_map, List.getElem?_map, p2, q2]
    rw [hidx, q1] at p1
    have hv := Option.some.inj p1
    refine ((List.getElem?_inj (by omega) hnd0).1 ?_).symm
    rw [List.getElem?_eq_getElem (show j < gErrs.length by omega), List.getElem?_eq_getElem (show i < gErrs.length by omega)]
    rw [List.getD_eq_getElem?_getD, List.getD_eq_getElem?_getD, List.getElem?_eq_getElem (show j < gErrs.length by omega), List.getElem?_eq_getElem (show i < gErrs.length by omega)] at hv
    simpa using hv
  · obtain ⟨p1, p2⟩ := pos i hi
    simp only [Nat.add_sub_cancel]
    exact (h1 _ _ _ p1 p2).2
/-- The errors and their texts, by their numbers: rows list them so. -/
def errTexts : List (String × List UInt8) := [
  ("remit/api.ErrShort", [114, 101, 109, 105, 116, 58, 32, 116, 111, 111, 32, 115, 104, 111, 114, 116]),
  ("remit/api.ErrVarint", [114, 101, 109, 105, 116, 58, 32, 118, 97, 114, 105, 110, 116]),
  ("remit/api.ErrLimit", [114, 101, 109, 105, 116, 58, 32, 108, 105, 109, 105, 116]),
  ("remit/api.ErrOrder", [114, 101, 109, 105, 116, 58, 32, 111, 114, 100, 101, 114]),
  ("remit/api.ErrTail", [114, 101, 109, 105, 116, 58, 32, 116, 97, 105, 108]),
  ("remit/api.ErrRange", [114, 101, 109, 105, 116, 58, 32, 114, 97, 110, 103, 101]),
  ("remit/api.ErrForm", [114, 101, 109, 105, 116, 58, 32, 102, 111, 114, 109]),
  ("remit/api.ErrDigits", [114, 101, 109, 105, 116, 58, 32, 99, 104, 101, 99, 107, 32, 100, 105, 103, 105, 116, 115]),
  ("remit/api.ErrAmount", [114, 101, 109, 105, 116, 58, 32, 97, 109, 111, 117, 110, 116]),
  ("remit/api.ErrOverflow", [114, 101, 109, 105, 116, 58, 32, 111, 118, 101, 114, 102, 108, 111, 119]),
  ("remit/api.ErrCurrency", [114, 101, 109, 105, 116, 58, 32, 99, 117, 114, 114, 101, 110, 99, 121]),
  ("remit/api.ErrDown", [114, 101, 109, 105, 116, 58, 32, 100, 111, 119, 110]),
  ("remit/api.ErrSmall", [114, 101, 109, 105, 116, 58, 32, 115, 109, 97, 108, 108]),
  ("remit/api.ErrBlank", [114, 101, 109, 105, 116, 58, 32, 98, 108, 97, 110, 107]),
  ("remit/api.ErrCorrupt", [114, 101, 109, 105, 116, 58, 32, 99, 111, 114, 114, 117, 112, 116]),
  ("remit/api.ErrWorn", [114, 101, 109, 105, 116, 58, 32, 119, 111, 114, 110]),
  ("remit/api.ErrFull", [114, 101, 109, 105, 116, 58, 32, 102, 117, 108, 108]),
  ("remit/api.ErrLarge", [114, 101, 109, 105, 116, 58, 32, 108, 97, 114, 103, 101]),
  ("remit/api.ErrClosed", [114, 101, 109, 105, 116, 58, 32, 99, 108, 111, 115, 101, 100]),
  ("remit/api.ErrAccount", [114, 101, 109, 105, 116, 58, 32, 97, 99, 99, 111, 117, 110, 116]),
  ("remit/api.ErrExists", [114, 101, 109, 105, 116, 58, 32, 101, 120, 105, 115, 116, 115]),
  ("remit/api.ErrFrozen", [114, 101, 109, 105, 116, 58, 32, 102, 114, 111, 122, 101, 110]),
  ("remit/api.ErrFunds", [114, 101, 109, 105, 116, 58, 32, 102, 117, 110, 100, 115]),
  ("remit/api.ErrLegs", [114, 101, 109, 105, 116, 58, 32, 108, 101, 103, 115]),
  ("remit/api.ErrConflict", [114, 101, 109, 105, 116, 58, 32, 99, 111, 110, 102, 108, 105, 99, 116]),
  ("remit/api.ErrId", [114, 101, 109, 105, 116, 58, 32, 105, 100]),
  ("remit/api.ErrPayee", [114, 101, 109, 105, 116, 58, 32, 112, 97, 121, 101, 101]),
  ("remit/api.ErrRail", [114, 101, 109, 105, 116, 58, 32, 114, 97, 105, 108]),
  ("remit/api.ErrBusy", [114, 101, 109, 105, 116, 58, 32, 98, 117, 115, 121]),
  ("remit/api.ErrWindow", [114, 101, 109, 105, 116, 58, 32, 119, 105, 110, 100, 111, 119]),
  ("remit/api.ErrPhase", [114, 101, 109, 105, 116, 58, 32, 112, 104, 97, 115, 101]),
  ("remit/api.ErrToken", [114, 101, 109, 105, 116, 58, 32, 116, 111, 107, 101, 110]),
  ("remit/api.ErrTime", [114, 101, 109, 105, 116, 58, 32, 116, 105, 109, 101]),
  ("remit/api.ErrUnknown", [114, 101, 109, 105, 116, 58, 32, 117, 110, 107, 110, 111, 119, 110]),
  ("remit/api.ErrConfig", [114, 101, 109, 105, 116, 58, 32, 99, 111, 110, 102, 105, 103, 117, 114, 97, 116, 105, 111, 110]),
  ("remit/api.ErrCommand", [114, 101, 109, 105, 116, 58, 32, 99, 111, 109, 109, 97, 110, 100]),
  ("remit/api.ErrUse", [114, 101, 109, 105, 116, 58, 32, 105, 110, 32, 117, 115, 101])]
theorem errs_of_texts {W : World} (h : laidMet Tryd.prog (errTexts.map fun x => (x.1, errD x.2)) W) : ∃ ad, Errs ad W :=
  errs_of_list errTexts gErrs (by kernel_rfl) (by kernel_rfl) (by decide) (by decide) h
end Go.Proofs.YtggogaaooacooaaDoor
namespace Go.Proofs.YtggogaaooacooaaDoor
open Go.ChangeShapes Go.WideShapes Go.ChangeAt Go.RowKit
set_option maxRecDepth 100000

theorem tab_of {W : World} (h : laidMet Tryd.prog [("remit/checks.steps", (Rows.laid_remit_checks_steps : DataW Unit))] W) : Tab W := by
  have h1 := Lib.tabIs_of_head (P := Tryd.prog) (W := W) (name := "remit/checks.steps") (k := .u32) (zs := C.tab.map Int.ofNat) (rest := []) (g := 38) (t := 166) (e := 144) (n := 16) (by kernel_rfl) (by kernel_rfl) Tryd.underlying166 Tryd.underlying144 (by kernel_rfl) (by kernel_rfl) h
  intro k hk
  have h2 := h1.cell (g := 38) (by kernel_rfl) k (by simpa [C.tab] using hk)
  rw [h2]
  congr 2
  have : ∀ k < 16, (C.tab.map Int.ofNat).getD k 0 = ((C.tab.getD k 0 : Nat) : Int) := by decide
  exact this k hk
end Go.Proofs.YtggogaaooacooaaDoor
namespace Go.Proofs.YtggogaaooacooaaDoor
open Go.ChangeShapes Go.RowKit
section
variable {H : Type} {enc : TypeId × Value → H} {P : Program} {w : World} {base : Nat} {spare : Nat → Bool} {held : Bool}

theorem trodAll_five {t0 t1 t2 t3 t4 : TypeId} {args : Array Value} {ds : List (DataW H)} {ps : List MemPlace} (h : DataW.TrodAll enc P w base spare held [t0, t1, t2, t3, t4] args.toList ds ps) :
    ∃ v0 v1 v2 v3 v4 d0 d1 d2 d3 d4 p0 p1 p2 p3 p4, args = #[v0, v1, v2, v3, v4] ∧ ds = [d0, d1, d2, d3, d4] ∧ ps = p0 ++ p1 ++ p2 ++ p3 ++ p4 ∧ DataW.Trod enc P w base spare held t0 v0 d0 p0 ∧ DataW.Trod enc P w base spare held t1 v1 d1 p1 ∧ DataW.Trod enc P w base spare held t2 v2 d2 p2 ∧ DataW.Trod enc P w base spare held t3 v3 d3 p3 ∧ DataW.Trod enc P w base spare held t4 v4 d4 p4 := by
  obtain ⟨v0, vs0, d0, ds0, p0, q0, hargs, rfl, rfl, h0, r0⟩ := trodAll_cons h
  obtain ⟨v1, vs1, d1, ds1, p1, q1, rfl, rfl, rfl, h1, r1⟩ := trodAll_cons r0
  obtain ⟨v2, vs2, d2, ds2, p2, q2, rfl, rfl, rfl, h2, r2⟩ := trodAll_cons r1
  obtain ⟨v3, vs3, d3, ds3, p3, q3, rfl, rfl, rfl, h3, r3⟩ := trodAll_cons r2
  obtain ⟨v4, vs4, d4, ds4, p4, q4, rfl, rfl, rfl, h4, r4⟩ := trodAll_cons r3
  obtain ⟨rfl, rfl, rfl⟩ := trodAll_nil r4
  exact ⟨v0, v1, v2, v3, v4, d0, d1, d2, d3, d4, p0, p1, p2, p3, p4, by cases args; simp_all, rfl, by simp, h0, h1, h2, h3, h4⟩
theorem trodAll_mk5 {t0 t1 t2 t3 t4 : TypeId} {v0 v1 v2 v3 v4 : Value} {d0 d1 d2 d3 d4 : DataW H} {p0 p1 p2 p3 p4 : List MemPlace} (h0 : DataW.Trod enc P w base spare held t0 v0 d0 p0) (h1 : DataW.Trod enc P w base spare held t1 v1 d1 p1) (h2 : DataW.Trod enc P w base spare held t2 v2 d2 p2) (h3 : DataW.Trod enc P w base spare held t3 v3 d3 p3) (h4 : DataW.Trod enc P w base spare held t4 v4 d4 p4) : DataW.TrodAll enc P w base spare held [t0, t1, t2, t3, t4] [v0, v1, v2, v3, v4] [d0, d1, d2, d3, d4] (p0 ++ (p1 ++ (p2 ++ (p3 ++ p4)))) := ⟨p0, p1 ++ (p2 ++ (p3 ++ p4)), h0, trodAll_mk4 h1 h2 h3 h4, rfl⟩

theorem trodAll_six {t0 t1 t2 t3 t4 t5 : TypeId} {args : Array Value} {ds : List (DataW H)} {ps : List MemPlace} (h : DataW.TrodAll enc P w base spare held [t0, t1, t2, t3, t4, t5] args.toList ds ps) :
    ∃ v0 v1 v2 v3 v4 v5 d0 d1 d2 d3 d4 d5 p0 p1 p2 p3 p4 p5, args = #[v0, v1, v2, v3, v4, v5] ∧ ds = [d0, d1, d2, d3, d4, d5] ∧ ps = p0 ++ p1 ++ p2 ++ p3 ++ p4 ++ p5 ∧ DataW.Trod enc P w base spare held t0 v0 d0 p0 ∧ DataW.Trod enc P w base spare held t1 v1 d1 p1 ∧ DataW.Trod enc P w base spare held t2 v2 d2 p2 ∧ DataW.Trod enc P w base spare held t3 v3 d3 p3 ∧ DataW.Trod enc P w base spare held t4 v4 d4 p4 ∧ DataW.Trod enc P w base spare held t5 v5 d5 p5 := by
  obtain ⟨v0, vs0, d0, ds0, p0, q0, hargs, rfl, rfl, h0, r0⟩ := trodAll_cons h
  obtain ⟨v1, vs1, d1, ds1, p1, q1, rfl, rfl, rfl, h1, r1⟩ := trodAll_cons r0
  obtain ⟨v2, vs2, d2, ds2, p2, q2, rfl, rfl, rfl, h2, r2⟩ := trodAll_cons r1
  obtain ⟨v3, vs3, d3, ds3, p3, q3, rfl, rfl, rfl, h3, r3⟩ := trodAll_cons r2
  obtain ⟨v4, vs4, d4, ds4, p4, q4, rfl, rfl, rfl, h4, r4⟩ := trodAll_cons r3
  obtain ⟨v5, vs5, d5, ds5, p5, q5, rfl, rfl, rfl, h5, r5⟩ := trodAll_cons r4
  obtain ⟨rfl, rfl, rfl⟩ := trodAll_nil r5
  exact ⟨v0, v1, v2, v3, v4, v5, d0, d1, d2, d3, d4, d5, p0, p1, p2, p3, p4, p5, by cases args; simp_all, rfl, by simp, h0, h1, h2, h3, h4, h5⟩
theorem trodAll_mk6 {t0 t1 t2 t3 t4 t5 : TypeId} {v0 v1 v2 v3 v4 v5 : Value} {d0 d1 d2 d3 d4 d5 : DataW H} {p0 p1 p2 p3 p4 p5 : List MemPlace} (h0 : DataW.Trod enc P w base spare held t0 v0 d0 p0) (h1 : DataW.Trod enc P w base spare held t1 v1 d1 p1) (h2 : DataW.Trod enc P w base spare held t2 v2 d2 p2) (h3 : DataW.Trod enc P w base spare held t3 v3 d3 p3) (h4 : DataW.Trod enc P w base spare held t4 v4 d4 p4) (h5 : DataW.Trod enc P w base spare held t5 v5 d5 p5) : DataW.TrodAll enc P w base spare held [t0, t1, t2, t3, t4, t5] [v0, v1, v2, v3, v4, v5] [d0, d1, d2, d3, d4, d5] (p0 ++ (p1 ++ (p2 ++ (p3 ++ (p4 ++ p5))))) := ⟨p0, p1 ++ (p2 ++ (p3 ++ (p4 ++ p5))), h0, trodAll_mk5 h1 h2 h3 h4 h5, rfl⟩

theorem trodAll_seven {t0 t1 t2 t3 t4 t5 t6 : TypeId} {args : Array Value} {ds : List (DataW H)} {ps : List MemPlace} (h : DataW.TrodAll enc P w base spare held [t0, t1, t2, t3, t4, t5, t6] args.toList ds ps) :
    ∃ v0 v1 v2 v3 v4 v5 v6 d0 d1 d2 d3 d4 d5 d6 p0 p1 p2 p3 p4 p5 p6, args = #[v0, v1, v2, v3, v4, v5, v6] ∧ ds = [d0, d1, d2, d3, d4, d5, d6] ∧ ps = p0 ++ p1 ++ p2 ++ p3 ++ p4 ++ p5 ++ p6 ∧ DataW.Trod enc P w base spare held t0 v0 d0 p0 ∧ DataW.Trod enc P w base spare held t1 v1 d1 p1 ∧ DataW.Trod enc P w base spare held t2 v2 d2 p2 ∧ DataW.Trod enc P w base spare held t3 v3 d3 p3 ∧ DataW.Trod enc P w base spare held t4 v4 d4 p4 ∧ DataW.Trod enc P w base spare held t5 v5 d5 p5 ∧ DataW.Trod enc P w base spare held t6 v6 d6 p6 := by
  obtain ⟨v0, vs0, d0, ds0, p0, q0, hargs, rfl, rfl, h0, r0⟩ := trodAll_cons h
  obtain ⟨v1, vs1, d1, ds1, p1, q1, rfl, rfl, rfl, h1, r1⟩ := trodAll_cons r0
  obtain ⟨v2, vs2, d2, ds2, p2, q2, rfl, rfl, rfl, h2, r2⟩ := trodAll_cons r1
  obtain ⟨v3, vs3, d3, ds3, p3, q3, rfl, rfl, rfl, h3, r3⟩ := trodAll_cons r2
  obtain ⟨v4, vs4, d4, ds4, p4, q4, rfl, rfl, rfl, h4, r4⟩ := trodAll_cons r3
  obtain ⟨v5, vs5, d5, ds5, p5, q5, rfl, rfl, rfl, h5, r5⟩ := trodAll_cons r4
  obtain ⟨v6, vs6, d6, ds6, p6, q6, rfl, rfl, rfl, h6, r6⟩ := trodAll_cons r5
  obtain ⟨rfl, rfl, rfl⟩ := trodAll_nil r6
  exact ⟨v0, v1, v2, v3, v4, v5, v6, d0, d1, d2, d3, d4, d5, d6, p0, p1, p2, p3, p4, p5, p6, by cases args; simp_all, rfl, by simp, h0, h1, h2, h3, h4, h5, h6⟩
theorem trodAll_mk7 {t0 t1 t2 t3 t4 t5 t6 : TypeId} {v0 v1 v2 v3 v4 v5 v6 : Value} {d0 d1 d2 d3 d4 d5 d6 : DataW H} {p0 p1 p2 p3 p4 p5 p6 : List MemPlace} (h0 : DataW.Trod enc P w base spare held t0 v0 d0 p0) (h1 : DataW.Trod enc P w base spare held t1 v1 d1 p1) (h2 : DataW.Trod enc P w base spare held t2 v2 d2 p2) (h3 : DataW.Trod enc P w base spare held t3 v3 d3 p3) (h4 : DataW.Trod enc P w base spare held t4 v4 d4 p4) (h5 : DataW.Trod enc P w base spare held t5 v5 d5 p5) (h6 : DataW.Trod enc P w base spare held t6 v6 d6 p6) : DataW.TrodAll enc P w base spare held [t0, t1, t2, t3, t4, t5, t6] [v0, v1, v2, v3, v4, v5, v6] [d0, d1, d2, d3, d4, d5, d6] (p0 ++ (p1 ++ (p2 ++ (p3 ++ (p4 ++ (p5 ++ p6)))))) := ⟨p0, p1 ++ (p2 ++ (p3 ++ (p4 ++ (p5 ++ p6)))), h0, trodAll_mk6 h1 h2 h3 h4 h5 h6, rfl⟩
end
end Go.Proofs.YtggogaaooacooaaDoor
