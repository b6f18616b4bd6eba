/-
  The contract of remitlaw09.AreaNumbers, over area's calls: it answers true.
  What listed variables give, of no layer: errors of package api among them, in whatever order; a part of a row's list; the witness.
  All errors of package api, in whatever order they are listed.
-/
import Derived.Test.YtcapifhmmkmboaaDoorP24
import Derived.Test.YtcapifhmmkmboaaDoorP01
import Derived.Test.YtcapifhmmkmboaaDoorRows
import Derived.ProofKit
import Derived.LaidMore
import Derived.LaidLaws
import Derived.OpenShut
import Derived.Stop.LaidErr
import Derived.Deep.DeepHandedRow
import Derived.Deep.DeepWitnessRowRef
import Derived.Lib.LaidTab
import Derived.Lib.SmallJoins
import Derived.Lay
import Derived.Test.YtcapifhmmkmboaaDoorP03
namespace Go.Proofs.YtcapifhmmkmboaaDoor
open Go.RowKit Go.WideShapes
set_option maxRecDepth 100000

theorem secsZ_room (x : Int) (h : secsZ x ≤ 65536) : x ≤ roomZ (secsZ x) ∧ (secsZ x = 0 ∨ roomZ (secsZ x - 1) < x) := by
  unfold roomZ secsZ at *
  split
  · omega
  · rename_i h0
    rw [if_neg h0] at h
    refine ⟨by omega, .inr (by omega)⟩
theorem secsZ_nn (x : Int) : 0 ≤ secsZ x := by unfold secsZ; split <;> omega
theorem secsZ_le (x : Int) (h : x ≤ 9223372036854775807) : secsZ x ≤ 9223372036854775807 := by unfold secsZ; split <;> omega

set_option maxHeartbeats 1600000 in
theorem numbers9_any (ad : Nat → Addr) (H : AreaH ad) (x : Int) (hx : x ≤ 9223372036854775807) (w : World) (hE : Errs ad w) (hT : Tab w) : Calls Tryd.prog 3 #[.int .i64 x] w fun e w' => e = .returned (.bool true) ∧ Qt w w' := by
  have LV := lives9_any ad H w hE hT
  have RM := H.room
  have SC := fun W => H.secs x W hx
  have XR := refRoom_any
  have XS := fun W => refSectors_any x W hx
  have h0 := secsZ_nn x
  have h9 := secsZ_le x hx
  clear hE hT H
  by_cases hb : 65536 < secsZ x
  · have y0 : decide (65536 < secsZ x) = true := decide_eq_true hb
    generalize secsZ x = s at *
    clear h0 h9 hb
    go_enter Tryd.func3, Tryd.ntmps3
    go_wp2_with fail
    refine LV.mono ?_
    rintro e w1 ⟨rfl, q1⟩
    have Q1 := Lib.hid q1
    clear q1 LV
    go_wp2_with fail
    refine (SC w1).mono ?_
    rintro e w2 ⟨rfl, rfl⟩
    go_wp2_with fail
    refine (RM x w2).mono ?_
    rintro e w3 ⟨rfl, rfl⟩
    go_wp2_with fail
    refine (XR x w3).mono ?_
    rintro e w4 ⟨rfl, rfl⟩
    go_wp2_with fail
    refine (XS w4).mono ?_
    rintro e w5 ⟨rfl, rfl⟩
    go_wp2
    go_ret
    exact ⟨rfl, Q1.out⟩
  · obtain ⟨f1, f2⟩ := secsZ_room x (by omega)
    have y0 : decide (65536 < secsZ x) = false := decide_eq_false hb
    have y1 : decide (x ≤ roomZ (secsZ x)) = true := decide_eq_true f1
    by_cases hs : secsZ x = 0
    · have y2 : (secsZ x == 0) = true := by rw [beq_iff_eq]; exact hs
      generalize secsZ x = s at *
      clear h0 h9 hb f1 f2 hs
      go_enter Tryd.func3, Tryd.ntmps3
      go_wp2_with fail
      refine LV.mono ?_
      rintro e w1 ⟨rfl, q1⟩
      have Q1 := Lib.hid q1
      clear q1 LV
      go_wp2_with fail
      refine (SC w1).mono ?_
      rintro e w2 ⟨rfl, rfl⟩
      go_wp2_with fail
      refine (RM x w2).mono ?_
      rintro e w3 ⟨rfl, rfl⟩
      go_wp2_with fail
      refine (XR x w3).mono ?_
      rintro e w4 ⟨rfl, rfl⟩
      go_wp2_with fail
      refine (XS w4).mono ?_
      rintro e w5 ⟨rfl, rfl⟩
      go_wp2_with fail
      refine (RM s w5).mono ?_
      rintro e w6 ⟨rfl, rfl⟩
      go_wp2
      go_ret
      exact ⟨rfl, Q1.out⟩
    · have f3 : roomZ (secsZ x - 1) < x := by rcases f2 with k | k; exact absurd k hs; exact k
      have y2 : (secsZ x == 0) = false := by rw [beq_eq_false_iff_ne]; exact hs
      have y3 : decide (roomZ (secsZ x - 1) < x) = true := decide_eq_true f3
      have y4 : wrap64 (secsZ x - 1) = secsZ x - 1 := by unfold wrap64; omega
      generalize secsZ x = s at *
      clear h0 h9 hb f1 f2 hs f3
      go_enter Tryd.func3, Tryd.ntmps3
      go_wp2_with fail
      refine LV.mono ?_
      rintro e w1 ⟨rfl, q1⟩
      have Q1 := Lib.hid q1
      clear q1 LV
      go_wp2_with fail
      refine (SC w1).mono ?_
      rintro e w2 ⟨rfl, rfl⟩
      go_wp2_with fail
      refine (RM x w2).mono ?_
      rintro e w3 ⟨rfl, rfl⟩
      go_wp2_with fail
      refine (XR x w3).mono ?_
      rintro e w4 ⟨rfl, rfl⟩
      go_wp2_with fail
      refine (XS w4).mono ?_
      rintro e w5 ⟨rfl, rfl⟩
      go_wp2_with fail
      refine (RM s w5).mono ?_
      rintro e w6 ⟨rfl, rfl⟩
      go_wp2_with fail
      refine (RM (s - 1) w6).mono ?_
      rintro e w7 ⟨rfl, rfl⟩
      go_wp2
      go_ret
      exact ⟨rfl, Q1.out⟩
end Go.Proofs.YtcapifhmmkmboaaDoor
namespace Go.Proofs.YtcapifhmmkmboaaDoor
open Go.ChangeShapes Go.WideShapes Go.ChangeAt Go.RowKit
set_option maxRecDepth 100000

theorem laidOut : laidOutB Tryd.prog = true := by kernel_rfl
theorem own' : ownKnob Tryd.prog.godebug = none := by kernel_rfl

/-- 'There is an input that fits', at a start whose shape is known. -/
theorem witness_laid {H : Type} {enc : TypeId × Value → H} {C : Checked} {os : Os} {f : FuncId} {fn : Func} {s : OpenSpec} {conds : List PathCond} {apart : Bool} {laid : List (String × DataW Unit)} (modest : Bool) (w0 : World) (args : Array Value) (hos : w0.os = os)
    (hsh : (w0.forCall (fun _ _ => 0) ⟨#[], args, []⟩).Shaped C.prog)
    (hok : Input.okWideB C.prog (w0.forCall (fun _ _ => 0) ⟨#[], args, []⟩) f ⟨#[], args, []⟩ = true)
    (hrow : s.preRow enc C.prog fn conds apart laid (w0.forCall (fun _ _ => 0) ⟨#[], args, []⟩).memory args) :
    ∃ (w : World) (tape : Tape) (i : Input), w.os = os ∧ (w.forCall tape i).Shaped C.prog ∧ i.vars = [] ∧ Input.okWide C.prog (w.forCall tape i) .any w.heap.size f i ∧
      s.preRow enc C.prog fn conds apart laid (w.forCall tape i).memory i.args ∧ ({ modest := modest } : Assume).holds C.prog (lone (Frame.enter C.prog f i.args .normal) [] (w.forCall tape i)) :=
  ⟨w0, fun _ _ => 0, ⟨#[], args, []⟩, hos, hsh, (Input.okWide_of_okWideB (base := 0) hok).1, (Input.okWide_of_okWideB hok).2, hrow, by
    simp only [Assume.holds]
    exact ⟨by simp, by simp, fun _ => Modest.zero, by simp, by simp⟩⟩

/-- A part of a list of listed variables. -/
theorem laidVars_sub {P : Program} {w : World} {L' L : List (String × DataW Unit)} (hs : L'.Sublist L) : ∀ {ps : List MemPlace}, DataW.LaidVars P w L ps → ∃ q, DataW.LaidVars P w L' q ∧ q.Sublist ps := by
  induction hs with
  | slnil => intro ps h; exact ⟨ps, h, List.Sublist.refl _⟩
  | cons a _ ih =>
    intro ps h
    obtain ⟨n, d⟩ := a
    obtain ⟨g, t, cs, f, p, q, h1, h2, h3, h4, hq, e⟩ := h
    obtain ⟨q', hq', hsub⟩ := ih hq
    exact ⟨q', hq', by rw [e]; exact hsub.trans (List.sublist_append_right _ _)⟩
  | cons_cons a _ ih =>
    intro ps h
    obtain ⟨n, d⟩ := a
    obtain ⟨g, t, cs, f, p, q, h1, h2, h3, h4, hq, e⟩ := h
    obtain ⟨q', hq', hsub⟩ := ih hq
    exact ⟨_, ⟨g, t, cs, f, p, q', h1, h2, h3, h4, hq', rfl⟩, by rw [e]; exact List.Sublist.append (List.Sublist.refl _) hsub⟩
theorem laidMet_sub {P : Program} {W : World} {L' L : List (String × DataW Unit)} (hs : L'.Sublist L) (h : laidMet P L W) : laidMet P L' W := by
  obtain ⟨ps, hv, hnd, hrows⟩ := h
  obtain ⟨q, hq, hsub⟩ := laidVars_sub hs hv
  exact ⟨q, hq, hnd.sublist hsub, fun b off hb => hrows b off (hsub.subset hb)⟩

/-! ### Errors -/
theorem cellsErr : Tryd.prog.cellsOf 125 = 1 := by kernel_rfl
theorem cellsString : Tryd.prog.cellsOf 9 = 1 := by kernel_rfl
theorem starErr : "*errors.errorString" = "*" ++ "errors.errorString" := by decide
theorem rowErr (u : TypeId) (h : Tryd.prog.typeName? 3 u = some "*errors.errorString") : u = 111 :=
  typeName_ptr_named (nm := "errors.errorString") (by rw [← starErr]; kernel_rfl) (by kernel_rfl) (by decide) u (by rw [← starErr]; exact h)

/-- An error as the rows list it. -/
def errD (text : List UInt8) : DataW Unit := .iface "*errors.errorString" (.ptr (.agg [.lit (.string text)]))

theorem laid_errs {W : World} {PS : List MemPlace} (hrows : ∀ b off, MemPlace.cell b off ∈ PS → (∃ c t, W.heap[b]? = some (.cells c t (0, 0))) ∧ ∀ u v, W.cell? ⟨b, off, none⟩ = some (.iface u v) → Value.okWide Tryd.prog W .any 0 u v) :
    ∀ (L : List (String × List UInt8)) (gs : List Nat) (ps : List MemPlace), (∀ x ∈ ps, x ∈ PS) → ps.Nodup → L.map (fun x => Tryd.prog.globalNamed x.1) = gs.map some → (∀ g ∈ gs, (Tryd.prog.globals[g]?).map (·.type) = some 29) →
      DataW.LaidVars Tryd.prog W (L.map fun x => (x.1, errD x.2)) ps →
      ∃ al : List Addr, al.length = gs.length ∧ (∀ (i : Nat) (g : Nat) (a : Addr), gs[i]? = some g → al[i]? = some a → W.cell? ⟨g, 0, none⟩ = some (.iface 111 (.pointer (some a))) ∧ (∃ c t, W.heap[a.block]? = some (.cells c t (0, 0)))) ∧
        (∀ a ∈ al, MemPlace.cell a.block a.off ∈ ps) ∧ (al.map fun a => MemPlace.cell a.block a.off).Nodup
  | [], gs, ps, _, _, hg, _, _ => by
    obtain rfl : gs = [] := by simpa using hg.symm
    exact ⟨[], rfl, fun i g a h => by simp at h, fun a h => by simp at h, by simp⟩
  | (n, text) :: r, [], ps, _, _, hg, _, _ => by simp at hg
  | (n, text) :: r, g :: gs, ps, hps, hnd, hg, ht, h => by
    simp only [List.map_cons, List.cons.injEq] at hg
    obtain ⟨g0, t0, cs0, f0, p0, q0, hg0, ht0, hv0, hd0, hq, e0⟩ := h
    obtain rfl := Option.some.inj (hg.1.symm.trans hg0)
    obtain rfl := Option.some.inj ((ht g (by simp)).symm.trans ht0)
    obtain ⟨l0⟩ := cs0
    have ok0 : ∀ u v, l0 = [.iface u v] → Value.okWide Tryd.prog W .any 0 u v := fun u v e => by
      subst e
      exact (hrows g 0 (hps _ (by rw [e0]; simp [MemPlace.row]))).2 u v (by simpa using World.var?_cell hg0 hv0 0)
    obtain ⟨a0, s0, rfl, hc0, hs0, hz0, rfl⟩ := errorString_of_trod Tryd.underlying29 rowErr Tryd.underlying111 Tryd.underlying125 rfl rfl Tryd.underlying9 cellsErr cellsString hd0 ok0
    have hsub : q0.Sublist ps := by rw [e0]; exact List.sublist_append_right _ _
    obtain ⟨al, hl, h1, h2, h3⟩ := laid_errs hrows r gs q0 (fun x hx => hps x (hsub.subset hx)) (hnd.sublist hsub) hg.2 (fun g' hg' => ht g' (by simp [hg'])) hq
    have hmem : MemPlace.cell a0.block a0.off ∈ ps := by rw [e0]; simp [MemPlace.row]
    refine ⟨a0 :: al, by simp [hl], fun i g' a hi ha => ?_, fun a ha => ?_, ?_⟩
    · cases i with
      | zero =>
        simp at hi ha
        subst hi ha
        exact ⟨by simpa using World.var?_cell hg0 hv0 0, (hrows _ _ (hps _ hmem)).1⟩
      | succ i => exact h1 i g' a (by simpa using hi) (by simpa using ha)
    · rcases List.mem_cons.1 ha with rfl | ha
      · exact hmem
      · exact hsub.subset (h2 a ha)
    · simp only [List.map_cons, List.nodup_cons]
      refine ⟨fun hm => ?_, h3⟩
      obtain ⟨a, ha, hae⟩ := List.mem_map.1 hm
      rw [e0] at hnd
      have hq1 := h2 a ha
      rw [hae] at hq1
      exact (List.nodup_append.1 hnd).2.2 _ (by simp [MemPlace.row]) _ hq1 rfl

/-- One error, listed alone. -/
theorem err_of_laid {W : World} {n : String} {text : List UInt8} {g : Nat} (hn : Tryd.prog.globalNamed n = some g) (ht : (Tryd.prog.globals[g]?).map (·.type) = some 29) (h : laidMet Tryd.prog [(n, errD text)] W) : ∃ ad, W.cell? ⟨g, 0, none⟩ = some (.iface 111 (.pointer (some ad))) := by
  obtain ⟨ps, hv, hnd, hrows⟩ := h
  obtain ⟨al, hl, h1, _, _⟩ := laid_errs hrows [(n, text)] [g] ps (fun _ h => h) hnd (by simp [hn]) (by simpa using ht) hv
  match al, hl with
  | [a], _ => exact ⟨a, (h1 0 _ a rfl rfl).1⟩

def formBytes : List UInt8 := [114, 101, 109, 105, 116, 58, 32, 102, 111, 114, 109]
end Go.Proofs.YtcapifhmmkmboaaDoor
namespace Go.Proofs.YtcapifhmmkmboaaDoor
open Go.ChangeShapes Go.WideShapes Go.ChangeAt Go.RowKit
set_option maxRecDepth 100000

/-- All the errors, in whatever order they are listed. -/
theorem errs_of_list {W : World} (L : List (String × List UInt8)) (gs : List Nat) (hg : L.map (fun x => Tryd.prog.globalNamed x.1) = gs.map some) (ht : (gs.all fun g => decide ((Tryd.prog.globals[g]?).map (·.type) = some 29)) = true)
    (hall : (gErrs.all fun g => gs.contains g) = true) (hnd0 : gErrs.Nodup) (h : laidMet Tryd.prog (L.map fun x => (x.1, errD x.2)) W) : ∃ ad, Errs ad W := by
  obtain ⟨ps, hv, hnd, hrows⟩ := h
  obtain ⟨al, hl, h1, _, h3⟩ := laid_errs hrows L gs ps (fun _ h => h) hnd hg (fun g hg => of_decide_eq_true (List.all_eq_true.1 ht g hg)) hv
  have hlen : gErrs.length = 37 := rfl
  have pos : ∀ i, i < 37 → gs[gs.idxOf (gErrs.getD i 0)]? = some (gErrs.getD i 0) ∧ al[gs.idxOf (gErrs.getD i 0)]? = some (al.getD (gs.idxOf (gErrs.getD i 0)) default) := by
    intro i hi
    have hm : gErrs.getD i 0 ∈ gErrs := by rw [List.getD_eq_getElem?_getD, List.getElem?_eq_getElem (by omega)]; exact List.getElem_mem _
    have hm2 : gErrs.getD i 0 ∈ gs := List.contains_iff_mem.1 (List.all_eq_true.1 hall _ hm)
    have hlt := List.idxOf_lt_length_of_mem hm2
    refine ⟨by rw [List.getElem?_eq_getElem hlt]; simp, ?_⟩
    generalize gs.idxOf (gErrs.getD i 0) = x at *
    rw [List.getD_eq_getElem?_getD, List.getElem?_eq_getElem (by omega)]; rfl
  refine ⟨fun n => al.getD (gs.idxOf (gErrs.getD (n - 1) 0)) default, fun i g hgi => ?_, fun i j hi hj he => ?_, fun i hi => ?_⟩
  · have hi : i < 37 := (List.getElem?_eq_some_iff.1 hgi).1
    have e : gErrs.getD i 0 = g := by rw [List.getD_eq_getElem?_getD, hgi]; rfl
    obtain ⟨p1, p2⟩ := pos i hi
    simp only [Nat.add_sub_cancel]
    rw [e] at p1 p2 ⊢
    exact (h1 _ g _ p1 p2).1
  · simp only [Nat.add_sub_cancel] at he
    obtain ⟨p1, p2⟩ := pos i hi
    obtain ⟨q1, q2⟩ := pos j hj
    rw [← he] at q2
    have hidx : gs.idxOf (gErrs.getD i 0) = gs.idxOf (gErrs.getD j 0) := by
      refine (List.getElem?_inj (by rw [List.length_map]; exact (List.getElem?_eq_some_iff.1 p2).1) h3).1 ?_
      rw [List.getElem?_map, List.getElem?_map, p2, q2]
    rw [hidx, q1] at p1
    have hv := Option.some.inj p1
    refine ((List.getElem?_inj (by omega) hnd0).1 ?_).symm
    rw [List.getElem?_eq_getElem (show j < gErrs.length by omega), List.getElem?_eq_getElem (show i < gErrs.length by omega)]
    rw [List.getD_eq_getElem?_getD, List.getD_eq_getElem?_getD, List.getElem?_eq_getElem (show j < gErrs.length by omega), List.getElem?_eq_getElem (show i < gErrs.length by omega)] at hv
    simpa using hv
  · obtain ⟨p1, p2⟩ := pos i hi
    simp only [Nat.add_sub_cancel]
    exact (h1 _ _ _ p1 p2).2
/-- The errors and their texts, by their numbers: rows list them so. -/
def errTexts : List (String × List UInt8) := [
  ("remit/api.ErrShort", [114, 101, 109, 105, 116, 58, 32, 116, 111, 111, 32, 115, 104, 111, 114, 116]),
  ("remit/api.ErrVarint", [114, 101, 109, 105, 116, 58, 32, 118, 97, 114, 105, 110, 116]),
  ("remit/api.ErrLimit", [114, 101, 109, 105, 116, 58, 32, 108, 105, 109, 105, 116]),
  ("remit/api.ErrOrder", [114, 101, 109, 105, 116, 58, 32, 111, 114, 100, 101, 114]),
  ("remit/api.ErrTail", [114, 101, 109, 105, 116, 58, 32, 116, 97, 105, 108]),
  ("remit/api.ErrRange", [114, 101, 109, 105, 116, 58, 32, 114, 97, 110, 103, 101]),
  ("remit/api.ErrForm", [114, 101, 109, 105, 116, 58, 32, 102, 111, 114, 109]),
  ("remit/api.ErrDigits", [114, 101, 109, 105, 116, 58, 32, 99, 104, 101, 99, 107, 32, 100, 105, 103, 105, 116, 115]),
  ("remit/api.ErrAmount", [114, 101, 109, 105, 116, 58, 32, 97, 109, 111, 117, 110, 116]),
  ("remit/api.ErrOverflow", [114, 101, 109, 105, 116, 58, 32, 111, 118, 101, 114, 102, 108, 111, 119]),
  ("remit/api.ErrCurrency", [114, 101, 109, 105, 116, 58, 32, 99, 117, 114, 114, 101, 110, 99, 121]),
  ("remit/api.ErrDown", [114, 101, 109, 105, 116, 58, 32, 100, 111, 119, 110]),
  ("remit/api.ErrSmall", [114, 101, 109, 105, 116, 58, 32, 115, 109, 97, 108, 108]),
  ("remit/api.ErrBlank", [114, 101, 109, 105, 116, 58, 32, 98, 108, 97, 110, 107]),
  ("remit/api.ErrCorrupt", [114, 101, 109, 105, 116, 58, 32, 99, 111, 114, 114, 117, 112, 116]),
  ("remit/api.ErrWorn", [114, 101, 109, 105, 116, 58, 32, 119, 111, 114, 110]),
  ("remit/api.ErrFull", [114, 101, 109, 105, 116, 58, 32, 102, 117, 108, 108]),
  ("remit/api.ErrLarge", [114, 101, 109, 105, 116, 58, 32, 108, 97, 114, 103, 101]),
  ("remit/api.ErrClosed", [114, 101, 109, 105, 116, 58, 32, 99, 108, 111, 115, 101, 100]),
  ("remit/api.ErrAccount", [114, 101, 109, 105, 116, 58, 32, 97, 99, 99, 111, 117, 110, 116]),
  ("remit/api.ErrExists", [114, 101, 109, 105, 116, 58, 32, 101, 120, 105, 115, 116, 115]),
  ("remit/api.ErrFrozen", [114, 101, 109, 105, 116, 58, 32, 102, 114, 111, 122, 101, 110]),
  ("remit/api.ErrFunds", [114, 101, 109, 105, 116, 58, 32, 102, 117, 110, 100, 115]),
  ("remit/api.ErrLegs", [114, 101, 109, 105, 116, 58, 32, 108, 101, 103, 115]),
  ("remit/api.ErrConflict", [114, 101, 109, 105, 116, 58, 32, 99, 111, 110, 102, 108, 105, 99, 116]),
  ("remit/api.ErrId", [114, 101, 109, 105, 116, 58, 32, 105, 100]),
  ("remit/api.ErrPayee", [114, 101, 109, 105, 116, 58, 32, 112, 97, 121, 101, 101]),
  ("remit/api.ErrRail", [114, 101, 109, 105, 116, 58, 32, 114, 97, 105, 108]),
  ("remit/api.ErrBusy", [114, 101, 109, 105, 116, 58, 32, 98, 117, 115, 121]),
  ("remit/api.ErrWindow", [114, 101, 109, 105, 116, 58, 32, 119, 105, 110, 100, 111, 119]),
  ("remit/api.ErrPhase", [114, 101, 109, 105, 116, 58, 32, 112, 104, 97, 115, 101]),
  ("remit/api.ErrToken", [114, 101, 109, 105, 116, 58, 32, 116, 111, 107, 101, 110]),
  ("remit/api.ErrTime", [114, 101, 109, 105, 116, 58, 32, 116, 105, 109, 101]),
  ("remit/api.ErrUnknown", [114, 101, 109, 105, 116, 58, 32, 117, 110, 107, 110, 111, 119, 110]),
  ("remit/api.ErrConfig", [114, 101, 109, 105, 116, 58, 32, 99, 111, 110, 102, 105, 103, 117, 114, 97, 116, 105, 111, 110]),
  ("remit/api.ErrCommand", [114, 101, 109, 105, 116, 58, 32, 99, 111, 109, 109, 97, 110, 100]),
  ("remit/api.ErrUse", [114, 101, 109, 105, 116, 58, 32, 105, 110, 32, 117, 115, 101])]
theorem errs_of_texts {W : World} (h : laidMet Tryd.prog (errTexts.map fun x => (x.1, errD x.2)) W) : ∃ ad, Errs ad W :=
  errs_of_list errTexts gErrs (by kernel_rfl) (by kernel_rfl) (by decide) (by decide) h
end Go.Proofs.YtcapifhmmkmboaaDoor
