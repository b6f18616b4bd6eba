/-
  JournalLeaves (P10.3, P10.4): behind each crash the log tells the records that were synced, and behind them some first ones of those that were appended since, and nothing else; a greater version tells nothing. Proved here: the first form's card: for every place and list of lives the law answers true and its arguments read as before.
-/
import Derived.Test.YtggogaaooacooaaDoorP46
import Derived.Test.YtggogaaooacooaaDoorP48
import Derived.Test.YtggogaaooacooaaDoorCards
import Derived.Test.YtggogaaooacooaaDoorTie
import Derived.Carry
import Derived.ChangeMaps5
import Derived.SizedLaws
namespace Go.Proofs.YtggogaaooacooaaDoor
open Go.ChangeShapes Go.WideShapes Go.ChangeAt Go.RowKit Go.WideMaps Go.WideElems Go.Joins
open Go.ChangeMaps (open_string)
set_option maxRecDepth 100000

theorem leavesJ_contract (H : Type) (enc : TypeId × Value → H) (F : Stop.Interp) (W : World) (base : Nat) (args : Array Value) (ds gs : List (DataW H)) (before : List MemPlace)
    (hval0 : ∀ (j : Nat) t v, Tryd.f6.params[j]? = some t → args[j]? = some v → Value.okWide Tryd.prog W .any base t v)
    (hW : DataW.Whole enc Tryd.prog Tryd.f6.params.toList (OpenSpec.ofChange Rows.journalLeavesSpec).vars false W args.toList ds gs before)
    (hR : (DataW.weightsEach Tryd.prog (Tryd.f6.params.toList ++ (OpenSpec.ofChange Rows.journalLeavesSpec).bare.plain.varTypes Tryd.prog) (ds ++ gs)).all (· ≤ reachBytes) = true)
    (hL : laidMetH Tryd.prog Rows.journalLeavesRow.laid W) :
    Calls Tryd.prog 6 args W fun e W' => ∃ v, e = .returned v ∧ ((OpenSpec.ofChange Rows.journalLeavesSpec).at F).post enc Tryd.prog Tryd.f6 false true false false W args v W' := by
  have hW' := hW
  have hval : ∀ (j : Nat) t v, Tryd.f6.params[j]? = some t → args[j]? = some v → Value.okWide Tryd.prog W .any base t v := hval0
  obtain ⟨p, q, hA0, hV, rfl, hfz, hnd⟩ := hW
  have hA : DataW.TrodAll enc Tryd.prog W 0 (fun _ => true) true Tryd.f6.params.toList args.toList ds p := hA0
  rw [Tryd.params6] at hA hval hR
  obtain ⟨v0, v1, v2, d0, d1, d2, p0, p1, p2, rfl, rfl, rfl, h0, h1, h2⟩ := trodAll_three hA
  obtain ⟨rfl, rfl⟩ := trodVars_none hV
  have h0k := h0
  have h1k := h1
  have h2k := h2
  obtain ⟨s0, rfl, rfl, rfl, wf0⟩ := open_int Tryd.underlying3 (hval 0 3 v0 rfl rfl) h0
  obtain ⟨lo0, hi0⟩ := bounds_i64 wf0
  obtain ⟨s1, rfl, rfl, rfl, wf1⟩ := open_int Tryd.underlying3 (hval 1 3 v1 rfl rfl) h1
  obtain ⟨lo1, hi1⟩ := bounds_i64 wf1
  obtain ⟨sa2, sl2, sc2, rfl⟩ := okWide_slice Tryd.underlying61 (hval 2 61 v2 rfl rfl)
  obtain ⟨n2, h2⟩ := h2
  obtain ⟨g2, o2, s2, hok2, hst2⟩ := livesJ_of_trod h2 (Reach.each hR (j := 2) rfl rfl)
  obtain ⟨⟨ad, hE⟩, hT⟩ := errs_leavesJ hL
  clear hA0 hval0 hR
  simp only [List.append_nil] at hW'
  refine (leavesJ_any ad s0 s1 _ g2 o2 s2 W hst2.le hok2 hst2 hE hT).mono ?_
  rintro e W' ⟨rfl, k⟩
  have bel : Below W.heap.size W W' := k.below
  have hlt := fun x hx => hW'.lt x hx
  refine ⟨_, rfl, _, _, _, [], p2, [], hW', ?_, ?_, ?_, bel.frame _, fun h => by cases h⟩
  · exact trodAll_mk1 (shut_bool Tryd.underlying4 _)
  · have tm := trodAll_mk3 (Below.trod laidOut (by kernel_rfl) (of_decide_eq_true (by kernel_rfl)) h0k bel (fun x hx => by simp at hx)) (Below.trod laidOut (by kernel_rfl) (of_decide_eq_true (by kernel_rfl)) h1k bel (fun x hx => by simp at hx)) (Below.trod laidOut (by kernel_rfl) (of_decide_eq_true (by kernel_rfl)) h2k bel (fun x hx => hlt x (by first | exact hx | simp [hx])))
    first | exact tm | (simp only [List.nil_append, List.append_nil, List.append_assoc] at tm ⊢; exact tm)
  · rfl

/-- The witness: nothing, in a start into which the listed variables are laid. -/
noncomputable def leavesJArgs : Array Value := #[.int .i64 0, .int .i64 0, .slice none 0 0]

theorem leavesJ_reads (os : Os) {H : Type} (enc : TypeId × Value → H) : (DataW.whole enc Tryd.prog ((doorJ os).forCall (fun _ _ => 0) ⟨#[], leavesJArgs, []⟩).memory Tryd.f6.params.toList (OpenSpec.ofChange Rows.journalLeavesSpec).vars false leavesJArgs.toList 8).map (fun x => (x.1, x.2.1)) =
    some ([.lit (.int .i64 0), .lit (.int .i64 0), .nil], []) := by kernel_rfl

theorem leavesJ_lifted (os : Os) (started : os.Started) (H : Type) (enc : TypeId × Value → H) (F : Stop.Interp) :
    ReturnsInHanded {} Tryd.checked os 6 .any ((OpenSpec.ofChange Rows.journalLeavesSpec).preRow enc Tryd.prog Tryd.f6 Rows.journalLeavesRow.domain false Rows.journalLeavesRow.laid) (((OpenSpec.ofChange Rows.journalLeavesSpec).at F).post enc Tryd.prog Tryd.f6 false true false false) := by
  obtain ⟨⟨x1, x2, x3⟩, hx, hx1⟩ := Option.map_eq_some_iff.1 (leavesJ_reads os enc)
  simp only [Prod.mk.injEq] at hx1
  obtain ⟨rfl, rfl⟩ := hx1
  refine returnsInHanded_of_row (C := Tryd.checked) (s := (OpenSpec.ofChange Rows.journalLeavesSpec)) own' started (by kernel_rfl) Tryd.func6
    (witness_laid (enc := enc) (C := Tryd.checked) false (doorJ os) leavesJArgs (World.laidAll_os _ _ _) (World.shaped_of_ZipB (by kernel_rfl) (by kernel_rfl)) (by kernel_rfl)
      (OpenSpec.preRow_of_cond 8 hx (by kernel_rfl) (fun k hk => by cases hk) (by kernel_rfl) (doorJ_met os leavesJArgs))) ?_
  intro W base args ds gs before hval hW _ _ hR hL _ _
  exact leavesJ_contract H enc F W base args ds gs before hval hW hR hL

theorem leavesJ_said : Rows.JournalLeavesSaid :=
  OpenClaim.holds_of_cond 6 Tryd.f6 rfl rfl rfl rfl rfl rfl rfl ⟨rfl, rfl, rfl, rfl, rfl⟩ rfl rfl rfl rfl rfl (by kernel_rfl) Tryd.func6 (by kernel_rfl)
    (of_decide_eq_true (by kernel_rfl)) (by unfold Func.isWrapper; rw [if_neg (of_decide_eq_false (by kernel_rfl))]; exact ⟨rfl, rfl⟩)
    (fun os started H enc _ F => by rw [OpenClaim.pre_eq_preRow]; exact leavesJ_lifted os started H enc F)

theorem leavesJ_plain (f : FuncId) (fn : Func) (hf : Tryd.pinned.checked.prog.funcNamed "remit/remitlaw10.JournalLeaves" = some f) (hfn : Tryd.pinned.checked.prog.funcs[f]? = some fn) :
    true = Tryd.pinned.checked.prog.looks [] ∧ ∀ (j : Nat) t, fn.params[j]? = some t → Tryd.pinned.checked.prog.wantsStandIn t = false := by
  obtain rfl : f = 6 := Option.some.inj ((show Tryd.prog.funcNamed "remit/remitlaw10.JournalLeaves" = some 6 by kernel_rfl).symm.trans hf) |>.symm
  obtain rfl : fn = Tryd.f6 := (Option.some.inj (Tryd.func6.symm.trans hfn)).symm
  refine ⟨by kernel_rfl, fun j t ht => ?_⟩
  rw [Tryd.params6] at ht
  have hm : t ∈ [3, 3, 61] := by simpa using Array.mem_of_getElem? ht
  have hall : ([3, 3, 61].all fun u => !Tryd.prog.wantsStandIn u) = true := by kernel_rfl
  exact (show Tryd.prog.wantsStandIn t = false by simpa using List.all_eq_true.1 hall t hm)

/-- THE FIRST FORM's CARD OF JournalLeaves. -/
theorem journalLeaves_card : Rows.JournalLeavesCardSaid :=
  Claim7.holds_tied_plain_at .later [] _ _ _ _ leavesJ_said (fun _ h => by cases h) (by kernel_rfl) (fun _ h => by cases h) journalLeaves_row_tie rfl ⟨rfl, rfl⟩ (by kernel_rfl) rfl leavesJ_plain (by kernel_rfl)
end Go.Proofs.YtggogaaooacooaaDoor
