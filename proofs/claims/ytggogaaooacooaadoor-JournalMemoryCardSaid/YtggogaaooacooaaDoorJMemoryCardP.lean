/-
  JournalMemory (rule 5, rule 9): lists handed out are new memory each time; an iterator tells what was there when it was made, as often as it is asked, and may be broken off; what is overwritten behind it is told by later calls alone. Proved here: the first form's card: for every list of sizes and place to stop the law answers true and its arguments read as before.
-/
import Derived.Test.YtggogaaooacooaaDoorP44
import Derived.Test.YtggogaaooacooaaDoorP45
import Derived.Test.YtggogaaooacooaaDoorP46
import Derived.Test.YtggogaaooacooaaDoorCards
import Derived.Test.YtggogaaooacooaaDoorTie
import Derived.Carry
import Derived.ChangeMaps5
import Derived.SizedLaws
namespace Go.Proofs.YtggogaaooacooaaDoor
open Go.ChangeShapes Go.WideShapes Go.ChangeAt Go.RowKit Go.WideMaps Go.WideElems Go.Joins
open Go.ChangeMaps (open_string)
set_option maxRecDepth 100000

theorem memoryJ_contract (H : Type) (enc : TypeId × Value → H) (F : Stop.Interp) (W : World) (base : Nat) (args : Array Value) (ds gs : List (DataW H)) (before : List MemPlace)
    (hval0 : ∀ (j : Nat) t v, Tryd.f7.params[j]? = some t → args[j]? = some v → Value.okWide Tryd.prog W .any base t v)
    (hW : DataW.Whole enc Tryd.prog Tryd.f7.params.toList (OpenSpec.ofChange Rows.journalMemorySpec).vars false W args.toList ds gs before)
    (hR : (DataW.weightsEach Tryd.prog (Tryd.f7.params.toList ++ (OpenSpec.ofChange Rows.journalMemorySpec).bare.plain.varTypes Tryd.prog) (ds ++ gs)).all (· ≤ reachBytes) = true)
    (hL : laidMetH Tryd.prog Rows.journalMemoryRow.laid W) :
    Calls Tryd.prog 7 args W fun e W' => ∃ v, e = .returned v ∧ ((OpenSpec.ofChange Rows.journalMemorySpec).at F).post enc Tryd.prog Tryd.f7 false true false false W args v W' := by
  have hW' := hW
  have hval : ∀ (j : Nat) t v, Tryd.f7.params[j]? = some t → args[j]? = some v → Value.okWide Tryd.prog W .any base t v := hval0
  obtain ⟨p, q, hA0, hV, rfl, hfz, hnd⟩ := hW
  have hA : DataW.TrodAll enc Tryd.prog W 0 (fun _ => true) true Tryd.f7.params.toList args.toList ds p := hA0
  rw [Tryd.params7] at hA hval hR
  obtain ⟨v0, v1, d0, d1, p0, p1, rfl, rfl, rfl, h0, h1⟩ := trodAll_two hA
  obtain ⟨rfl, rfl⟩ := trodVars_none hV
  have h0k := h0
  have h1k := h1
  obtain ⟨sa0, sl0, sc0, rfl⟩ := okWide_slice Tryd.underlying62 (hval 0 62 v0 rfl rfl)
  obtain ⟨n0, h0⟩ := h0
  obtain ⟨s0, hok0, hln0⟩ := nums_of_trod h0 (Reach.each hR (j := 0) rfl rfl)
  obtain ⟨s1, rfl, rfl, rfl, wf1⟩ := open_int Tryd.underlying3 (hval 1 3 v1 rfl rfl) h1
  obtain ⟨lo1, hi1⟩ := bounds_i64 wf1
  obtain ⟨⟨ad, hE⟩, hT⟩ := errs_memoryJ hL
  clear hA0 hval0 hR
  simp only [List.append_nil] at hW'
  refine (memoryJ_any ad _ s0 s1 W hok0 hln0 hE hT).mono ?_
  rintro e W' ⟨rfl, k⟩
  have bel : Below W.heap.size W W' := k.below
  have hlt := fun x hx => hW'.lt x hx
  refine ⟨_, rfl, _, _, _, [], p0, [], hW', ?_, ?_, ?_, bel.frame _, fun h => by cases h⟩
  · exact trodAll_mk1 (shut_bool Tryd.underlying4 _)
  · have tm := trodAll_mk2 (Below.trod laidOut (by kernel_rfl) (of_decide_eq_true (by kernel_rfl)) h0k bel (fun x hx => hlt x (by first | exact hx | simp [hx]))) (Below.trod laidOut (by kernel_rfl) (of_decide_eq_true (by kernel_rfl)) h1k bel (fun x hx => by simp at hx))
    first | exact tm | (simp only [List.append_nil] at tm ⊢; exact tm)
  · rfl

/-- The witness: nothing, in a start into which the listed variables are laid. -/
noncomputable def memoryJArgs : Array Value := #[.slice none 0 0, .int .i64 0]

theorem memoryJ_reads (os : Os) {H : Type} (enc : TypeId × Value → H) : (DataW.whole enc Tryd.prog ((doorJ os).forCall (fun _ _ => 0) ⟨#[], memoryJArgs, []⟩).memory Tryd.f7.params.toList (OpenSpec.ofChange Rows.journalMemorySpec).vars false memoryJArgs.toList 8).map (fun x => (x.1, x.2.1)) =
    some ([.nil, .lit (.int .i64 0)], []) := by kernel_rfl

theorem memoryJ_lifted (os : Os) (started : os.Started) (H : Type) (enc : TypeId × Value → H) (F : Stop.Interp) :
    ReturnsInHanded {} Tryd.checked os 7 .any ((OpenSpec.ofChange Rows.journalMemorySpec).preRow enc Tryd.prog Tryd.f7 Rows.journalMemoryRow.domain false Rows.journalMemoryRow.laid) (((OpenSpec.ofChange Rows.journalMemorySpec).at F).post enc Tryd.prog Tryd.f7 false true false false) := by
  obtain ⟨⟨x1, x2, x3⟩, hx, hx1⟩ := Option.map_eq_some_iff.1 (memoryJ_reads os enc)
  simp only [Prod.mk.injEq] at hx1
  obtain ⟨rfl, rfl⟩ := hx1
  refine returnsInHanded_of_row (C := Tryd.checked) (s := (OpenSpec.ofChange Rows.journalMemorySpec)) own' started (by kernel_rfl) Tryd.func7
    (witness_laid (enc := enc) (C := Tryd.checked) false (doorJ os) memoryJArgs (World.laidAll_os _ _ _) (World.shaped_of_ZipB (by kernel_rfl) (by kernel_rfl)) (by kernel_rfl)
      (OpenSpec.preRow_of_cond 8 hx (by kernel_rfl) (fun k hk => by cases hk) (by kernel_rfl) (doorJ_met os memoryJArgs))) ?_
  intro W base args ds gs before hval hW _ _ hR hL _ _
  exact memoryJ_contract H enc F W base args ds gs before hval hW hR hL

theorem memoryJ_said : Rows.JournalMemorySaid :=
  OpenClaim.holds_of_cond 7 Tryd.f7 rfl rfl rfl rfl rfl rfl rfl ⟨rfl, rfl, rfl, rfl, rfl⟩ rfl rfl rfl rfl rfl (by kernel_rfl) Tryd.func7 (by kernel_rfl)
    (of_decide_eq_true (by kernel_rfl)) (by unfold Func.isWrapper; rw [if_neg (of_decide_eq_false (by kernel_rfl))]; exact ⟨rfl, rfl⟩)
    (fun os started H enc _ F => by rw [OpenClaim.pre_eq_preRow]; exact memoryJ_lifted os started H enc F)

theorem memoryJ_plain (f : FuncId) (fn : Func) (hf : Tryd.pinned.checked.prog.funcNamed "remit/remitlaw10.JournalMemory" = some f) (hfn : Tryd.pinned.checked.prog.funcs[f]? = some fn) :
    true = Tryd.pinned.checked.prog.looks [] ∧ ∀ (j : Nat) t, fn.params[j]? = some t → Tryd.pinned.checked.prog.wantsStandIn t = false := by
  obtain rfl : f = 7 := Option.some.inj ((show Tryd.prog.funcNamed "remit/remitlaw10.JournalMemory" = some 7 by kernel_rfl).symm.trans hf) |>.symm
  obtain rfl : fn = Tryd.f7 := (Option.some.inj (Tryd.func7.symm.trans hfn)).symm
  refine ⟨by kernel_rfl, fun j t ht => ?_⟩
  rw [Tryd.params7] at ht
  have hm : t ∈ [62, 3] := by simpa using Array.mem_of_getElem? ht
  have hall : ([62, 3].all fun u => !Tryd.prog.wantsStandIn u) = true := by kernel_rfl
  exact (show Tryd.prog.wantsStandIn t = false by simpa using List.all_eq_true.1 hall t hm)

/-- THE FIRST FORM's CARD OF JournalMemory. -/
theorem journalMemory_card : Rows.JournalMemoryCardSaid :=
  Claim7.holds_tied_plain_at .later [] _ _ _ _ memoryJ_said (fun _ h => by cases h) (by kernel_rfl) (fun _ h => by cases h) journalMemory_row_tie rfl ⟨rfl, rfl⟩ (by kernel_rfl) rfl memoryJ_plain (by kernel_rfl)
end Go.Proofs.YtggogaaooacooaaDoor
