/-
  SlotsKeeps (P8.2, P8.3): behind any crash Read tells the last version that was acknowledged, or the one that wasn't, whole; behind an acknowledged one no crash changes anything. Proved here: the first form's card: for every list of steps the law answers true and its arguments read as before.
-/
import Derived.Test.YtnnkibhlildojaaDoorGKeepsQ5
import Derived.Test.YtnnkibhlildojaaDoorGDoorBQ5
import Derived.Test.YtnnkibhlildojaaDoorGLiftQ5
import Derived.Test.YtnnkibhlildojaaDoorCards
import Derived.Test.YtnnkibhlildojaaDoorTie
import Derived.Carry
import Derived.ChangeMaps5
import Derived.SizedLaws
namespace Go.Proofs.YtnnkibhlildojaaDoor
open Go.ChangeShapes Go.WideShapes Go.ChangeAt Go.RowKit Go.WideMaps Go.WideElems
open Go.ChangeMaps (open_string)
set_option maxRecDepth 100000

theorem keeps8_contract (H : Type) (enc : TypeId × Value → H) (F : Stop.Interp) (W : World) (base : Nat) (args : Array Value) (ds gs : List (DataW H)) (before : List MemPlace)
    (hval0 : ∀ (j : Nat) t v, Tryd.f5.params[j]? = some t → args[j]? = some v → Value.okWide Tryd.prog W .any base t v)
    (hW : DataW.Whole enc Tryd.prog Tryd.f5.params.toList (OpenSpec.ofChange Rows.slotsKeepsSpec).vars false W args.toList ds gs before)
    (hR : (DataW.weightsEach Tryd.prog (Tryd.f5.params.toList ++ (OpenSpec.ofChange Rows.slotsKeepsSpec).bare.plain.varTypes Tryd.prog) (ds ++ gs)).all (· ≤ reachBytes) = true)
    (hL : laidMetH Tryd.prog Rows.slotsKeepsRow.laid W) :
    Calls Tryd.prog 5 args W fun e W' => ∃ v, e = .returned v ∧ ((OpenSpec.ofChange Rows.slotsKeepsSpec).at F).post enc Tryd.prog Tryd.f5 false true false false W args v W' := by
  have hW' := hW
  have hval : ∀ (j : Nat) t v, Tryd.f5.params[j]? = some t → args[j]? = some v → Value.okWide Tryd.prog W .any base t v := hval0
  obtain ⟨p, q, hA0, hV, rfl, hfz, hnd⟩ := hW
  have hA : DataW.TrodAll enc Tryd.prog W 0 (fun _ => true) true Tryd.f5.params.toList args.toList ds p := hA0
  rw [Tryd.params5] at hA hval hR
  obtain ⟨v0, d0, rfl, rfl, h0⟩ := trodAll_one hA
  obtain ⟨rfl, rfl⟩ := trodVars_none hV
  have h0k := h0
  obtain ⟨sa0, sl0, sc0, rfl⟩ := okWide_slice Tryd.underlying48 (hval 0 48 v0 rfl rfl)
  obtain ⟨n0, h0⟩ := h0
  obtain ⟨g0, o0, s0, hok0, hst0, hd0⟩ := open_recs (f := StD.list) (P := (StD.Ok W)) Tryd.underlying48 cellsStep8 (by decide) (fun o => rfl) step_of_trod (c := .slice sa0 sl0 sc0) h0
  have hlen0 := recs_len Tryd.underlying48 bytesStep8 (by decide) hR (j := 0) (xs := s0) (d := d0) rfl rfl hd0
  obtain ⟨⟨ad, hE⟩, hT⟩ := errs_keeps hL
  clear hA0 hval0 hR
  simp only [List.append_nil] at hW'
  refine (keeps8_any ad _ g0 o0 s0 W hok0 (hst0 hlen0) hE hT).mono ?_
  rintro e W' ⟨rfl, k⟩
  have bel : Below W.heap.size W W' := k.below
  have hlt := fun x hx => hW'.lt x hx
  refine ⟨_, rfl, _, _, _, [], p, [], hW', ?_, ?_, ?_, bel.frame _, fun h => by cases h⟩
  · exact trodAll_mk1 (shut_bool Tryd.underlying4 _)
  · have tm := trodAll_mk1 (Below.trod laidOut (by kernel_rfl) (of_decide_eq_true (by kernel_rfl)) h0k bel (fun x hx => hlt x (by first | exact hx | simp [hx])))
    exact tm
  · rfl

/-- The witness: nothing, in a start into which the listed variables are laid. -/
noncomputable def keeps8Args : Array Value := #[.slice none 0 0]

theorem keeps8_reads (os : Os) {H : Type} (enc : TypeId × Value → H) : (DataW.whole enc Tryd.prog ((doorB os).forCall (fun _ _ => 0) ⟨#[], keeps8Args, []⟩).memory Tryd.f5.params.toList (OpenSpec.ofChange Rows.slotsKeepsSpec).vars false keeps8Args.toList 8).map (fun x => (x.1, x.2.1)) =
    some ([.nil], []) := by kernel_rfl

theorem keeps8_lifted (os : Os) (started : os.Started) (H : Type) (enc : TypeId × Value → H) (F : Stop.Interp) :
    ReturnsInHanded {} Tryd.checked os 5 .any ((OpenSpec.ofChange Rows.slotsKeepsSpec).preRow enc Tryd.prog Tryd.f5 Rows.slotsKeepsRow.domain false Rows.slotsKeepsRow.laid) (((OpenSpec.ofChange Rows.slotsKeepsSpec).at F).post enc Tryd.prog Tryd.f5 false true false false) := by
  obtain ⟨⟨x1, x2, x3⟩, hx, hx1⟩ := Option.map_eq_some_iff.1 (keeps8_reads os enc)
  simp only [Prod.mk.injEq] at hx1
  obtain ⟨rfl, rfl⟩ := hx1
  refine returnsInHanded_of_row (C := Tryd.checked) (s := (OpenSpec.ofChange Rows.slotsKeepsSpec)) own' started (by kernel_rfl) Tryd.func5
    (witness_laid (enc := enc) (C := Tryd.checked) false (doorB os) keeps8Args (World.laidAll_os _ _ _) (World.shaped_of_ZipB (by kernel_rfl) (by kernel_rfl)) (by kernel_rfl)
      (OpenSpec.preRow_of_cond 8 hx (by kernel_rfl) (fun k hk => by cases hk) (by kernel_rfl) (doorB_met os keeps8Args))) ?_
  intro W base args ds gs before hval hW _ _ hR hL _ _
  exact keeps8_contract H enc F W base args ds gs before hval hW hR hL

theorem keeps8_said : Rows.SlotsKeepsSaid :=
  OpenClaim.holds_of_cond 5 Tryd.f5 rfl rfl rfl rfl rfl rfl rfl ⟨rfl, rfl, rfl, rfl, rfl⟩ rfl rfl rfl rfl rfl (by kernel_rfl) Tryd.func5 (by kernel_rfl)
    (of_decide_eq_true (by kernel_rfl)) (by unfold Func.isWrapper; rw [if_neg (of_decide_eq_false (by kernel_rfl))]; exact ⟨rfl, rfl⟩)
    (fun os started H enc _ F => by rw [OpenClaim.pre_eq_preRow]; exact keeps8_lifted os started H enc F)

theorem keeps8_plain (f : FuncId) (fn : Func) (hf : Tryd.pinned.checked.prog.funcNamed "remit/remitlaw08.SlotsKeeps" = some f) (hfn : Tryd.pinned.checked.prog.funcs[f]? = some fn) :
    true = Tryd.pinned.checked.prog.looks [] ∧ ∀ (j : Nat) t, fn.params[j]? = some t → Tryd.pinned.checked.prog.wantsStandIn t = false := by
  obtain rfl : f = 5 := Option.some.inj ((show Tryd.prog.funcNamed "remit/remitlaw08.SlotsKeeps" = some 5 by kernel_rfl).symm.trans hf) |>.symm
  obtain rfl : fn = Tryd.f5 := (Option.some.inj (Tryd.func5.symm.trans hfn)).symm
  refine ⟨by kernel_rfl, fun j t ht => ?_⟩
  rw [Tryd.params5] at ht
  have hm : t ∈ [48] := by simpa using Array.mem_of_getElem? ht
  have hall : ([48].all fun u => !Tryd.prog.wantsStandIn u) = true := by kernel_rfl
  exact (show Tryd.prog.wantsStandIn t = false by simpa using List.all_eq_true.1 hall t hm)

/-- THE FIRST FORM's CARD OF SlotsKeeps. -/
theorem slotsKeeps_card : Rows.SlotsKeepsCardSaid :=
  Claim7.holds_tied_plain_at .later [] _ _ _ _ keeps8_said (fun _ h => by cases h) (by kernel_rfl) (fun _ h => by cases h) slotsKeeps_row_tie rfl ⟨rfl, rfl⟩ (by kernel_rfl) rfl keeps8_plain (by kernel_rfl)
end Go.Proofs.YtnnkibhlildojaaDoor
