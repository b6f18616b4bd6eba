/-
  BatchBetween (P12.4): every Between; it makes the one table of the other, its keys rise, and each of its ops is needed. Proved here: the second form's card: for all arguments of bulk at most 1048576 the law answers true and its arguments read as before.
-/
import Derived.Test.YtffjleceogablaaDoorP47
import Derived.Test.YtffjleceogablaaDoorP26
import Derived.Test.YtffjleceogablaaDoorP28
import Derived.Test.YtffjleceogablaaDoorCards
import Derived.Test.YtffjleceogablaaDoorTie
import Derived.Carry
import Derived.ChangeMaps5
import Derived.SizedLaws
namespace Go.Proofs.YtffjleceogablaaDoor
open Go.ChangeShapes Go.WideShapes Go.ChangeAt Go.RowKit Go.WideMaps Go.WideElems Go.Joins
open Go.ChangeMaps (open_string)
set_option maxRecDepth 100000

theorem betweenB_contract (H : Type) (enc : TypeId × Value → H) (F : Stop.Interp) (W : World) (base : Nat) (args : Array Value) (ds gs : List (DataW H)) (before : List MemPlace)
    (hval0 : ∀ (j : Nat) t v, Tryd.f8.params[j]? = some t → args[j]? = some v → Value.okWide Tryd.prog W .any base t v)
    (hW : DataW.Whole enc Tryd.prog Tryd.f8.params.toList (Rows.OpenSpec.upto Rows.batchBetweenSpec).vars false W args.toList ds gs before)
    (hk : Rows.uptoSmall H (ds ++ gs) = true)
    (hR : (DataW.weightsEach Tryd.prog (Tryd.f8.params.toList ++ (Rows.OpenSpec.upto Rows.batchBetweenSpec).bare.plain.varTypes Tryd.prog) (ds ++ gs)).all (· ≤ reachBytes) = true)
    (hL : laidMetH Tryd.prog Rows.batchBetweenUptoRow.laid W) :
    Calls Tryd.prog 8 args W fun e W' => ∃ v, e = .returned v ∧ ((Rows.OpenSpec.upto Rows.batchBetweenSpec).at F).post enc Tryd.prog Tryd.f8 false true false false W args v W' := by
  have hW' := hW
  have hval : ∀ (j : Nat) t v, Tryd.f8.params[j]? = some t → args[j]? = some v → Value.okWide Tryd.prog W .any base t v := hval0
  obtain ⟨p, q, hA0, hV, rfl, hfz, hnd⟩ := hW
  have hA : DataW.TrodAll enc Tryd.prog W 0 (fun _ => true) true Tryd.f8.params.toList args.toList ds p := hA0
  rw [Tryd.params8] at hA hval hR
  obtain ⟨v0, v1, d0, d1, p0, p1, rfl, rfl, rfl, h0, h1⟩ := trodAll_two hA
  obtain ⟨rfl, rfl⟩ := trodVars_none hV
  have h0k := h0
  have h1k := h1
  have hb : Rows.uptoBulk d0 + (Rows.uptoBulk d1 + 0) ≤ 1048576 := by
    have h := of_decide_eq_true hk
    simpa only [List.append_nil, Rows.uptoBulkAll] using h
  obtain ⟨sa0, sl0, sc0, rfl⟩ := okWide_slice Tryd.underlying45 (hval 0 45 v0 rfl rfl)
  obtain ⟨n0, h0⟩ := h0
  obtain ⟨g0, o0, s0, hr0, hu0⟩ := rows12_of_trod h0 (Reach.each hR (j := 0) rfl rfl)
  have hw0 : Tb.bytes s0 + s0.length ≤ Rows.uptoBulk d0 := hu0
  obtain ⟨sa1, sl1, sc1, rfl⟩ := okWide_slice Tryd.underlying45 (hval 1 45 v1 rfl rfl)
  obtain ⟨n1, h1⟩ := h1
  obtain ⟨g1, o1, s1, hr1, hu1⟩ := rows12_of_trod h1 (Reach.each hR (j := 1) rfl rfl)
  have hw1 : Tb.bytes s1 + s1.length ≤ Rows.uptoBulk d1 := hu1
  obtain ⟨ad, hE⟩ := errs_between12 hL
  clear hA0 hval0 hR hk
  simp only [List.append_nil] at hW'
  refine (between_law W hE hr0 hr1 (by omega) (by omega) (by omega)).mono ?_
  rintro e W' ⟨rfl, k⟩
  have bel : Below W.heap.size W W' := k.below
  have hlt := fun x hx => hW'.lt x hx
  refine ⟨_, rfl, _, _, _, [], p0 ++ p1, [], hW', ?_, ?_, ?_, bel.frame _, fun h => by cases h⟩
  · exact trodAll_mk1 (shut_bool Tryd.underlying4 _)
  · have tm := trodAll_mk2 (Below.trod laidOut (by kernel_rfl) (of_decide_eq_true (by kernel_rfl)) h0k bel (fun x hx => hlt x (by first | exact hx | simp [hx]))) (Below.trod laidOut (by kernel_rfl) (of_decide_eq_true (by kernel_rfl)) h1k bel (fun x hx => hlt x (by first | exact hx | simp [hx])))
    first | exact tm | (simp only [List.nil_append, List.append_nil, List.append_assoc] at tm ⊢; exact tm)
  · rfl

/-- The witness: nothing, in a start into which the listed variables are laid. -/
noncomputable def betweenBArgs : Array Value := #[.slice none 0 0, .slice none 0 0]

theorem betweenB_reads (os : Os) {H : Type} (enc : TypeId × Value → H) : (DataW.whole enc Tryd.prog ((doorB2 os).forCall (fun _ _ => 0) ⟨#[], betweenBArgs, []⟩).memory Tryd.f8.params.toList (Rows.OpenSpec.upto Rows.batchBetweenSpec).vars false betweenBArgs.toList 8).map (fun x => (x.1, x.2.1)) =
    some ([.nil, .nil], []) := by kernel_rfl

theorem betweenB_lifted (os : Os) (started : os.Started) (H : Type) (enc : TypeId × Value → H) (F : Stop.Interp) :
    ReturnsInHanded {} Tryd.checked os 8 .any ((Rows.OpenSpec.upto Rows.batchBetweenSpec).preRow enc Tryd.prog Tryd.f8 Rows.batchBetweenUptoRow.domain false Rows.batchBetweenUptoRow.laid) (((Rows.OpenSpec.upto Rows.batchBetweenSpec).at F).post enc Tryd.prog Tryd.f8 false true false false) := by
  obtain ⟨⟨x1, x2, x3⟩, hx, hx1⟩ := Option.map_eq_some_iff.1 (betweenB_reads os enc)
  simp only [Prod.mk.injEq] at hx1
  obtain ⟨rfl, rfl⟩ := hx1
  refine returnsInHanded_of_row (C := Tryd.checked) (s := (Rows.OpenSpec.upto Rows.batchBetweenSpec)) own' started (by kernel_rfl) Tryd.func8
    (witness_laid (enc := enc) (C := Tryd.checked) false (doorB2 os) betweenBArgs (World.laidAll_os _ _ _) (World.shaped_of_ZipB (by kernel_rfl) (by kernel_rfl)) (by kernel_rfl)
      (OpenSpec.preRow_of_cond 8 hx (by kernel_rfl) (fun k hk => by cases hk; kernel_rfl) (by kernel_rfl) (doorB2_met os betweenBArgs))) ?_
  intro W base args ds gs before hval hW _ hcond hR hL _ _
  exact betweenB_contract H enc F W base args ds gs before hval hW (hcond _ rfl) hR hL

theorem betweenB_said : Rows.BatchBetweenUptoSaid :=
  OpenClaim.holds_of_cond 8 Tryd.f8 rfl rfl rfl rfl rfl rfl rfl ⟨rfl, rfl, rfl, rfl, rfl⟩ rfl rfl rfl rfl rfl (by kernel_rfl) Tryd.func8 (by kernel_rfl)
    (of_decide_eq_true (by kernel_rfl)) (by unfold Func.isWrapper; rw [if_neg (of_decide_eq_false (by kernel_rfl))]; exact ⟨rfl, rfl⟩)
    (fun os started H enc _ F => by rw [OpenClaim.pre_eq_preRow]; exact betweenB_lifted os started H enc F)

theorem betweenB_plain (f : FuncId) (fn : Func) (hf : Tryd.pinned.checked.prog.funcNamed "remit/remitlaw12.BatchBetween" = some f) (hfn : Tryd.pinned.checked.prog.funcs[f]? = some fn) :
    true = Tryd.pinned.checked.prog.looks [] ∧ ∀ (j : Nat) t, fn.params[j]? = some t → Tryd.pinned.checked.prog.wantsStandIn t = false := by
  obtain rfl : f = 8 := Option.some.inj ((show Tryd.prog.funcNamed "remit/remitlaw12.BatchBetween" = some 8 by kernel_rfl).symm.trans hf) |>.symm
  obtain rfl : fn = Tryd.f8 := (Option.some.inj (Tryd.func8.symm.trans hfn)).symm
  refine ⟨by kernel_rfl, fun j t ht => ?_⟩
  rw [Tryd.params8] at ht
  have hm : t ∈ [45, 45] := by simpa using Array.mem_of_getElem? ht
  have hall : ([45, 45].all fun u => !Tryd.prog.wantsStandIn u) = true := by kernel_rfl
  exact (show Tryd.prog.wantsStandIn t = false by simpa using List.all_eq_true.1 hall t hm)

/-- THE SECOND FORM's CARD OF BatchBetween. -/
theorem batchBetween_card : Rows.BatchBetweenUptoCardSaid :=
  Claim7.holds_tied_plain_at .later [] _ _ _ _ betweenB_said (fun _ h => by cases h) (by kernel_rfl) (fun _ h => by cases h) batchBetweenUpto_row_tie rfl ⟨rfl, rfl⟩ (by kernel_rfl) rfl betweenB_plain (by kernel_rfl)
end Go.Proofs.YtffjleceogablaaDoor
