/-
  BatchNormals (P12.1, P12.3): every Normal; of what is normal it is that; what is handed in stays, and the answer is new. Proved here: the first form's card: for every list of ops the law answers true and its argument reads as before.
-/
import Derived.Test.YtffjleceogablaaDoorBLawN
import Derived.Test.YtffjleceogablaaDoorBLiftN
import Derived.Test.YtffjleceogablaaDoorBDoorN
import Derived.Test.YtffjleceogablaaDoorCards
import Derived.Test.YtffjleceogablaaDoorTie
import Derived.Carry
import Derived.ChangeMaps5
import Derived.SizedLaws
namespace Go.Proofs.YtffjleceogablaaDoor
open Go.ChangeShapes Go.WideShapes Go.ChangeAt Go.RowKit Go.WideMaps Go.WideElems Go.Joins
open Go.ChangeMaps (open_string)
set_option maxRecDepth 100000

theorem normalsB_contract (H : Type) (enc : TypeId × Value → H) (F : Stop.Interp) (W : World) (base : Nat) (args : Array Value) (ds gs : List (DataW H)) (before : List MemPlace)
    (hval0 : ∀ (j : Nat) t v, Tryd.f3.params[j]? = some t → args[j]? = some v → Value.okWide Tryd.prog W .any base t v)
    (hW : DataW.Whole enc Tryd.prog Tryd.f3.params.toList (OpenSpec.ofChange Rows.batchNormalsSpec).vars false W args.toList ds gs before)
    (hR : (DataW.weightsEach Tryd.prog (Tryd.f3.params.toList ++ (OpenSpec.ofChange Rows.batchNormalsSpec).bare.plain.varTypes Tryd.prog) (ds ++ gs)).all (· ≤ reachBytes) = true)
    (hL : laidMetH Tryd.prog Rows.batchNormalsRow.laid W) :
    Calls Tryd.prog 3 args W fun e W' => ∃ v, e = .returned v ∧ ((OpenSpec.ofChange Rows.batchNormalsSpec).at F).post enc Tryd.prog Tryd.f3 false true false false W args v W' := by
  have hW' := hW
  have hval : ∀ (j : Nat) t v, Tryd.f3.params[j]? = some t → args[j]? = some v → Value.okWide Tryd.prog W .any base t v := hval0
  obtain ⟨p, q, hA0, hV, rfl, hfz, hnd⟩ := hW
  have hA : DataW.TrodAll enc Tryd.prog W 0 (fun _ => true) true Tryd.f3.params.toList args.toList ds p := hA0
  rw [Tryd.params3] at hA hval hR
  obtain ⟨v0, d0, rfl, rfl, h0⟩ := trodAll_one hA
  obtain ⟨rfl, rfl⟩ := trodVars_none hV
  have h0k := h0
  obtain ⟨sa0, sl0, sc0, rfl⟩ := okWide_slice Tryd.underlying22 (hval 0 22 v0 rfl rfl)
  obtain ⟨n0, h0⟩ := h0
  obtain ⟨g0, o0, s0, hr0, hl0, hk0⟩ := opsN_of_trod h0 (Reach.each hR (j := 0) rfl rfl)
  obtain ⟨ad, hE⟩ := errs_normals12 hL
  clear hA0 hval0 hR
  simp only [List.append_nil] at hW'
  refine (normals_any W hE hr0 (by omega) hk0).mono ?_
  rintro e W' ⟨rfl, k⟩
  have bel : Below W.heap.size W W' := k.below
  have hlt := fun x hx => hW'.lt x hx
  refine ⟨_, rfl, _, _, _, [], p, [], hW', ?_, ?_, ?_, bel.frame _, fun h => by cases h⟩
  · exact trodAll_mk1 (shut_bool Tryd.underlying4 _)
  · have tm := trodAll_mk1 (Below.trod laidOut (by kernel_rfl) (of_decide_eq_true (by kernel_rfl)) h0k bel (fun x hx => hlt x (by first | exact hx | simp [hx])))
    first | exact tm | (simp only [List.nil_append, List.append_nil, List.append_assoc] at tm ⊢; exact tm)
  · rfl

/-- The witness: nothing, in a start into which the listed variables are laid. -/
noncomputable def normalsBArgs : Array Value := #[.slice none 0 0]

theorem normalsB_reads (os : Os) {H : Type} (enc : TypeId × Value → H) : (DataW.whole enc Tryd.prog ((doorB2 os).forCall (fun _ _ => 0) ⟨#[], normalsBArgs, []⟩).memory Tryd.f3.params.toList (OpenSpec.ofChange Rows.batchNormalsSpec).vars false normalsBArgs.toList 8).map (fun x => (x.1, x.2.1)) =
    some ([.nil], []) := by kernel_rfl

theorem normalsB_lifted (os : Os) (started : os.Started) (H : Type) (enc : TypeId × Value → H) (F : Stop.Interp) :
    ReturnsInHanded {} Tryd.checked os 3 .any ((OpenSpec.ofChange Rows.batchNormalsSpec).preRow enc Tryd.prog Tryd.f3 Rows.batchNormalsRow.domain false Rows.batchNormalsRow.laid) (((OpenSpec.ofChange Rows.batchNormalsSpec).at F).post enc Tryd.prog Tryd.f3 false true false false) := by
  obtain ⟨⟨x1, x2, x3⟩, hx, hx1⟩ := Option.map_eq_some_iff.1 (normalsB_reads os enc)
  simp only [Prod.mk.injEq] at hx1
  obtain ⟨rfl, rfl⟩ := hx1
  refine returnsInHanded_of_row (C := Tryd.checked) (s := (OpenSpec.ofChange Rows.batchNormalsSpec)) own' started (by kernel_rfl) Tryd.func3
    (witness_laid (enc := enc) (C := Tryd.checked) false (doorB2 os) normalsBArgs (World.laidAll_os _ _ _) (World.shaped_of_ZipB (by kernel_rfl) (by kernel_rfl)) (by kernel_rfl)
      (OpenSpec.preRow_of_cond 8 hx (by kernel_rfl) (fun k hk => by cases hk) (by kernel_rfl) (doorB2_met os normalsBArgs))) ?_
  intro W base args ds gs before hval hW _ _ hR hL _ _
  exact normalsB_contract H enc F W base args ds gs before hval hW hR hL

theorem normalsB_said : Rows.BatchNormalsSaid :=
  OpenClaim.holds_of_cond 3 Tryd.f3 rfl rfl rfl rfl rfl rfl rfl ⟨rfl, rfl, rfl, rfl, rfl⟩ rfl rfl rfl rfl rfl (by kernel_rfl) Tryd.func3 (by kernel_rfl)
    (of_decide_eq_true (by kernel_rfl)) (by unfold Func.isWrapper; rw [if_neg (of_decide_eq_false (by kernel_rfl))]; exact ⟨rfl, rfl⟩)
    (fun os started H enc _ F => by rw [OpenClaim.pre_eq_preRow]; exact normalsB_lifted os started H enc F)

theorem normalsB_plain (f : FuncId) (fn : Func) (hf : Tryd.pinned.checked.prog.funcNamed "remit/remitlaw12.BatchNormals" = some f) (hfn : Tryd.pinned.checked.prog.funcs[f]? = some fn) :
    true = Tryd.pinned.checked.prog.looks [] ∧ ∀ (j : Nat) t, fn.params[j]? = some t → Tryd.pinned.checked.prog.wantsStandIn t = false := by
  obtain rfl : f = 3 := Option.some.inj ((show Tryd.prog.funcNamed "remit/remitlaw12.BatchNormals" = some 3 by kernel_rfl).symm.trans hf) |>.symm
  obtain rfl : fn = Tryd.f3 := (Option.some.inj (Tryd.func3.symm.trans hfn)).symm
  refine ⟨by kernel_rfl, fun j t ht => ?_⟩
  rw [Tryd.params3] at ht
  have hm : t ∈ [22] := by simpa using Array.mem_of_getElem? ht
  have hall : ([22].all fun u => !Tryd.prog.wantsStandIn u) = true := by kernel_rfl
  exact (show Tryd.prog.wantsStandIn t = false by simpa using List.all_eq_true.1 hall t hm)

/-- THE FIRST FORM's CARD OF BatchNormals. -/
theorem batchNormals_card : Rows.BatchNormalsCardSaid :=
  Claim7.holds_tied_plain_at .later [] _ _ _ _ normalsB_said (fun _ h => by cases h) (by kernel_rfl) (fun _ h => by cases h) batchNormals_row_tie rfl ⟨rfl, rfl⟩ (by kernel_rfl) rfl normalsB_plain (by kernel_rfl)
end Go.Proofs.YtffjleceogablaaDoor
