/-
  SectorStamps (P7.5): unlike places and versions have unlike stamps; a greater version has greater ones at all places; none is 0. Proved here: the first form's card: for every versions and places the law answers true and its arguments read as before.
-/
import Derived.Test.YtojcpegdbnnmdaaDoorEStamps
import Derived.Test.YtojcpegdbnnmdaaDoorEDoor
import Derived.Test.YtojcpegdbnnmdaaDoorTrod
import Derived.Test.YtojcpegdbnnmdaaDoorCards
import Derived.Test.YtojcpegdbnnmdaaDoorTie
import Derived.Carry
import Derived.ChangeMaps5
import Derived.SizedLaws
namespace Go.Proofs.YtojcpegdbnnmdaaDoor
open Go.ChangeShapes Go.WideShapes Go.ChangeAt Go.RowKit Go.WideMaps Go.WideElems
open Go.ChangeMaps (open_string)
set_option maxRecDepth 100000

theorem stamps7_contract (H : Type) (enc : TypeId × Value → H) (F : Stop.Interp) (W : World) (base : Nat) (args : Array Value) (ds gs : List (DataW H)) (before : List MemPlace)
    (hval0 : ∀ (j : Nat) t v, Tryd.f7.params[j]? = some t → args[j]? = some v → Value.okWide Tryd.prog W .any base t v)
    (hW : DataW.Whole enc Tryd.prog Tryd.f7.params.toList (OpenSpec.ofChange Rows.sectorStampsSpec).vars false W args.toList ds gs before)
    (hR : (DataW.weightsEach Tryd.prog (Tryd.f7.params.toList ++ (OpenSpec.ofChange Rows.sectorStampsSpec).bare.plain.varTypes Tryd.prog) (ds ++ gs)).all (· ≤ reachBytes) = true)
    (hL : laidMetH Tryd.prog Rows.sectorStampsRow.laid W) :
    Calls Tryd.prog 7 args W fun e W' => ∃ v, e = .returned v ∧ ((OpenSpec.ofChange Rows.sectorStampsSpec).at F).post enc Tryd.prog Tryd.f7 false true false false W args v W' := by
  have hW' := hW
  have hval : ∀ (j : Nat) t v, Tryd.f7.params[j]? = some t → args[j]? = some v → Value.okWide Tryd.prog W .any base t v := hval0
  obtain ⟨p, q, hA0, hV, rfl, hfz, hnd⟩ := hW
  have hA : DataW.TrodAll enc Tryd.prog W 0 (fun _ => true) true Tryd.f7.params.toList args.toList ds p := hA0
  rw [Tryd.params7] at hA hval hR
  obtain ⟨v0, v1, v2, v3, d0, d1, d2, d3, p0, p1, p2, p3, rfl, rfl, rfl, h0, h1, h2, h3⟩ := trodAll_four hA
  obtain ⟨rfl, rfl⟩ := trodVars_none hV
  have h0k := h0
  have h1k := h1
  have h2k := h2
  have h3k := h3
  obtain ⟨s0, rfl, rfl, rfl, wf0⟩ := open_int Tryd.underlying3 (hval 0 3 v0 rfl rfl) h0
  obtain ⟨lo0, hi0⟩ := bounds_i64 wf0
  obtain ⟨s1, rfl, rfl, rfl, wf1⟩ := open_int Tryd.underlying3 (hval 1 3 v1 rfl rfl) h1
  obtain ⟨lo1, hi1⟩ := bounds_i64 wf1
  obtain ⟨s2, rfl, rfl, rfl, wf2⟩ := open_int Tryd.underlying3 (hval 2 3 v2 rfl rfl) h2
  obtain ⟨lo2, hi2⟩ := bounds_i64 wf2
  obtain ⟨s3, rfl, rfl, rfl, wf3⟩ := open_int Tryd.underlying3 (hval 3 3 v3 rfl rfl) h3
  obtain ⟨lo3, hi3⟩ := bounds_i64 wf3
  obtain ⟨⟨ad, hE⟩, hT⟩ := errs_stamps hL
  clear hA0 hval0 hR
  simp only [List.append_nil] at hW'
  refine (stamps_any ad s0 s1 s2 s3 W (by omega) (by omega) (by omega) (by omega) (by omega) (by omega) (by omega) (by omega) hE hT).mono ?_
  rintro e W' ⟨rfl, k⟩
  have bel : Below W.heap.size W W' := k.below
  have hlt := fun x hx => hW'.lt x hx
  refine ⟨_, rfl, _, _, _, [], [], [], hW', ?_, ?_, ?_, bel.frame _, fun h => by cases h⟩
  · exact trodAll_mk1 (shut_bool Tryd.underlying4 _)
  · have tm := trodAll_mk4 (Below.trod laidOut (by kernel_rfl) (of_decide_eq_true (by kernel_rfl)) h0k bel (fun x hx => by simp at hx)) (Below.trod laidOut (by kernel_rfl) (of_decide_eq_true (by kernel_rfl)) h1k bel (fun x hx => by simp at hx)) (Below.trod laidOut (by kernel_rfl) (of_decide_eq_true (by kernel_rfl)) h2k bel (fun x hx => by simp at hx)) (Below.trod laidOut (by kernel_rfl) (of_decide_eq_true (by kernel_rfl)) h3k bel (fun x hx => by simp at hx))
    simp only [List.append_nil] at tm
    exact tm
  · rfl

/-- The witness: nothing, in a start into which the listed variables are laid. -/
noncomputable def stamps7Args : Array Value := #[.int .i64 0, .int .i64 0, .int .i64 0, .int .i64 0]

theorem stamps7_reads (os : Os) {H : Type} (enc : TypeId × Value → H) : (DataW.whole enc Tryd.prog ((doorA os).forCall (fun _ _ => 0) ⟨#[], stamps7Args, []⟩).memory Tryd.f7.params.toList (OpenSpec.ofChange Rows.sectorStampsSpec).vars false stamps7Args.toList 8).map (fun x => (x.1, x.2.1)) =
    some ([.lit (.int .i64 0), .lit (.int .i64 0), .lit (.int .i64 0), .lit (.int .i64 0)], []) := by kernel_rfl

theorem stamps7_lifted (os : Os) (started : os.Started) (H : Type) (enc : TypeId × Value → H) (F : Stop.Interp) :
    ReturnsInHanded {} Tryd.checked os 7 .any ((OpenSpec.ofChange Rows.sectorStampsSpec).preRow enc Tryd.prog Tryd.f7 Rows.sectorStampsRow.domain false Rows.sectorStampsRow.laid) (((OpenSpec.ofChange Rows.sectorStampsSpec).at F).post enc Tryd.prog Tryd.f7 false true false false) := by
  obtain ⟨⟨x1, x2, x3⟩, hx, hx1⟩ := Option.map_eq_some_iff.1 (stamps7_reads os enc)
  simp only [Prod.mk.injEq] at hx1
  obtain ⟨rfl, rfl⟩ := hx1
  refine returnsInHanded_of_row (C := Tryd.checked) (s := (OpenSpec.ofChange Rows.sectorStampsSpec)) own' started (by kernel_rfl) Tryd.func7
    (witness_laid (enc := enc) (C := Tryd.checked) false (doorA os) stamps7Args (World.laidAll_os _ _ _) (World.shaped_of_ZipB (by kernel_rfl) (by kernel_rfl)) (by kernel_rfl)
      (OpenSpec.preRow_of_cond 8 hx (by kernel_rfl) (fun k hk => by cases hk) (by kernel_rfl) (doorA_met os stamps7Args))) ?_
  intro W base args ds gs before hval hW _ _ hR hL _ _
  exact stamps7_contract H enc F W base args ds gs before hval hW hR hL

theorem stamps7_said : Rows.SectorStampsSaid :=
  OpenClaim.holds_of_cond 7 Tryd.f7 rfl rfl rfl rfl rfl rfl rfl ⟨rfl, rfl, rfl, rfl, rfl⟩ rfl rfl rfl rfl rfl (by kernel_rfl) Tryd.func7 (by kernel_rfl)
    (of_decide_eq_true (by kernel_rfl)) (by unfold Func.isWrapper; rw [if_neg (of_decide_eq_false (by kernel_rfl))]; exact ⟨rfl, rfl⟩)
    (fun os started H enc _ F => by rw [OpenClaim.pre_eq_preRow]; exact stamps7_lifted os started H enc F)

theorem stamps7_plain (f : FuncId) (fn : Func) (hf : Tryd.pinned.checked.prog.funcNamed "remit/remitlaw07.SectorStamps" = some f) (hfn : Tryd.pinned.checked.prog.funcs[f]? = some fn) :
    true = Tryd.pinned.checked.prog.looks [] ∧ ∀ (j : Nat) t, fn.params[j]? = some t → Tryd.pinned.checked.prog.wantsStandIn t = false := by
  obtain rfl : f = 7 := Option.some.inj ((show Tryd.prog.funcNamed "remit/remitlaw07.SectorStamps" = some 7 by kernel_rfl).symm.trans hf) |>.symm
  obtain rfl : fn = Tryd.f7 := (Option.some.inj (Tryd.func7.symm.trans hfn)).symm
  refine ⟨by kernel_rfl, fun j t ht => ?_⟩
  rw [Tryd.params7] at ht
  have hm : t ∈ [3, 3, 3, 3] := by simpa using Array.mem_of_getElem? ht
  have hall : ([3, 3, 3, 3].all fun u => !Tryd.prog.wantsStandIn u) = true := by kernel_rfl
  exact (show Tryd.prog.wantsStandIn t = false by simpa using List.all_eq_true.1 hall t hm)

/-- THE FIRST FORM's CARD OF SectorStamps. -/
theorem sectorStamps_card : Rows.SectorStampsCardSaid :=
  Claim7.holds_tied_plain_at .later [] _ _ _ _ stamps7_said (fun _ h => by cases h) (by kernel_rfl) (fun _ h => by cases h) sectorStamps_row_tie rfl ⟨rfl, rfl⟩ (by kernel_rfl) rfl stamps7_plain (by kernel_rfl)
end Go.Proofs.YtojcpegdbnnmdaaDoor
