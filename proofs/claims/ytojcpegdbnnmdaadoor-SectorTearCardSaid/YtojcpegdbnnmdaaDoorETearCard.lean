/-
  SectorTear (P7.3): a tear of two sectors of unlike stamps counts under the new one just if it is the new one, under the old one just if it is the old one, and under no third. Proved here: the first form's card: for every stamps, payloads and number of bytes the law answers true and its arguments read as before.
-/
import Derived.Test.YtojcpegdbnnmdaaDoorETear
import Derived.Test.YtojcpegdbnnmdaaDoorEDoor
import Derived.Test.YtojcpegdbnnmdaaDoorTrod
import Derived.Test.YtojcpegdbnnmdaaDoorCards
import Derived.Test.YtojcpegdbnnmdaaDoorTie
import Derived.Carry
import Derived.ChangeMaps5
import Derived.SizedLaws
namespace Go.Proofs.YtojcpegdbnnmdaaDoor
open Go.ChangeShapes Go.WideShapes Go.ChangeAt Go.RowKit Go.WideMaps Go.WideElems
open Go.ChangeMaps (open_string)
set_option maxRecDepth 100000

theorem tear7_contract (H : Type) (enc : TypeId × Value → H) (F : Stop.Interp) (W : World) (base : Nat) (args : Array Value) (ds gs : List (DataW H)) (before : List MemPlace)
    (hval0 : ∀ (j : Nat) t v, Tryd.f5.params[j]? = some t → args[j]? = some v → Value.okWide Tryd.prog W .any base t v)
    (hW : DataW.Whole enc Tryd.prog Tryd.f5.params.toList (OpenSpec.ofChange Rows.sectorTearSpec).vars false W args.toList ds gs before)
    (hR : (DataW.weightsEach Tryd.prog (Tryd.f5.params.toList ++ (OpenSpec.ofChange Rows.sectorTearSpec).bare.plain.varTypes Tryd.prog) (ds ++ gs)).all (· ≤ reachBytes) = true)
    (hL : laidMetH Tryd.prog Rows.sectorTearRow.laid W) :
    Calls Tryd.prog 5 args W fun e W' => ∃ v, e = .returned v ∧ ((OpenSpec.ofChange Rows.sectorTearSpec).at F).post enc Tryd.prog Tryd.f5 false true false false W args v W' := by
  have hW' := hW
  have hval : ∀ (j : Nat) t v, Tryd.f5.params[j]? = some t → args[j]? = some v → Value.okWide Tryd.prog W .any base t v := hval0
  obtain ⟨p, q, hA0, hV, rfl, hfz, hnd⟩ := hW
  have hA : DataW.TrodAll enc Tryd.prog W 0 (fun _ => true) true Tryd.f5.params.toList args.toList ds p := hA0
  rw [Tryd.params5] at hA hval hR
  obtain ⟨v0, v1, v2, v3, v4, v5, d0, d1, d2, d3, d4, d5, p0, p1, p2, p3, p4, p5, rfl, rfl, rfl, h0, h1, h2, h3, h4, h5⟩ := trodAll_six hA
  obtain ⟨rfl, rfl⟩ := trodVars_none hV
  have h0k := h0
  have h1k := h1
  have h2k := h2
  have h3k := h3
  have h4k := h4
  have h5k := h5
  obtain ⟨s0, rfl, rfl, rfl, wf0⟩ := open_int Tryd.underlying24 (hval 0 24 v0 rfl rfl) h0
  obtain ⟨lo0, hi0⟩ := bounds_u64 wf0
  obtain ⟨n0, rfl⟩ := Int.eq_ofNat_of_zero_le lo0
  obtain ⟨s1, rfl, rfl, rfl, _⟩ := open_string Tryd.underlying9 (hval 1 9 v1 rfl rfl) h1
  obtain ⟨s2, rfl, rfl, rfl, wf2⟩ := open_int Tryd.underlying24 (hval 2 24 v2 rfl rfl) h2
  obtain ⟨lo2, hi2⟩ := bounds_u64 wf2
  obtain ⟨n2, rfl⟩ := Int.eq_ofNat_of_zero_le lo2
  obtain ⟨s3, rfl, rfl, rfl, _⟩ := open_string Tryd.underlying9 (hval 3 9 v3 rfl rfl) h3
  obtain ⟨s4, rfl, rfl, rfl, wf4⟩ := open_int Tryd.underlying3 (hval 4 3 v4 rfl rfl) h4
  obtain ⟨lo4, hi4⟩ := bounds_i64 wf4
  obtain ⟨s5, rfl, rfl, rfl, wf5⟩ := open_int Tryd.underlying24 (hval 5 24 v5 rfl rfl) h5
  obtain ⟨lo5, hi5⟩ := bounds_u64 wf5
  obtain ⟨n5, rfl⟩ := Int.eq_ofNat_of_zero_le lo5
  have hz1 : s1.size ≤ 140737488351232 := by
    have h := sized_string hR (j := 1) (t := 9) rfl rfl
    simpa [reachBytes] using h
  have hz3 : s3.size ≤ 140737488351232 := by
    have h := sized_string hR (j := 3) (t := 9) rfl rfl
    simpa [reachBytes] using h
  obtain ⟨⟨er, el, ef, hE⟩, hT⟩ := three_tear hL
  clear hA0 hval0 hR
  simp only [List.append_nil] at hW'
  refine (tearLaw_any er el ef n0 n2 n5 s1 s3 s4 W (by omega) (by omega) (by omega) hE hT).mono ?_
  rintro e W' ⟨rfl, k⟩
  have bel : Below W.heap.size W W' := k.below
  have hlt := fun x hx => hW'.lt x hx
  refine ⟨_, rfl, _, _, _, [], [], [], hW', ?_, ?_, ?_, bel.frame _, fun h => by cases h⟩
  · exact trodAll_mk1 (shut_bool Tryd.underlying4 _)
  · have tm := trodAll_mk6 (Below.trod laidOut (by kernel_rfl) (of_decide_eq_true (by kernel_rfl)) h0k bel (fun x hx => by simp at hx)) (Below.trod laidOut (by kernel_rfl) (of_decide_eq_true (by kernel_rfl)) h1k bel (fun x hx => by simp at hx)) (Below.trod laidOut (by kernel_rfl) (of_decide_eq_true (by kernel_rfl)) h2k bel (fun x hx => by simp at hx)) (Below.trod laidOut (by kernel_rfl) (of_decide_eq_true (by kernel_rfl)) h3k bel (fun x hx => by simp at hx)) (Below.trod laidOut (by kernel_rfl) (of_decide_eq_true (by kernel_rfl)) h4k bel (fun x hx => by simp at hx)) (Below.trod laidOut (by kernel_rfl) (of_decide_eq_true (by kernel_rfl)) h5k bel (fun x hx => by simp at hx))
    simp only [List.append_nil] at tm
    exact tm
  · rfl

/-- The witness: nothing, in a start into which the listed variables are laid. -/
noncomputable def tear7Args : Array Value := #[.int .u64 0, .string ⟨#[]⟩, .int .u64 0, .string ⟨#[]⟩, .int .i64 0, .int .u64 0]

theorem tear7_reads (os : Os) {H : Type} (enc : TypeId × Value → H) : (DataW.whole enc Tryd.prog ((doorB os).forCall (fun _ _ => 0) ⟨#[], tear7Args, []⟩).memory Tryd.f5.params.toList (OpenSpec.ofChange Rows.sectorTearSpec).vars false tear7Args.toList 8).map (fun x => (x.1, x.2.1)) =
    some ([.lit (.int .u64 0), .lit (.string []), .lit (.int .u64 0), .lit (.string []), .lit (.int .i64 0), .lit (.int .u64 0)], []) := by kernel_rfl

theorem tear7_lifted (os : Os) (started : os.Started) (H : Type) (enc : TypeId × Value → H) (F : Stop.Interp) :
    ReturnsInHanded {} Tryd.checked os 5 .any ((OpenSpec.ofChange Rows.sectorTearSpec).preRow enc Tryd.prog Tryd.f5 Rows.sectorTearRow.domain false Rows.sectorTearRow.laid) (((OpenSpec.ofChange Rows.sectorTearSpec).at F).post enc Tryd.prog Tryd.f5 false true false false) := by
  obtain ⟨⟨x1, x2, x3⟩, hx, hx1⟩ := Option.map_eq_some_iff.1 (tear7_reads os enc)
  simp only [Prod.mk.injEq] at hx1
  obtain ⟨rfl, rfl⟩ := hx1
  refine returnsInHanded_of_row (C := Tryd.checked) (s := (OpenSpec.ofChange Rows.sectorTearSpec)) own' started (by kernel_rfl) Tryd.func5
    (witness_laid (enc := enc) (C := Tryd.checked) false (doorB os) tear7Args (World.laidAll_os _ _ _) (World.shaped_of_ZipB (by kernel_rfl) (by kernel_rfl)) (by kernel_rfl)
      (OpenSpec.preRow_of_cond 8 hx (by kernel_rfl) (fun k hk => by cases hk) (by kernel_rfl) (doorB_met os tear7Args))) ?_
  intro W base args ds gs before hval hW _ _ hR hL _ _
  exact tear7_contract H enc F W base args ds gs before hval hW hR hL

theorem tear7_said : Rows.SectorTearSaid :=
  OpenClaim.holds_of_cond 5 Tryd.f5 rfl rfl rfl rfl rfl rfl rfl ⟨rfl, rfl, rfl, rfl, rfl⟩ rfl rfl rfl rfl rfl (by kernel_rfl) Tryd.func5 (by kernel_rfl)
    (of_decide_eq_true (by kernel_rfl)) (by unfold Func.isWrapper; rw [if_neg (of_decide_eq_false (by kernel_rfl))]; exact ⟨rfl, rfl⟩)
    (fun os started H enc _ F => by rw [OpenClaim.pre_eq_preRow]; exact tear7_lifted os started H enc F)

theorem tear7_plain (f : FuncId) (fn : Func) (hf : Tryd.pinned.checked.prog.funcNamed "remit/remitlaw07.SectorTear" = some f) (hfn : Tryd.pinned.checked.prog.funcs[f]? = some fn) :
    true = Tryd.pinned.checked.prog.looks [] ∧ ∀ (j : Nat) t, fn.params[j]? = some t → Tryd.pinned.checked.prog.wantsStandIn t = false := by
  obtain rfl : f = 5 := Option.some.inj ((show Tryd.prog.funcNamed "remit/remitlaw07.SectorTear" = some 5 by kernel_rfl).symm.trans hf) |>.symm
  obtain rfl : fn = Tryd.f5 := (Option.some.inj (Tryd.func5.symm.trans hfn)).symm
  refine ⟨by kernel_rfl, fun j t ht => ?_⟩
  rw [Tryd.params5] at ht
  have hm : t ∈ [24, 9, 24, 9, 3, 24] := by simpa using Array.mem_of_getElem? ht
  have hall : ([24, 9, 24, 9, 3, 24].all fun u => !Tryd.prog.wantsStandIn u) = true := by kernel_rfl
  exact (show Tryd.prog.wantsStandIn t = false by simpa using List.all_eq_true.1 hall t hm)

/-- THE FIRST FORM's CARD OF SectorTear. -/
theorem sectorTear_card : Rows.SectorTearCardSaid :=
  Claim7.holds_tied_plain_at .later [] _ _ _ _ tear7_said (fun _ h => by cases h) (by kernel_rfl) (fun _ h => by cases h) sectorTear_row_tie rfl ⟨rfl, rfl⟩ (by kernel_rfl) rfl tear7_plain (by kernel_rfl)
end Go.Proofs.YtojcpegdbnnmdaaDoor
