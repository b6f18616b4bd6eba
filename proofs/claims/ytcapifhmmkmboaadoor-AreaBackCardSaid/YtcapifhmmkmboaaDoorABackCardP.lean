/-
  AreaBack (P9.1): what was written is read back, and no other sector turns. Proved here: the first form's card: for every call the law answers true and its argument reads as before.
-/
import Derived.Test.YtcapifhmmkmboaaDoorP34
import Derived.Test.YtcapifhmmkmboaaDoorP35
import Derived.Test.YtcapifhmmkmboaaDoorP30
import Derived.Test.YtcapifhmmkmboaaDoorCards
import Derived.Test.YtcapifhmmkmboaaDoorTie
import Derived.Carry
import Derived.ChangeMaps5
import Derived.SizedLaws
namespace Go.Proofs.YtcapifhmmkmboaaDoor
open Go.ChangeShapes Go.WideShapes Go.ChangeAt Go.RowKit Go.WideMaps Go.WideElems Go.Joins
open Go.ChangeMaps (open_string)
set_option maxRecDepth 100000

theorem back9_contract (H : Type) (enc : TypeId × Value → H) (F : Stop.Interp) (W : World) (base : Nat) (args : Array Value) (ds gs : List (DataW H)) (before : List MemPlace)
    (hval0 : ∀ (j : Nat) t v, Tryd.f6.params[j]? = some t → args[j]? = some v → Value.okWide Tryd.prog W .any base t v)
    (hW : DataW.Whole enc Tryd.prog Tryd.f6.params.toList (OpenSpec.ofChange Rows.areaBackSpec).vars false W args.toList ds gs before)
    (hR : (DataW.weightsEach Tryd.prog (Tryd.f6.params.toList ++ (OpenSpec.ofChange Rows.areaBackSpec).bare.plain.varTypes Tryd.prog) (ds ++ gs)).all (· ≤ reachBytes) = true)
    (hL : laidMetH Tryd.prog Rows.areaBackRow.laid W) :
    Calls Tryd.prog 6 args W fun e W' => ∃ v, e = .returned v ∧ ((OpenSpec.ofChange Rows.areaBackSpec).at F).post enc Tryd.prog Tryd.f6 false true false false W args v W' := by
  have hW' := hW
  have hval : ∀ (j : Nat) t v, Tryd.f6.params[j]? = some t → args[j]? = some v → Value.okWide Tryd.prog W .any base t v := hval0
  obtain ⟨p, q, hA0, hV, rfl, hfz, hnd⟩ := hW
  have hA : DataW.TrodAll enc Tryd.prog W 0 (fun _ => true) true Tryd.f6.params.toList args.toList ds p := hA0
  rw [Tryd.params6] at hA hval hR
  obtain ⟨v0, d0, rfl, rfl, h0⟩ := trodAll_one hA
  obtain ⟨rfl, rfl⟩ := trodVars_none hV
  have h0k := h0
  obtain ⟨cs0, rfl, hsz0⟩ := okWide_struct Tryd.underlying40 (hval 0 40 v0 rfl rfl)
  obtain ⟨n0, h0⟩ := h0
  obtain ⟨o0, hcs0, hok0⟩ := op9_of_trod _ _ _ h0 (Reach.each hR (j := 0) rfl rfl)
  have hfv0 : Value.agg cs0 = OpA.val ⟨o0.kind, o0.i, o0.n, o0.st, o0.bytes, o0.seed, o0.kv, o0.f⟩ := congrArg Value.agg (Array.toList_inj.1 hcs0)
  obtain ⟨⟨ad, hE⟩, hT⟩ := errs_back hL
  clear hA0 hval0 hR
  simp only [List.append_nil] at hW'
  rw [hfv0]
  refine (back9_any ad (areaH ad) ⟨o0.kind, o0.i, o0.n, o0.st, o0.bytes, o0.seed, o0.kv, o0.f⟩ hok0.st hok0.n (by obtain ⟨a, c, e, _⟩ := hok0.kept; exact ⟨a, _, c, e⟩) W hE hT).mono ?_
  rintro e W' ⟨rfl, k⟩
  have bel : Below W.heap.size W W' := k.below
  rw [← hfv0]
  have hlt := fun x hx => hW'.lt x hx
  refine ⟨_, rfl, _, _, _, [], p, [], hW', ?_, ?_, ?_, bel.frame _, fun h => by cases h⟩
  · exact trodAll_mk1 (shut_bool Tryd.underlying4 _)
  · have tm := trodAll_mk1 (Below.trod laidOut (by kernel_rfl) (of_decide_eq_true (by kernel_rfl)) h0k bel (fun x hx => hlt x (by first | exact hx | simp [hx])))
    first | exact tm | (simp only [List.nil_append, List.append_nil, List.append_assoc] at tm ⊢; exact tm)
  · rfl

/-- The witness: nothing, in a start into which the listed variables are laid. -/
noncomputable def back9Args : Array Value := #[.agg #[.int .i64 0, .int .i64 0, .int .i64 0, .int .u64 0, .int .i64 0, .int .u64 0, .slice none 0 0, .int .i64 0, .int .i64 0]]

theorem back9_reads (os : Os) {H : Type} (enc : TypeId × Value → H) : (DataW.whole enc Tryd.prog ((doorA9 os).forCall (fun _ _ => 0) ⟨#[], back9Args, []⟩).memory Tryd.f6.params.toList (OpenSpec.ofChange Rows.areaBackSpec).vars false back9Args.toList 8).map (fun x => (x.1, x.2.1)) =
    some ([.agg [.lit (.int .i64 0), .lit (.int .i64 0), .lit (.int .i64 0), .lit (.int .u64 0), .lit (.int .i64 0), .lit (.int .u64 0), .agg [.nil, .lit (.int .i64 0), .lit (.int .i64 0)]]], []) := by kernel_rfl

theorem back9_lifted (os : Os) (started : os.Started) (H : Type) (enc : TypeId × Value → H) (F : Stop.Interp) :
    ReturnsInHanded {} Tryd.checked os 6 .any ((OpenSpec.ofChange Rows.areaBackSpec).preRow enc Tryd.prog Tryd.f6 Rows.areaBackRow.domain false Rows.areaBackRow.laid) (((OpenSpec.ofChange Rows.areaBackSpec).at F).post enc Tryd.prog Tryd.f6 false true false false) := by
  obtain ⟨⟨x1, x2, x3⟩, hx, hx1⟩ := Option.map_eq_some_iff.1 (back9_reads os enc)
  simp only [Prod.mk.injEq] at hx1
  obtain ⟨rfl, rfl⟩ := hx1
  refine returnsInHanded_of_row (C := Tryd.checked) (s := (OpenSpec.ofChange Rows.areaBackSpec)) own' started (by kernel_rfl) Tryd.func6
    (witness_laid (enc := enc) (C := Tryd.checked) false (doorA9 os) back9Args (World.laidAll_os _ _ _) (World.shaped_of_ZipB (by kernel_rfl) (by kernel_rfl)) (by kernel_rfl)
      (OpenSpec.preRow_of_cond 8 hx (by kernel_rfl) (fun k hk => by cases hk) (by kernel_rfl) (doorA9_met os back9Args))) ?_
  intro W base args ds gs before hval hW _ _ hR hL _ _
  exact back9_contract H enc F W base args ds gs before hval hW hR hL

theorem back9_said : Rows.AreaBackSaid :=
  OpenClaim.holds_of_cond 6 Tryd.f6 rfl rfl rfl rfl rfl rfl rfl ⟨rfl, rfl, rfl, rfl, rfl⟩ rfl rfl rfl rfl rfl (by kernel_rfl) Tryd.func6 (by kernel_rfl)
    (of_decide_eq_true (by kernel_rfl)) (by unfold Func.isWrapper; rw [if_neg (of_decide_eq_false (by kernel_rfl))]; exact ⟨rfl, rfl⟩)
    (fun os started H enc _ F => by rw [OpenClaim.pre_eq_preRow]; exact back9_lifted os started H enc F)

theorem back9_plain (f : FuncId) (fn : Func) (hf : Tryd.pinned.checked.prog.funcNamed "remit/remitlaw09.AreaBack" = some f) (hfn : Tryd.pinned.checked.prog.funcs[f]? = some fn) :
    true = Tryd.pinned.checked.prog.looks [] ∧ ∀ (j : Nat) t, fn.params[j]? = some t → Tryd.pinned.checked.prog.wantsStandIn t = false := by
  obtain rfl : f = 6 := Option.some.inj ((show Tryd.prog.funcNamed "remit/remitlaw09.AreaBack" = some 6 by kernel_rfl).symm.trans hf) |>.symm
  obtain rfl : fn = Tryd.f6 := (Option.some.inj (Tryd.func6.symm.trans hfn)).symm
  refine ⟨by kernel_rfl, fun j t ht => ?_⟩
  rw [Tryd.params6] at ht
  have hm : t ∈ [40] := by simpa using Array.mem_of_getElem? ht
  have hall : ([40].all fun u => !Tryd.prog.wantsStandIn u) = true := by kernel_rfl
  exact (show Tryd.prog.wantsStandIn t = false by simpa using List.all_eq_true.1 hall t hm)

/-- THE FIRST FORM's CARD OF AreaBack. -/
theorem areaBack_card : Rows.AreaBackCardSaid :=
  Claim7.holds_tied_plain_at .later [] _ _ _ _ back9_said (fun _ h => by cases h) (by kernel_rfl) (fun _ h => by cases h) areaBack_row_tie rfl ⟨rfl, rfl⟩ (by kernel_rfl) rfl back9_plain (by kernel_rfl)
end Go.Proofs.YtcapifhmmkmboaaDoor
