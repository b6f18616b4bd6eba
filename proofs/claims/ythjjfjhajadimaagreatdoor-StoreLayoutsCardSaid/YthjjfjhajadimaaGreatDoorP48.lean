/-
  The contract behind the card: storeLayouts (the section How it lies on a disk): Layout of every number of sectors. Proved here: the first form's card: for every number the law answers true and its argument reads as before.
-/
import Derived.Test.YthjjfjhajadimaaGreatDoorP47
import Derived.Test.YthjjfjhajadimaaGreatDoorCards
import Derived.Test.YthjjfjhajadimaaGreatDoorTie
import Derived.Carry
import Derived.ChangeMaps5
import Derived.SizedLaws
namespace Go.Proofs.YthjjfjhajadimaaGreatDoor
open Go.ChangeShapes Go.WideShapes Go.ChangeAt Go.RowKit Go.WideMaps Go.WideElems Go.Joins
open Go.ChangeMaps (open_string)
set_option maxRecDepth 100000
theorem layoutsS_contract (H : Type) (enc : TypeId × Value -> H) (F : Stop.Interp) (W : World) (base : Nat) (args : Array Value) (ds gs : List (DataW H)) (before : List MemPlace)
  (hval0 : ∀ (j : Nat) t v, Tryz.f5.params[j]? = some t -> args[j]? = some v -> Value.okWide Tryz.prog W .any base t v)
  (hW : DataW.Whole enc Tryz.prog Tryz.f5.params.toList (OpenSpec.ofChange Rows.storeLayoutsSpec).vars false W args.toList ds gs before)
  (hR : (DataW.weightsEach Tryz.prog (Tryz.f5.params.toList ++ (OpenSpec.ofChange Rows.storeLayoutsSpec).bare.plain.varTypes Tryz.prog) (ds ++ gs)).all (· <= reachBytes) = true)
  (hL : laidMetH Tryz.prog Rows.storeLayoutsRow.laid W) :
  Calls Tryz.prog 5 args W fun e W' => ∃ v, e = .returned v /\ ((OpenSpec.ofChange Rows.storeLayoutsSpec).at F).post enc Tryz.prog Tryz.f5 false true false false W args v W' := by
 have hW' := hW
 have hval : ∀ (j : Nat) t v, Tryz.f5.params[j]? = some t -> args[j]? = some v -> Value.okWide Tryz.prog W .any base t v := hval0
 obtain ⟨p, q, hA0, hV, rfl, hfz, hnd⟩ := hW
 have hA : DataW.TrodAll enc Tryz.prog W 0 (fun _ => true) true Tryz.f5.params.toList args.toList ds p := hA0
 rw [Tryz.params5] at hA hval hR
 obtain ⟨v0, d0, rfl, rfl, h0⟩ := trodAll_one hA
 obtain ⟨rfl, rfl⟩ := trodVars_none hV
 have h0k := h0
 obtain ⟨s0, rfl, rfl, rfl, wf0⟩ := open_int Tryz.underlying3 (hval 0 3 v0 rfl rfl) h0
 obtain ⟨lo0, hi0⟩ := bounds_i64 wf0
 obtain ⟨⟨ad, hE⟩, hT⟩ := errs_layoutsS hL
 clear hA0 hval0 hR
 simp only [List.append_nil] at hW'
 refine (layouts13_any ad s0 W (by omega) (by omega) hE hT).mono ?_
 rintro e W' ⟨rfl, k⟩
 have bel : Below W.heap.size W W' := k.below
 have hlt := fun x hx => hW'.lt x hx
 refine ⟨_, rfl, _, _, _, [], [], [], hW', ?_, ?_, ?_, bel.frame _, fun h => by cases h⟩
 ·exact trodAll_mk1 (shut_bool Tryz.underlying4 _)
 ·have tm := trodAll_mk1 (Below.trod laidOut (by kernel_rfl) (of_decide_eq_true (by kernel_rfl)) h0k bel (fun x hx => by simp at hx))
  first | exact tm | (simp only [List.nil_append, List.append_nil, List.append_assoc] at tm ⊢; exact tm)
 ·rfl
noncomputable def layoutsSArgs : Array Value := #[.int .i64 0]
theorem layoutsS_reads (os : Os) {H : Type} (enc : TypeId × Value -> H) : (DataW.whole enc Tryz.prog ((doorS os).forCall (fun _ _ => 0) ⟨#[], layoutsSArgs, []⟩).memory Tryz.f5.params.toList (OpenSpec.ofChange Rows.storeLayoutsSpec).vars false layoutsSArgs.toList 8).map (fun x => (x.1, x.2.1)) =
  some ([.lit (.int .i64 0)], []) := by kernel_rfl
theorem layoutsS_lifted (os : Os) (started : os.Started) (H : Type) (enc : TypeId × Value -> H) (F : Stop.Interp) :
  ReturnsInHanded {} Tryz.checked os 5 .any ((OpenSpec.ofChange Rows.storeLayoutsSpec).preRow enc Tryz.prog Tryz.f5 Rows.storeLayoutsRow.domain false Rows.storeLayoutsRow.laid) (((OpenSpec.ofChange Rows.storeLayoutsSpec).at F).post enc Tryz.prog Tryz.f5 false true false false) := by
 obtain ⟨⟨x1, x2, x3⟩, hx, hx1⟩ := Option.map_eq_some_iff.1 (layoutsS_reads os enc)
 simp only [Prod.mk.injEq] at hx1
 obtain ⟨rfl, rfl⟩ := hx1
 refine returnsInHanded_of_row (C := Tryz.checked) (s := (OpenSpec.ofChange Rows.storeLayoutsSpec)) own' started (by kernel_rfl) Tryz.func5
  (witness_laid (enc := enc) (C := Tryz.checked) false (doorS os) layoutsSArgs (World.laidAll_os _ _ _) (World.shaped_of_ZipB (by kernel_rfl) (by kernel_rfl)) (by kernel_rfl)
   (OpenSpec.preRow_of_cond 8 hx (by kernel_rfl) (fun k hk => by cases hk) (by kernel_rfl) (doorS_met os layoutsSArgs))) ?_
 intro W base args ds gs before hval hW _ _ hR hL _ _
 exact layoutsS_contract H enc F W base args ds gs before hval hW hR hL
end Go.Proofs.YthjjfjhajadimaaGreatDoor
