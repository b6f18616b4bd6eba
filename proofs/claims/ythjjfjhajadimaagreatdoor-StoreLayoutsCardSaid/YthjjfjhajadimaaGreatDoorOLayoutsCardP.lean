/-
  StoreLayouts (the section How it lies on a disk): Layout of every number of sectors. Proved here: the first form's card: for every number the law answers true and its argument reads as before.
-/
import Derived.Test.YthjjfjhajadimaaGreatDoorP48
import Derived.Test.YthjjfjhajadimaaGreatDoorP49
import Derived.Test.YthjjfjhajadimaaGreatDoorP50
import Derived.Test.YthjjfjhajadimaaGreatDoorP51
import Derived.Test.YthjjfjhajadimaaGreatDoorP52
import Derived.Carry
import Derived.ChangeMaps5
import Derived.SizedLaws
import Derived.Test.YthjjfjhajadimaaGreatDoorCards
import Derived.Test.YthjjfjhajadimaaGreatDoorTie
namespace Go.Proofs.YthjjfjhajadimaaGreatDoor
open Go.ChangeShapes Go.WideShapes Go.ChangeAt Go.RowKit Go.WideMaps Go.WideElems Go.Joins
open Go.ChangeMaps (open_string)
set_option maxRecDepth 100000
theorem and_tt {a b : Bool} (h1 : a = true) (h2 : b = true) : (a && b) = true := by rw [h1, h2]; rfl
theorem layoutsS_closed : joinedFacts Tryz.pinned.checked.prog 5 Tryz.f5 (OpenSpec.ofChange Rows.storeLayoutsSpec).bare Rows.storeLayoutsRow = true := by
 unfold joinedFacts
 repeat' (with_reducible refine and_tt ?_ ?_)
 all_goals first
  | (with_reducible exact layoutsS_lift)
  | (with_reducible exact layoutsS_make)
  | (with_reducible exact layoutsS_laid)
  | (with_reducible exact layoutsS_mapsR)
  | (with_reducible exact layoutsS_inpl)
  | (with_reducible exact layoutsS_unf)
  | (with_reducible exact layoutsS_rec)
  | (with_reducible exact layoutsS_named)
  | (with_reducible exact layoutsS_heard)
  | (with_reducible exact layoutsS_enter)
  | (with_reducible exact layoutsS_keys)
  | (with_reducible exact layoutsS_wf)
  | (with_reducible exact layoutsS_tie)
  | kernel_rfl
theorem layoutsS_said : Rows.StoreLayoutsSaid :=
 OpenClaim.holds_of_cond 5 Tryz.f5 rfl rfl rfl rfl rfl rfl rfl ⟨rfl, rfl, rfl, rfl, rfl⟩ rfl rfl rfl rfl rfl layoutsS_funcn Tryz.func5 layoutsS_closed
  (of_decide_eq_true (by kernel_rfl)) (by unfold Func.isWrapper; rw [if_neg (of_decide_eq_false (by kernel_rfl))]; exact ⟨rfl, rfl⟩)
  (fun os started H enc _ F => by rw [OpenClaim.pre_eq_preRow]; exact layoutsS_lifted os started H enc F)
theorem layoutsS_plain (f : FuncId) (fn : Func) (hf : Tryz.pinned.checked.prog.funcNamed "remit/remitlaw13.StoreLayouts" = some f) (hfn : Tryz.pinned.checked.prog.funcs[f]? = some fn) :
  true = Tryz.pinned.checked.prog.looks [] /\ ∀ (j : Nat) t, fn.params[j]? = some t -> Tryz.pinned.checked.prog.wantsStandIn t = false := by
 obtain rfl : f = 5 := Option.some.inj ((show Tryz.prog.funcNamed "remit/remitlaw13.StoreLayouts" = some 5 by kernel_rfl).symm.trans hf) |>.symm
 obtain rfl : fn = Tryz.f5 := (Option.some.inj (Tryz.func5.symm.trans hfn)).symm
 refine ⟨by kernel_rfl, fun j t ht => ?_⟩
 rw [Tryz.params5] at ht
 have hm : t ∈ [3] := by simpa using Array.mem_of_getElem? ht
 have hall : ([3].all fun u => !Tryz.prog.wantsStandIn u) = true := by kernel_rfl
 exact (show Tryz.prog.wantsStandIn t = false by simpa using List.all_eq_true.1 hall t hm)
theorem storeLayouts_card : Rows.StoreLayoutsCardSaid :=
 Claim7.holds_tied_plain_at .later [] _ _ _ _ layoutsS_said (fun _ h => by cases h) (by kernel_rfl) (fun _ h => by cases h) storeLayouts_row_tie rfl ⟨rfl, rfl⟩ (by kernel_rfl) rfl layoutsS_plain (by kernel_rfl)
end Go.Proofs.YthjjfjhajadimaaGreatDoor
