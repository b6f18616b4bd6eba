/-
  StoreFormats (P13.6): a Format that is cut off leaves a blank disk, over which it can be done again with other rows, or all of its rows. Proved here: the second form's card: for all arguments of bulk at most 1048576 the law answers true and its arguments read as before.
-/
import Derived.Test.YthjjfjhajadimaaGreatDoorP46
import Derived.Test.YthjjfjhajadimaaGreatDoorP47
import Derived.Test.YthjjfjhajadimaaGreatDoorP48
import Derived.Test.YthjjfjhajadimaaGreatDoorP49
import Derived.Test.YthjjfjhajadimaaGreatDoorP50
import Derived.Carry
import Derived.ChangeMaps5
import Derived.SizedLaws
import Derived.Test.YthjjfjhajadimaaGreatDoorCards
import Derived.Test.YthjjfjhajadimaaGreatDoorTie
namespace Go.Proofs.YthjjfjhajadimaaGreatDoor
open Go.ChangeShapes Go.WideShapes Go.ChangeAt Go.RowKit Go.WideMaps Go.WideElems Go.Joins
open Go.ChangeMaps (open_string)
set_option maxRecDepth 100000
theorem and_tt {a b:Bool} (h1:a = true) (h2:b = true):(a && b) = true:=by rw [h1,h2]; rfl
theorem formatsS_closed:joinedFacts Tryz.pinned.checked.prog 8 Tryz.f8 (Rows.OpenSpec.upto Rows.storeFormatsSpec).bare Rows.storeFormatsUptoRow = true:=by
 unfold joinedFacts
 repeat' (with_reducible refine and_tt ?_ ?_)
 all_goals first
  | (with_reducible exact formatsS_lift)
  | (with_reducible exact formatsS_make)
  | (with_reducible exact formatsS_laid)
  | (with_reducible exact formatsS_mapsR)
  | (with_reducible exact formatsS_inpl)
  | (with_reducible exact formatsS_unf)
  | (with_reducible exact formatsS_rec)
  | (with_reducible exact formatsS_named)
  | (with_reducible exact formatsS_heard)
  | (with_reducible exact formatsS_enter)
  | (with_reducible exact formatsS_keys)
  | (with_reducible exact formatsS_wf)
  | (with_reducible exact formatsS_tie)
  | kernel_rfl
theorem formatsS_said:Rows.StoreFormatsUptoSaid :=
 OpenClaim.holds_of_cond 8 Tryz.f8 rfl rfl rfl rfl rfl rfl rfl ⟨rfl,rfl,rfl,rfl,rfl⟩ rfl rfl rfl rfl rfl formatsS_funcn Tryz.func8 formatsS_closed
  (of_decide_eq_true (by kernel_rfl)) (by unfold Func.isWrapper; rw [if_neg (of_decide_eq_false (by kernel_rfl))]; exact ⟨rfl,rfl⟩)
  (fun os started H enc _ F=>by rw [OpenClaim.pre_eq_preRow]; exact formatsS_lifted os started H enc F)
theorem formatsS_plain (f:FuncId) (fn:Func) (hf:Tryz.pinned.checked.prog.funcNamed "remit/remitlaw13.StoreFormats" = some f) (hfn:Tryz.pinned.checked.prog.funcs[f]? = some fn) :
  true = Tryz.pinned.checked.prog.looks []/\∀ (j:Nat) t,fn.params[j]? = some t->Tryz.pinned.checked.prog.wantsStandIn t = false:=by
 obtain rfl:f = 8:=Option.some.inj ((show Tryz.prog.funcNamed "remit/remitlaw13.StoreFormats" = some 8 by kernel_rfl).symm.trans hf) |>.symm
 obtain rfl:fn = Tryz.f8:=(Option.some.inj (Tryz.func8.symm.trans hfn)).symm
 refine ⟨by kernel_rfl,fun j t ht=>?_⟩
 rw [Tryz.params8] at ht
 have hm:t ∈ [38,3,41,38]:=by simpa using Array.mem_of_getElem? ht
 have hall:([38,3,41,38].all fun u=>!Tryz.prog.wantsStandIn u) = true:=by kernel_rfl
 exact (show Tryz.prog.wantsStandIn t = false by simpa using List.all_eq_true.1 hall t hm)
theorem storeFormats_card:Rows.StoreFormatsUptoCardSaid :=
 Claim7.holds_tied_plain_at .later [] _ _ _ _ formatsS_said (fun _ h=>by cases h) (by kernel_rfl) (fun _ h=>by cases h) storeFormatsUpto_row_tie rfl ⟨rfl,rfl⟩ (by kernel_rfl) rfl formatsS_plain (by kernel_rfl)
end Go.Proofs.YthjjfjhajadimaaGreatDoor
