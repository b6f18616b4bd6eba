/-
  StoreRefused (P13.4, P13.5): a commit that is refused writes nothing; Size is what After of nothing tells, After what Size tells behind the commit; Size is never above Room; a commit that is answered is one flush, or a snapshot's two more. Proved here: the second form's card: for all arguments of bulk at most 1048576 the law answers true and its arguments read as before.
-/
import Derived.Test.YthjjfjhajadimaaGreatDoorP46
import Derived.Test.YthjjfjhajadimaaGreatDoorP47
import Derived.Test.YthjjfjhajadimaaGreatDoorP48
import Derived.Test.YthjjfjhajadimaaGreatDoorP49
import Derived.Test.YthjjfjhajadimaaGreatDoorP50
import Derived.Carry
import Derived.ChangeMaps5
import Derived.SizedLaws
import Derived.Test.YthjjfjhajadimaaGreatDoorCards
import Derived.Test.YthjjfjhajadimaaGreatDoorTie
namespace Go.Proofs.YthjjfjhajadimaaGreatDoor
open Go.ChangeShapes Go.WideShapes Go.ChangeAt Go.RowKit Go.WideMaps Go.WideElems Go.Joins
open Go.ChangeMaps (open_string)
set_option maxRecDepth 100000
theorem and_tt {a b:Bool} (h1:a = true) (h2:b = true):(a && b) = true:=by rw [h1,h2]; rfl
theorem refusedS_closed:joinedFacts Tryz.pinned.checked.prog 7 Tryz.f7 (Rows.OpenSpec.upto Rows.storeRefusedSpec).bare Rows.storeRefusedUptoRow = true:=by
 unfold joinedFacts
 repeat' (with_reducible refine and_tt ?_ ?_)
 all_goals first
  | (with_reducible exact refusedS_lift)
  | (with_reducible exact refusedS_make)
  | (with_reducible exact refusedS_laid)
  | (with_reducible exact refusedS_mapsR)
  | (with_reducible exact refusedS_inpl)
  | (with_reducible exact refusedS_unf)
  | (with_reducible exact refusedS_rec)
  | (with_reducible exact refusedS_named)
  | (with_reducible exact refusedS_heard)
  | (with_reducible exact refusedS_enter)
  | (with_reducible exact refusedS_keys)
  | (with_reducible exact refusedS_wf)
  | (with_reducible exact refusedS_tie)
  | kernel_rfl
theorem refusedS_said:Rows.StoreRefusedUptoSaid :=
 OpenClaim.holds_of_cond 7 Tryz.f7 rfl rfl rfl rfl rfl rfl rfl ⟨rfl,rfl,rfl,rfl,rfl⟩ rfl rfl rfl rfl rfl refusedS_funcn Tryz.func7 refusedS_closed
  (of_decide_eq_true (by kernel_rfl)) (by unfold Func.isWrapper; rw [if_neg (of_decide_eq_false (by kernel_rfl))]; exact ⟨rfl,rfl⟩)
  (fun os started H enc _ F=>by rw [OpenClaim.pre_eq_preRow]; exact refusedS_lifted os started H enc F)
theorem refusedS_plain (f:FuncId) (fn:Func) (hf:Tryz.pinned.checked.prog.funcNamed "remit/remitlaw13.StoreRefused" = some f) (hfn:Tryz.pinned.checked.prog.funcs[f]? = some fn) :
  true = Tryz.pinned.checked.prog.looks []/\∀ (j:Nat) t,fn.params[j]? = some t->Tryz.pinned.checked.prog.wantsStandIn t = false:=by
 obtain rfl:f = 7:=Option.some.inj ((show Tryz.prog.funcNamed "remit/remitlaw13.StoreRefused" = some 7 by kernel_rfl).symm.trans hf) |>.symm
 obtain rfl:fn = Tryz.f7:=(Option.some.inj (Tryz.func7.symm.trans hfn)).symm
 refine ⟨by kernel_rfl,fun j t ht=>?_⟩
 rw [Tryz.params7] at ht
 have hm:t ∈ [3,38,78]:=by simpa using Array.mem_of_getElem? ht
 have hall:([3,38,78].all fun u=>!Tryz.prog.wantsStandIn u) = true:=by kernel_rfl
 exact (show Tryz.prog.wantsStandIn t = false by simpa using List.all_eq_true.1 hall t hm)
theorem storeRefused_card:Rows.StoreRefusedUptoCardSaid :=
 Claim7.holds_tied_plain_at .later [] _ _ _ _ refusedS_said (fun _ h=>by cases h) (by kernel_rfl) (fun _ h=>by cases h) storeRefusedUpto_row_tie rfl ⟨rfl,rfl⟩ (by kernel_rfl) rfl refusedS_plain (by kernel_rfl)
end Go.Proofs.YthjjfjhajadimaaGreatDoor
