/-
  Joined: ODoor, ORefusedA.
-/
import Derived.Test.YthjjfjhajadimaaGreatDoorP45
import Derived.OpenShut
import Derived.Test.YthjjfjhajadimaaGreatDoorCards
import Derived.Test.YthjjfjhajadimaaGreatDoorTie
import Derived.Carry
import Derived.ChangeMaps5
import Derived.SizedLaws
namespace Go.Proofs.YthjjfjhajadimaaGreatDoor
open Go.ChangeShapes Go.WideShapes Go.ChangeAt Go.RowKit
set_option maxRecDepth 100000
def all38:List (String × DataW Unit):=(errTexts.map fun x=>(x.1,errD x.2)) ++ [("remit/checks.steps",Rows.laid_remit_checks_steps)]
theorem errs_tab_of {W:World} (h:laidMet Tryz.prog all38 W):(∃ ad,Errs ad W)/\Tab W :=
 ⟨errs_of_texts (laidMet_sub (List.sublist_append_left _ _) h),tab_of (laidMet_sub (List.sublist_append_right _ _) h)⟩
theorem refusedS_rows:all38 = Rows.storeRefusedUptoRow.laid:=rfl
theorem errs_refusedS {W:World} (h:laidMetH Tryz.prog Rows.storeRefusedUptoRow.laid W):(∃ ad,Errs ad W)/\Tab W:=by
 rw [MakeChecks.laidMetH_plain _ _ _ (by kernel_rfl),<- refusedS_rows] at h
 exact errs_tab_of h
noncomputable def doorS (os:Os):World:=World.laidAll Tryz.prog os all38
theorem doorS_met (os:Os) (args:Array Value):laidMetH Tryz.prog all38 ((doorS os).forCall (fun _ _=>0) ⟨#[],args,[]⟩).memory:=by
 rw [MakeChecks.laidMetH_plain _ _ _ (by kernel_rfl)]
 exact laidMet_laidAll _ (by kernel_rfl) (by kernel_rfl)
end Go.Proofs.YthjjfjhajadimaaGreatDoor
namespace Go.Proofs.YthjjfjhajadimaaGreatDoor
open Go.ChangeShapes Go.WideShapes Go.ChangeAt Go.RowKit Go.WideMaps Go.WideElems Go.Joins
open Go.ChangeMaps (open_string)
set_option maxRecDepth 100000
theorem refusedS_contract (H:Type) (enc:TypeId × Value->H) (F:Stop.Interp) (W:World) (base:Nat) (args:Array Value) (ds gs:List (DataW H)) (before:List MemPlace)
  (hval0:∀ (j:Nat) t v,Tryz.f7.params[j]? = some t->args[j]? = some v->Value.okWide Tryz.prog W .any base t v)
  (hW:DataW.Whole enc Tryz.prog Tryz.f7.params.toList (Rows.OpenSpec.upto Rows.storeRefusedSpec).vars false W args.toList ds gs before)
  (hk:Rows.uptoSmall H (ds ++ gs) = true)
  (hR:(DataW.weightsEach Tryz.prog (Tryz.f7.params.toList ++ (Rows.OpenSpec.upto Rows.storeRefusedSpec).bare.plain.varTypes Tryz.prog) (ds ++ gs)).all (·<=reachBytes) = true)
  (hL:laidMetH Tryz.prog Rows.storeRefusedUptoRow.laid W) :
  Calls Tryz.prog 7 args W fun e W'=>∃ v,e = .returned v/\((Rows.OpenSpec.upto Rows.storeRefusedSpec).at F).post enc Tryz.prog Tryz.f7 false true false false W args v W':=by
 have hW':=hW
 have hval:∀ (j:Nat) t v,Tryz.f7.params[j]? = some t->args[j]? = some v->Value.okWide Tryz.prog W .any base t v:=hval0
 obtain ⟨p,q,hA0,hV,rfl,hfz,hnd⟩:=hW
 have hA:DataW.TrodAll enc Tryz.prog W 0 (fun _=>true) true Tryz.f7.params.toList args.toList ds p:=hA0
 rw [Tryz.params7] at hA hval hR
 obtain ⟨v0,v1,v2,d0,d1,d2,p0,p1,p2,rfl,rfl,rfl,h0,h1,h2⟩:=trodAll_three hA
 obtain ⟨rfl,rfl⟩:=trodVars_none hV
 have h0k:=h0
 have h1k:=h1
 have h2k:=h2
 have hb:Rows.uptoBulk d0 + (Rows.uptoBulk d1 + (Rows.uptoBulk d2 + 0))<=1048576:=by
  have h:=of_decide_eq_true hk
  simpa only [List.append_nil,Rows.uptoBulkAll] using h
 obtain ⟨s0,rfl,rfl,rfl,wf0⟩:=open_int Tryz.underlying3 (hval 0 3 v0 rfl rfl) h0
 obtain ⟨lo0,hi0⟩:=bounds_i64 wf0
 obtain ⟨sa1,sl1,sc1,rfl⟩:=okWide_slice Tryz.underlying38 (hval 1 38 v1 rfl rfl)
 obtain ⟨n1,h1⟩:=h1
 obtain ⟨g1,o1,s1,hr1,hu1⟩:=ops12_of_trod h1 (Reach.each hR (j:=1) rfl rfl)
 have hw1:Bt.wt s1<=Rows.uptoBulk d1:=hu1
 obtain ⟨hn1,ht1⟩:=wt_small (ops:=s1) (by omega)
 obtain ⟨sa2,sl2,sc2,rfl⟩:=okWide_slice Tryz.underlying78 (hval 2 78 v2 rfl rfl)
 obtain ⟨n2,h2⟩:=h2
 obtain ⟨g2,o2,s2,hL2⟩:=opsls_of_trod h2 (Reach.each hR (j:=2) rfl rfl) (show Rows.uptoBulk d2<=1048576 by omega)
 obtain ⟨⟨ad,hE⟩,hT⟩:=errs_refusedS hL
 clear hA0 hval0 hR hk
 simp only [List.append_nil] at hW'
 refine (refused13_any ad s0 W hE hT hr1 hn1 ht1 hL2).mono ?_
 rintro e W' ⟨rfl,k⟩
 have bel:Below W.heap.size W W':=k.below
 have hlt:=fun x hx=>hW'.lt x hx
 refine ⟨_,rfl,_,_,_,[],p1 ++ p2,[],hW',?_,?_,?_,bel.frame _,fun h=>by cases h⟩
 ·exact trodAll_mk1 (shut_bool Tryz.underlying4 _)
 ·have tm:=trodAll_mk3 (Below.trod laidOut (by kernel_rfl) (of_decide_eq_true (by kernel_rfl)) h0k bel (fun x hx=>by simp at hx)) (Below.trod laidOut (by kernel_rfl) (of_decide_eq_true (by kernel_rfl)) h1k bel (fun x hx=>hlt x (by first | exact hx | simp [hx]))) (Below.trod laidOut (by kernel_rfl) (of_decide_eq_true (by kernel_rfl)) h2k bel (fun x hx=>hlt x (by first | exact hx | simp [hx])))
  first | exact tm | (simp only [List.nil_append,List.append_nil,List.append_assoc] at tm ⊢; exact tm)
 ·rfl
noncomputable def refusedSArgs:Array Value:=#[.int .i64 0,.slice none 0 0,.slice none 0 0]
theorem refusedS_reads (os:Os) {H:Type} (enc:TypeId × Value->H):(DataW.whole enc Tryz.prog ((doorS os).forCall (fun _ _=>0) ⟨#[],refusedSArgs,[]⟩).memory Tryz.f7.params.toList (Rows.OpenSpec.upto Rows.storeRefusedSpec).vars false refusedSArgs.toList 8).map (fun x=>(x.1,x.2.1)) =
  some ([.lit (.int .i64 0),.nil,.nil],[]):=by kernel_rfl
theorem refusedS_lifted (os:Os) (started:os.Started) (H:Type) (enc:TypeId × Value->H) (F:Stop.Interp) :
  ReturnsInHanded {} Tryz.checked os 7 .any ((Rows.OpenSpec.upto Rows.storeRefusedSpec).preRow enc Tryz.prog Tryz.f7 Rows.storeRefusedUptoRow.domain false Rows.storeRefusedUptoRow.laid) (((Rows.OpenSpec.upto Rows.storeRefusedSpec).at F).post enc Tryz.prog Tryz.f7 false true false false):=by
 obtain ⟨⟨x1,x2,x3⟩,hx,hx1⟩:=Option.map_eq_some_iff.1 (refusedS_reads os enc)
 simp only [Prod.mk.injEq] at hx1
 obtain ⟨rfl,rfl⟩:=hx1
 refine returnsInHanded_of_row (C:=Tryz.checked) (s:=(Rows.OpenSpec.upto Rows.storeRefusedSpec)) own' started (by kernel_rfl) Tryz.func7
  (witness_laid (enc:=enc) (C:=Tryz.checked) false (doorS os) refusedSArgs (World.laidAll_os _ _ _) (World.shaped_of_ZipB (by kernel_rfl) (by kernel_rfl)) (by kernel_rfl)
   (OpenSpec.preRow_of_cond 8 hx (by kernel_rfl) (fun k hk=>by cases hk; kernel_rfl) (by kernel_rfl) (doorS_met os refusedSArgs))) ?_
 intro W base args ds gs before hval hW _ hcond hR hL _ _
 exact refusedS_contract H enc F W base args ds gs before hval hW (hcond _ rfl) hR hL
end Go.Proofs.YthjjfjhajadimaaGreatDoor
