/-
  Joined: OLift, LaidA, LaidB, Laid, GTab, Trod, ODoor, OFormatsA.
-/
import Derived.Test.YthjjfjhajadimaaGreatDoorP45
import Derived.Deep.Slices
import Derived.OpenShut
import Derived.Lib.SmallJoins
import Derived.Test.YthjjfjhajadimaaGreatDoorRows
import Derived.ProofKit
import Derived.LaidMore
import Derived.LaidLaws
import Derived.Stop.LaidErr
import Derived.Deep.DeepHandedRow
import Derived.Deep.DeepWitnessRowRef
import Derived.Lib.LaidTab
import Derived.Lay
import Derived.Carry
import Derived.Test.YthjjfjhajadimaaGreatDoorCards
import Derived.Test.YthjjfjhajadimaaGreatDoorTie
import Derived.ChangeMaps5
import Derived.SizedLaws
namespace Go.Proofs.YthjjfjhajadimaaGreatDoor
open Go.ChangeShapes Go.WideShapes Go.ChangeAt Go.RowKit
set_option maxRecDepth 100000
theorem cellsBool13:Tryz.prog.cellsOf 4 = 1:=by kernel_rfl
theorem cellsBools13:Tryz.prog.cellsOf 39 = 1:=by kernel_rfl
theorem cellsFate13:Tryz.prog.cellsOf 41 = 3:=by kernel_rfl
theorem cellsInt13:Tryz.prog.cellsOf 3 = 1:=by kernel_rfl
theorem wt_small {ops:List Bt.O} (h:Bt.wt ops<=1048576):ops.length<=262144/\∀ z ∈ ops,z.key.length<=1048576/\z.val.length<=1048576:=by
 have h1:=Bt.wt_len ops
 refine ⟨by omega,fun z hz=>?_⟩
 have h2:z.key.length + z.val.length + 4<=Bt.wt ops:=by
  obtain ⟨a,b,rfl⟩:=List.append_of_mem hz
  unfold Bt.wt
  rw [List.map_append,List.sum_append,List.map_cons,List.sum_cons]
  omega
 omega
theorem bools_of_trod13 {H:Type} {enc:TypeId × Value->H} {W:World} {fuel:Nat} {c:Value} {y:DataW H × List MemPlace} (h:DataW.trod enc Tryz.prog W 0 (fun _=>true) true fuel 39 [c] = some y):∃ l,Bools W c l:=by
 rcases Go.Deep.open_slice Tryz.underlying39 h with ⟨hcs,_⟩ | ⟨ad,len,cap,m,n,D,Pl,hcs,_,hl,hm,hmc,hx,hel⟩
 ·simp at hcs
  subst hcs
  exact ⟨[],⟨none,0,rfl,fun k x hx=>by simp at hx⟩⟩
 ·simp at hcs
  subst hcs
  simp only [if_true] at hmc
  rw [cellsBool13] at hel
  have hone:∀ k,k < len->∃ b:Bool,W.cell? (ad.add k) = some (.bool b):=by
   intro k hk
   obtain ⟨cs',hcs',ht⟩:=hel k (by omega)
   obtain ⟨_,hcl,hat⟩:=World.cells?_some hcs'
   match cs',hcl with
   | [c0],_ =>
    obtain ⟨b,e,_⟩:=DataW.trod_bool Tryz.underlying4 ht
    simp at e
    subst e
    have:=hat 0 (by omega)
    exact ⟨b,by simpa [Addr.add] using this⟩
  obtain ⟨b,off,spot⟩:=ad
  have hch:∃ l:List Bool,l.length = len/\∀ (k:Nat) (x:Bool),l[k]? = some x->W.cell? ((⟨b,off,spot⟩:Addr).add k) = some (.bool x):=by
   clear hx hel hm hmc hl h
   induction len with
   | zero=>exact ⟨[],rfl,fun k x hx=>by simp at hx⟩
   | succ q ih =>
    obtain ⟨l,h1,h2⟩:=ih (fun k hk=>hone k (by omega))
    obtain ⟨x,hx⟩:=hone q (by omega)
    refine ⟨l ++ [x],by simp [h1],fun k y hy=>?_⟩
    by_cases hkl:k < l.length
    ·rw [List.getElem?_append_left hkl] at hy; exact h2 k y hy
    ·rw [List.getElem?_append_right (by omega)] at hy
     obtain ⟨q1,q2⟩:=List.getElem?_eq_some_iff.1 hy
     have:k - l.length = 0:=by simpa using q1
     simp [this] at q2
     subst q2
     obtain rfl:k = q:=by omega
     exact hx
  obtain ⟨l,hll,hlc⟩:=hch
  refine ⟨l,⟨some ⟨b,off,spot⟩,cap,by rw [hll],fun k x hx=>?_⟩⟩
  have hc:=hlc k x hx
  have hl0:0 < l.length:=by have:=(List.getElem?_eq_some_iff.1 hx).1; omega
  have hc0:=hlc 0 l[0] (List.getElem?_eq_getElem hl0)
  have hsp:spot = none:=by simpa [Addr.add] using World.cell?_spot hc0
  subst hsp
  rw [add_plain] at hc
  exact ⟨b,off,rfl,hc⟩
theorem fate_of_trod13 {H:Type} {enc:TypeId × Value->H} {W:World} {fuel:Nat} {cs:List Value} {x:DataW H × List MemPlace} (hf:DataW.trod enc Tryz.prog W 0 (fun _=>true) true fuel 41 cs = some x) :
  ∃ (kv:Value) (f:FT),cs = [kv,.int .i64 f.torn,.int .i64 f.bytes]/\Bools W kv f.kept:=by
 obtain ⟨xs,n,_,hx,hcl,hxl,hel⟩:=DataW.trod_struct Tryz.underlying41 hf
 have hl:cs.length = 3:=by rw [hcl,cellsFate13]
 match cs,hl with
 | [c0,c1,c2],_ =>
 have hx3:xs.length = 3:=hxl
 match xs,hx3 with
 | [y0,y1,y2],_ =>
 have t0:DataW.trod enc Tryz.prog W 0 (fun _=>true) true n 39 (([c0,c1,c2].drop 0).take (Tryz.prog.cellsOf 39)) = some y0:=hel 0 _ rfl
 have t1:DataW.trod enc Tryz.prog W 0 (fun _=>true) true n 3 (([c0,c1,c2].drop 1).take (Tryz.prog.cellsOf 3)) = some y1:=hel 1 _ rfl
 have t2:DataW.trod enc Tryz.prog W 0 (fun _=>true) true n 3 (([c0,c1,c2].drop 2).take (Tryz.prog.cellsOf 3)) = some y2:=hel 2 _ rfl
 rw [cellsBools13] at t0
 rw [cellsInt13] at t1 t2
 simp only [List.drop_zero,List.drop_succ_cons,List.take_succ_cons,List.take_zero] at t0 t1 t2
 obtain ⟨z1,e1,rfl,_⟩:=DataW.trod_int Tryz.underlying3 t1
 obtain ⟨z2,e2,rfl,_⟩:=DataW.trod_int Tryz.underlying3 t2
 simp only [List.cons.injEq,and_true] at e1 e2
 subst e1 e2 hx
 obtain ⟨l,hB⟩:=bools_of_trod13 t0
 exact ⟨c0,⟨l,z1,z2⟩,rfl,hB⟩
theorem laidOut:laidOutB Tryz.prog = true:=by kernel_rfl
theorem own':ownKnob Tryz.prog.godebug = none:=by kernel_rfl
theorem witness_laid {H:Type} {enc:TypeId × Value->H} {C:Checked} {os:Os} {f:FuncId} {fn:Func} {s:OpenSpec} {conds:List PathCond} {apart:Bool} {laid:List (String × DataW Unit)} (modest:Bool) (w0:World) (args:Array Value) (hos:w0.os = os)
  (hsh:(w0.forCall (fun _ _=>0) ⟨#[],args,[]⟩).Shaped C.prog)
  (hok:Input.okWideB C.prog (w0.forCall (fun _ _=>0) ⟨#[],args,[]⟩) f ⟨#[],args,[]⟩ = true)
  (hrow:s.preRow enc C.prog fn conds apart laid (w0.forCall (fun _ _=>0) ⟨#[],args,[]⟩).memory args) :
  ∃ (w:World) (tape:Tape) (i:Input),w.os = os/\(w.forCall tape i).Shaped C.prog/\i.vars = []/\Input.okWide C.prog (w.forCall tape i) .any w.heap.size f i /\
   s.preRow enc C.prog fn conds apart laid (w.forCall tape i).memory i.args/\({ modest:=modest }:Assume).holds C.prog (lone (Frame.enter C.prog f i.args .normal) [] (w.forCall tape i)) :=
 ⟨w0,fun _ _=>0,⟨#[],args,[]⟩,hos,hsh,(Input.okWide_of_okWideB (base:=0) hok).1,(Input.okWide_of_okWideB hok).2,hrow,by
  simp only [Assume.holds]
  exact ⟨by simp,by simp,fun _=>Modest.zero,by simp,by simp⟩⟩
theorem laidVars_sub {P:Program} {w:World} {L' L:List (String × DataW Unit)} (hs:L'.Sublist L):∀ {ps:List MemPlace},DataW.LaidVars P w L ps->∃ q,DataW.LaidVars P w L' q/\q.Sublist ps:=by
 induction hs with
 | slnil=>intro ps h; exact ⟨ps,h,List.Sublist.refl _⟩
 | cons a _ ih =>
  intro ps h
  obtain ⟨n,d⟩:=a
  obtain ⟨g,t,cs,f,p,q,h1,h2,h3,h4,hq,e⟩:=h
  obtain ⟨q',hq',hsub⟩:=ih hq
  exact ⟨q',hq',by rw [e]; exact hsub.trans (List.sublist_append_right _ _)⟩
 | cons_cons a _ ih =>
  intro ps h
  obtain ⟨n,d⟩:=a
  obtain ⟨g,t,cs,f,p,q,h1,h2,h3,h4,hq,e⟩:=h
  obtain ⟨q',hq',hsub⟩:=ih hq
  exact ⟨_,⟨g,t,cs,f,p,q',h1,h2,h3,h4,hq',rfl⟩,by rw [e]; exact List.Sublist.append (List.Sublist.refl _) hsub⟩
theorem laidMet_sub {P:Program} {W:World} {L' L:List (String × DataW Unit)} (hs:L'.Sublist L) (h:laidMet P L W):laidMet P L' W:=by
 obtain ⟨ps,hv,hnd,hrows⟩:=h
 obtain ⟨q,hq,hsub⟩:=laidVars_sub hs hv
 exact ⟨q,hq,hnd.sublist hsub,fun b off hb=>hrows b off (hsub.subset hb)⟩
theorem cellsErr:Tryz.prog.cellsOf 349 = 1:=by kernel_rfl
theorem cellsString:Tryz.prog.cellsOf 9 = 1:=by kernel_rfl
theorem starErr: "*errors.errorString" = "*" ++ "errors.errorString":=by decide
theorem rowErr (u:TypeId) (h:Tryz.prog.typeName? 3 u = some "*errors.errorString"):u = 335 :=
 typeName_ptr_named (nm:= "errors.errorString") (by rw [<- starErr]; kernel_rfl) (by kernel_rfl) (by decide) u (by rw [<- starErr]; exact h)
def errD (text:List UInt8):DataW Unit:=.iface "*errors.errorString" (.ptr (.agg [.lit (.string text)]))
theorem laid_errs {W:World} {PS:List MemPlace} (hrows:∀ b off,MemPlace.cell b off ∈ PS->(∃ c t,W.heap[b]? = some (.cells c t (0,0)))/\∀ u v,W.cell? ⟨b,off,none⟩ = some (.iface u v)->Value.okWide Tryz.prog W .any 0 u v) :
  ∀ (L:List (String × List UInt8)) (gs:List Nat) (ps:List MemPlace),(∀ x ∈ ps,x ∈ PS)->ps.Nodup->L.map (fun x=>Tryz.prog.globalNamed x.1) = gs.map some->(∀ g ∈ gs,(Tryz.prog.globals[g]?).map (·.type) = some 27) ->
   DataW.LaidVars Tryz.prog W (L.map fun x=>(x.1,errD x.2)) ps ->
   ∃ al:List Addr,al.length = gs.length/\(∀ (i:Nat) (g:Nat) (a:Addr),gs[i]? = some g->al[i]? = some a->W.cell? ⟨g,0,none⟩ = some (.iface 335 (.pointer (some a)))/\(∃ c t,W.heap[a.block]? = some (.cells c t (0,0)))) /\
    (∀ a ∈ al,MemPlace.cell a.block a.off ∈ ps)/\(al.map fun a=>MemPlace.cell a.block a.off).Nodup
 | [],gs,ps,_,_,hg,_,_=>by
  obtain rfl:gs = []:=by simpa using hg.symm
  exact ⟨[],rfl,fun i g a h=>by simp at h,fun a h=>by simp at h,by simp⟩
 | (n,text) :: r,[],ps,_,_,hg,_,_=>by simp at hg
 | (n,text) :: r,g :: gs,ps,hps,hnd,hg,ht,h=>by
  simp only [List.map_cons,List.cons.injEq] at hg
  obtain ⟨g0,t0,cs0,f0,p0,q0,hg0,ht0,hv0,hd0,hq,e0⟩:=h
  obtain rfl:=Option.some.inj (hg.1.symm.trans hg0)
  obtain rfl:=Option.some.inj ((ht g (by simp)).symm.trans ht0)
  obtain ⟨l0⟩:=cs0
  have ok0:∀ u v,l0 = [.iface u v]->Value.okWide Tryz.prog W .any 0 u v:=fun u v e=>by
   subst e
   exact (hrows g 0 (hps _ (by rw [e0]; simp [MemPlace.row]))).2 u v (by simpa using World.var?_cell hg0 hv0 0)
  obtain ⟨a0,s0,rfl,hc0,hs0,hz0,rfl⟩:=errorString_of_trod Tryz.underlying27 rowErr Tryz.underlying335 Tryz.underlying349 rfl rfl Tryz.underlying9 cellsErr cellsString hd0 ok0
  have hsub:q0.Sublist ps:=by rw [e0]; exact List.sublist_append_right _ _
  obtain ⟨al,hl,h1,h2,h3⟩:=laid_errs hrows r gs q0 (fun x hx=>hps x (hsub.subset hx)) (hnd.sublist hsub) hg.2 (fun g' hg'=>ht g' (by simp [hg'])) hq
  have hmem:MemPlace.cell a0.block a0.off ∈ ps:=by rw [e0]; simp [MemPlace.row]
  refine ⟨a0 :: al,by simp [hl],fun i g' a hi ha=>?_,fun a ha=>?_,?_⟩
  ·cases i with
   | zero =>
    simp at hi ha
    subst hi ha
    exact ⟨by simpa using World.var?_cell hg0 hv0 0,(hrows _ _ (hps _ hmem)).1⟩
   | succ i=>exact h1 i g' a (by simpa using hi) (by simpa using ha)
  ·rcases List.mem_cons.1 ha with rfl | ha
   ·exact hmem
   ·exact hsub.subset (h2 a ha)
  ·simp only [List.map_cons,List.nodup_cons]
   refine ⟨fun hm=>?_,h3⟩
   obtain ⟨a,ha,hae⟩:=List.mem_map.1 hm
   rw [e0] at hnd
   have hq1:=h2 a ha
   rw [hae] at hq1
   exact (List.nodup_append.1 hnd).2.2 _ (by simp [MemPlace.row]) _ hq1 rfl
theorem errs_of_list {W:World} (L:List (String × List UInt8)) (gs:List Nat) (hg:L.map (fun x=>Tryz.prog.globalNamed x.1) = gs.map some) (ht:(gs.all fun g=>decide ((Tryz.prog.globals[g]?).map (·.type) = some 27)) = true)
  (hall:(gErrs.all fun g=>gs.contains g) = true) (hnd0:gErrs.Nodup) (h:laidMet Tryz.prog (L.map fun x=>(x.1,errD x.2)) W):∃ ad,Errs ad W:=by
 obtain ⟨ps,hv,hnd,hrows⟩:=h
 obtain ⟨al,hl,h1,_,h3⟩:=laid_errs hrows L gs ps (fun _ h=>h) hnd hg (fun g hg=>of_decide_eq_true (List.all_eq_true.1 ht g hg)) hv
 have hlen:gErrs.length = 37:=rfl
 have pos:∀ i,i < 37->gs[gs.idxOf (gErrs.getD i 0)]? = some (gErrs.getD i 0)/\al[gs.idxOf (gErrs.getD i 0)]? = some (al.getD (gs.idxOf (gErrs.getD i 0)) default):=by
  intro i hi
  have hm:gErrs.getD i 0 ∈ gErrs:=by rw [List.getD_eq_getElem?_getD,List.getElem?_eq_getElem (by omega)]; exact List.getElem_mem _
  have hm2:gErrs.getD i 0 ∈ gs:=List.contains_iff_mem.1 (List.all_eq_true.1 hall _ hm)
  have hlt:=List.idxOf_lt_length_of_mem hm2
  refine ⟨by rw [List.getElem?_eq_getElem hlt]; simp,?_⟩
  generalize gs.idxOf (gErrs.getD i 0) = x at *
  rw [List.getD_eq_getElem?_getD,List.getElem?_eq_getElem (by omega)]; rfl
 refine ⟨fun n=>al.getD (gs.idxOf (gErrs.getD (n - 1) 0)) default,fun i g hgi=>?_,fun i j hi hj he=>?_,fun i hi=>?_⟩
 ·have hi:i < 37:=(List.getElem?_eq_some_iff.1 hgi).1
  have e:gErrs.getD i 0 = g:=by rw [List.getD_eq_getElem?_getD,hgi]; rfl
  obtain ⟨p1,p2⟩:=pos i hi
  simp only [Nat.add_sub_cancel]
  rw [e] at p1 p2 ⊢
  exact (h1 _ g _ p1 p2).1
 ·simp only [Nat.add_sub_cancel] at he
  obtain ⟨p1,p2⟩:=pos i hi
  obtain ⟨q1,q2⟩:=pos j hj
  rw [<- he] at q2
  have hidx:gs.idxOf (gErrs.getD i 0) = gs.idxOf (gErrs.getD j 0):=by
   refine (List.getElem?_inj (by rw [List.length_map]; exact (List.getElem?_eq_some_iff.1 p2).1) h3).1 ?_
   rw [List.getElem?_map,List.getElem?_map,p2,q2]
  rw [hidx,q1] at p1
  have hv:=Option.some.inj p1
  refine ((List.getElem?_inj (by omega) hnd0).1 ?_).symm
  rw [List.getElem?_eq_getElem (show j < gErrs.length by omega),List.getElem?_eq_getElem (show i < gErrs.length by omega)]
  rw [List.getD_eq_getElem?_getD,List.getD_eq_getElem?_getD,List.getElem?_eq_getElem (show j < gErrs.length by omega),List.getElem?_eq_getElem (show i < gErrs.length by omega)] at hv
  simpa using hv
 ·obtain ⟨p1,p2⟩:=pos i hi
  simp only [Nat.add_sub_cancel]
  exact (h1 _ _ _ p1 p2).2
def errTexts:List (String × List UInt8):=[
 ("remit/api.ErrShort",[114,101,109,105,116,58,32,116,111,111,32,115,104,111,114,116]),
 ("remit/api.ErrVarint",[114,101,109,105,116,58,32,118,97,114,105,110,116]),
 ("remit/api.ErrLimit",[114,101,109,105,116,58,32,108,105,109,105,116]),
 ("remit/api.ErrOrder",[114,101,109,105,116,58,32,111,114,100,101,114]),
 ("remit/api.ErrTail",[114,101,109,105,116,58,32,116,97,105,108]),
 ("remit/api.ErrRange",[114,101,109,105,116,58,32,114,97,110,103,101]),
 ("remit/api.ErrForm",[114,101,109,105,116,58,32,102,111,114,109]),
 ("remit/api.ErrDigits",[114,101,109,105,116,58,32,99,104,101,99,107,32,100,105,103,105,116,115]),
 ("remit/api.ErrAmount",[114,101,109,105,116,58,32,97,109,111,117,110,116]),
 ("remit/api.ErrOverflow",[114,101,109,105,116,58,32,111,118,101,114,102,108,111,119]),
 ("remit/api.ErrCurrency",[114,101,109,105,116,58,32,99,117,114,114,101,110,99,121]),
 ("remit/api.ErrDown",[114,101,109,105,116,58,32,100,111,119,110]),
 ("remit/api.ErrSmall",[114,101,109,105,116,58,32,115,109,97,108,108]),
 ("remit/api.ErrBlank",[114,101,109,105,116,58,32,98,108,97,110,107]),
 ("remit/api.ErrCorrupt",[114,101,109,105,116,58,32,99,111,114,114,117,112,116]),
 ("remit/api.ErrWorn",[114,101,109,105,116,58,32,119,111,114,110]),
 ("remit/api.ErrFull",[114,101,109,105,116,58,32,102,117,108,108]),
 ("remit/api.ErrLarge",[114,101,109,105,116,58,32,108,97,114,103,101]),
 ("remit/api.ErrClosed",[114,101,109,105,116,58,32,99,108,111,115,101,100]),
 ("remit/api.ErrAccount",[114,101,109,105,116,58,32,97,99,99,111,117,110,116]),
 ("remit/api.ErrExists",[114,101,109,105,116,58,32,101,120,105,115,116,115]),
 ("remit/api.ErrFrozen",[114,101,109,105,116,58,32,102,114,111,122,101,110]),
 ("remit/api.ErrFunds",[114,101,109,105,116,58,32,102,117,110,100,115]),
 ("remit/api.ErrLegs",[114,101,109,105,116,58,32,108,101,103,115]),
 ("remit/api.ErrConflict",[114,101,109,105,116,58,32,99,111,110,102,108,105,99,116]),
 ("remit/api.ErrId",[114,101,109,105,116,58,32,105,100]),
 ("remit/api.ErrPayee",[114,101,109,105,116,58,32,112,97,121,101,101]),
 ("remit/api.ErrRail",[114,101,109,105,116,58,32,114,97,105,108]),
 ("remit/api.ErrBusy",[114,101,109,105,116,58,32,98,117,115,121]),
 ("remit/api.ErrWindow",[114,101,109,105,116,58,32,119,105,110,100,111,119]),
 ("remit/api.ErrPhase",[114,101,109,105,116,58,32,112,104,97,115,101]),
 ("remit/api.ErrToken",[114,101,109,105,116,58,32,116,111,107,101,110]),
 ("remit/api.ErrTime",[114,101,109,105,116,58,32,116,105,109,101]),
 ("remit/api.ErrUnknown",[114,101,109,105,116,58,32,117,110,107,110,111,119,110]),
 ("remit/api.ErrConfig",[114,101,109,105,116,58,32,99,111,110,102,105,103,117,114,97,116,105,111,110]),
 ("remit/api.ErrCommand",[114,101,109,105,116,58,32,99,111,109,109,97,110,100]),
 ("remit/api.ErrUse",[114,101,109,105,116,58,32,105,110,32,117,115,101])]
theorem errs_of_texts {W:World} (h:laidMet Tryz.prog (errTexts.map fun x=>(x.1,errD x.2)) W):∃ ad,Errs ad W :=
 errs_of_list errTexts gErrs (by kernel_rfl) (by kernel_rfl) (by decide) (by decide) h
theorem tab_of {W:World} (h:laidMet Tryz.prog [("remit/checks.steps",(Rows.laid_remit_checks_steps:DataW Unit))] W):Tab W:=by
 have h1:=Lib.tabIs_of_head (P:=Tryz.prog) (W:=W) (name:= "remit/checks.steps") (k:=.u32) (zs:=C.tab.map Int.ofNat) (rest:=[]) (g:=38) (t:=332) (e:=259) (n:=16) (by kernel_rfl) (by kernel_rfl) Tryz.underlying332 Tryz.underlying259 (by kernel_rfl) (by kernel_rfl) h
 intro k hk
 have h2:=h1.cell (g:=38) (by kernel_rfl) k (by simpa [C.tab] using hk)
 rw [h2]
 congr 2
 have:∀ k < 16,(C.tab.map Int.ofNat).getD k 0 = ((C.tab.getD k 0:Nat):Int):=by decide
 exact this k hk
end Go.Proofs.YthjjfjhajadimaaGreatDoor

namespace Go.Proofs.YthjjfjhajadimaaGreatDoor
open Go.ChangeShapes Go.WideShapes Go.ChangeAt Go.RowKit
set_option maxRecDepth 100000
def all38:List (String × DataW Unit):=(errTexts.map fun x=>(x.1,errD x.2)) ++ [("remit/checks.steps",Rows.laid_remit_checks_steps)]
theorem errs_tab_of {W:World} (h:laidMet Tryz.prog all38 W):(∃ ad,Errs ad W)/\Tab W :=
 ⟨errs_of_texts (laidMet_sub (List.sublist_append_left _ _) h),tab_of (laidMet_sub (List.sublist_append_right _ _) h)⟩
theorem formatsS_rows:all38 = Rows.storeFormatsUptoRow.laid:=rfl
theorem errs_formatsS {W:World} (h:laidMetH Tryz.prog Rows.storeFormatsUptoRow.laid W):(∃ ad,Errs ad W)/\Tab W:=by
 rw [MakeChecks.laidMetH_plain _ _ _ (by kernel_rfl),<- formatsS_rows] at h
 exact errs_tab_of h
noncomputable def doorS (os:Os):World:=World.laidAll Tryz.prog os all38
theorem doorS_met (os:Os) (args:Array Value):laidMetH Tryz.prog all38 ((doorS os).forCall (fun _ _=>0) ⟨#[],args,[]⟩).memory:=by
 rw [MakeChecks.laidMetH_plain _ _ _ (by kernel_rfl)]
 exact laidMet_laidAll _ (by kernel_rfl) (by kernel_rfl)
end Go.Proofs.YthjjfjhajadimaaGreatDoor
namespace Go.Proofs.YthjjfjhajadimaaGreatDoor
open Go.ChangeShapes Go.WideShapes Go.ChangeAt Go.RowKit Go.WideMaps Go.WideElems Go.Joins
open Go.ChangeMaps (open_string)
set_option maxRecDepth 100000
theorem formatsS_contract (H:Type) (enc:TypeId × Value->H) (F:Stop.Interp) (W:World) (base:Nat) (args:Array Value) (ds gs:List (DataW H)) (before:List MemPlace)
  (hval0:∀ (j:Nat) t v,Tryz.f8.params[j]? = some t->args[j]? = some v->Value.okWide Tryz.prog W .any base t v)
  (hW:DataW.Whole enc Tryz.prog Tryz.f8.params.toList (Rows.OpenSpec.upto Rows.storeFormatsSpec).vars false W args.toList ds gs before)
  (hk:Rows.uptoSmall H (ds ++ gs) = true)
  (hR:(DataW.weightsEach Tryz.prog (Tryz.f8.params.toList ++ (Rows.OpenSpec.upto Rows.storeFormatsSpec).bare.plain.varTypes Tryz.prog) (ds ++ gs)).all (·<=reachBytes) = true)
  (hL:laidMetH Tryz.prog Rows.storeFormatsUptoRow.laid W) :
  Calls Tryz.prog 8 args W fun e W'=>∃ v,e = .returned v/\((Rows.OpenSpec.upto Rows.storeFormatsSpec).at F).post enc Tryz.prog Tryz.f8 false true false false W args v W':=by
 have hW':=hW
 have hval:∀ (j:Nat) t v,Tryz.f8.params[j]? = some t->args[j]? = some v->Value.okWide Tryz.prog W .any base t v:=hval0
 obtain ⟨p,q,hA0,hV,rfl,hfz,hnd⟩:=hW
 have hA:DataW.TrodAll enc Tryz.prog W 0 (fun _=>true) true Tryz.f8.params.toList args.toList ds p:=hA0
 rw [Tryz.params8] at hA hval hR
 obtain ⟨v0,v1,v2,v3,d0,d1,d2,d3,p0,p1,p2,p3,rfl,rfl,rfl,h0,h1,h2,h3⟩:=trodAll_four hA
 obtain ⟨rfl,rfl⟩:=trodVars_none hV
 have h0k:=h0
 have h1k:=h1
 have h2k:=h2
 have h3k:=h3
 have hb:Rows.uptoBulk d0 + (Rows.uptoBulk d1 + (Rows.uptoBulk d2 + (Rows.uptoBulk d3 + 0)))<=1048576:=by
  have h:=of_decide_eq_true hk
  simpa only [List.append_nil,Rows.uptoBulkAll] using h
 obtain ⟨sa0,sl0,sc0,rfl⟩:=okWide_slice Tryz.underlying38 (hval 0 38 v0 rfl rfl)
 obtain ⟨n0,h0⟩:=h0
 obtain ⟨g0,o0,s0,hr0,hu0⟩:=ops12_of_trod h0 (Reach.each hR (j:=0) rfl rfl)
 have hw0:Bt.wt s0<=Rows.uptoBulk d0:=hu0
 obtain ⟨hn0,ht0⟩:=wt_small (ops:=s0) (by omega)
 obtain ⟨s1,rfl,rfl,rfl,wf1⟩:=open_int Tryz.underlying3 (hval 1 3 v1 rfl rfl) h1
 obtain ⟨lo1,hi1⟩:=bounds_i64 wf1
 obtain ⟨cs2,rfl,hsz2⟩:=okWide_struct Tryz.underlying41 (hval 2 41 v2 rfl rfl)
 obtain ⟨n2,h2⟩:=h2
 obtain ⟨kv2,f2,hcs2,hB2⟩:=fate_of_trod13 h2
 have hfv2:Value.agg cs2 = fateV kv2 f2:=congrArg Value.agg (Array.toList_inj.1 hcs2)
 obtain ⟨sa3,sl3,sc3,rfl⟩:=okWide_slice Tryz.underlying38 (hval 3 38 v3 rfl rfl)
 obtain ⟨n3,h3⟩:=h3
 obtain ⟨g3,o3,s3,hr3,hu3⟩:=ops12_of_trod h3 (Reach.each hR (j:=3) rfl rfl)
 have hw3:Bt.wt s3<=Rows.uptoBulk d3:=hu3
 obtain ⟨hn3,ht3⟩:=wt_small (ops:=s3) (by omega)
 obtain ⟨⟨ad,hE⟩,hT⟩:=errs_formatsS hL
 clear hA0 hval0 hR hk
 simp only [List.append_nil] at hW'
 rw [hfv2]
 refine (formats13_any ad s1 W (by omega) (by omega) hE hT hr0 hn0 ht0 hr3 hn3 ht3 hB2).mono ?_
 rintro e W' ⟨rfl,k⟩
 have bel:Below W.heap.size W W':=k.below
 rw [<- hfv2]
 have hlt:=fun x hx=>hW'.lt x hx
 refine ⟨_,rfl,_,_,_,[],p0 ++ p2 ++ p3,[],hW',?_,?_,?_,bel.frame _,fun h=>by cases h⟩
 ·exact trodAll_mk1 (shut_bool Tryz.underlying4 _)
 ·have tm:=trodAll_mk4 (Below.trod laidOut (by kernel_rfl) (of_decide_eq_true (by kernel_rfl)) h0k bel (fun x hx=>hlt x (by first | exact hx | simp [hx]))) (Below.trod laidOut (by kernel_rfl) (of_decide_eq_true (by kernel_rfl)) h1k bel (fun x hx=>by simp at hx)) (Below.trod laidOut (by kernel_rfl) (of_decide_eq_true (by kernel_rfl)) h2k bel (fun x hx=>hlt x (by first | exact hx | simp [hx]))) (Below.trod laidOut (by kernel_rfl) (of_decide_eq_true (by kernel_rfl)) h3k bel (fun x hx=>hlt x (by first | exact hx | simp [hx])))
  first | exact tm | (simp only [List.nil_append,List.append_nil,List.append_assoc] at tm ⊢; exact tm)
 ·rfl
noncomputable def formatsSArgs:Array Value:=#[.slice none 0 0,.int .i64 0,.agg #[.slice none 0 0,.int .i64 0,.int .i64 0],.slice none 0 0]
theorem formatsS_reads (os:Os) {H:Type} (enc:TypeId × Value->H):(DataW.whole enc Tryz.prog ((doorS os).forCall (fun _ _=>0) ⟨#[],formatsSArgs,[]⟩).memory Tryz.f8.params.toList (Rows.OpenSpec.upto Rows.storeFormatsSpec).vars false formatsSArgs.toList 8).map (fun x=>(x.1,x.2.1)) =
  some ([.nil,.lit (.int .i64 0),.agg [.nil,.lit (.int .i64 0),.lit (.int .i64 0)],.nil],[]):=by kernel_rfl
theorem formatsS_lifted (os:Os) (started:os.Started) (H:Type) (enc:TypeId × Value->H) (F:Stop.Interp) :
  ReturnsInHanded {} Tryz.checked os 8 .any ((Rows.OpenSpec.upto Rows.storeFormatsSpec).preRow enc Tryz.prog Tryz.f8 Rows.storeFormatsUptoRow.domain false Rows.storeFormatsUptoRow.laid) (((Rows.OpenSpec.upto Rows.storeFormatsSpec).at F).post enc Tryz.prog Tryz.f8 false true false false):=by
 obtain ⟨⟨x1,x2,x3⟩,hx,hx1⟩:=Option.map_eq_some_iff.1 (formatsS_reads os enc)
 simp only [Prod.mk.injEq] at hx1
 obtain ⟨rfl,rfl⟩:=hx1
 refine returnsInHanded_of_row (C:=Tryz.checked) (s:=(Rows.OpenSpec.upto Rows.storeFormatsSpec)) own' started (by kernel_rfl) Tryz.func8
  (witness_laid (enc:=enc) (C:=Tryz.checked) false (doorS os) formatsSArgs (World.laidAll_os _ _ _) (World.shaped_of_ZipB (by kernel_rfl) (by kernel_rfl)) (by kernel_rfl)
   (OpenSpec.preRow_of_cond 8 hx (by kernel_rfl) (fun k hk=>by cases hk; kernel_rfl) (by kernel_rfl) (doorS_met os formatsSArgs))) ?_
 intro W base args ds gs before hval hW _ hcond hR hL _ _
 exact formatsS_contract H enc F W base args ds gs before hval hW (hcond _ rfl) hR hL
end Go.Proofs.YthjjfjhajadimaaGreatDoor
