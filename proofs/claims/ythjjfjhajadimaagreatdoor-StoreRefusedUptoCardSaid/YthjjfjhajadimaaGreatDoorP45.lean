/-
  Joined: TLift, BLift, OLift, OLiftL, LaidA, LaidB, Laid, GTab, Trod.
-/
import Derived.Test.YthjjfjhajadimaaGreatDoorP44
import Derived.Test.YthjjfjhajadimaaGreatDoorRows
import Derived.Deep.Slices
import Derived.OpenShut
import Derived.Lib.SmallJoins
import Derived.ProofKit
import Derived.LaidMore
import Derived.LaidLaws
import Derived.Stop.LaidErr
import Derived.Deep.DeepHandedRow
import Derived.Deep.DeepWitnessRowRef
import Derived.Lib.LaidTab
import Derived.Lay
import Derived.Carry
namespace Go.Proofs.YthjjfjhajadimaaGreatDoor
open Go.ChangeShapes Go.WideShapes Go.ChangeAt Go.RowKit
set_option maxRecDepth 100000
theorem cellsStrT:Tryz.prog.cellsOf 9 = 1:=by kernel_rfl
theorem cellsOpB:Tryz.prog.cellsOf 87 = 3:=by kernel_rfl
theorem bytesOpB:Tryz.prog.bytesOf 87 = 40:=by kernel_rfl
theorem cellsBoolB:Tryz.prog.cellsOf 4 = 1:=by kernel_rfl
theorem op_of_trod {H:Type} {enc:TypeId × Value->H} {W:World} (fuel:Nat) (cs:List Value) (x:DataW H × List MemPlace) (hf:DataW.trod enc Tryz.prog W 0 (fun _=>true) true fuel 87 cs = some x) (_:Reach 87 x.1) :
  ∃ r:Bt.O,cs = opC r/\True/\r.key.length + r.val.length + 4<=Rows.uptoBulk x.1:=by
 obtain ⟨xs,n,_,hx,hcl,hxl,hel⟩:=DataW.trod_struct Tryz.underlying87 hf
 have hl:cs.length = 3:=by rw [hcl,cellsOpB]
 match cs,hl with
 | [c0,c1,c2],_ =>
 have hx2:xs.length = 3:=hxl
 match xs,hx2 with
 | [y0,y1,y2],_ =>
 have t0:DataW.trod enc Tryz.prog W 0 (fun _=>true) true n 4 (([c0,c1,c2].drop 0).take (Tryz.prog.cellsOf 4)) = some y0:=hel 0 _ rfl
 have t1:DataW.trod enc Tryz.prog W 0 (fun _=>true) true n 9 (([c0,c1,c2].drop 1).take (Tryz.prog.cellsOf 9)) = some y1:=hel 1 _ rfl
 have t2:DataW.trod enc Tryz.prog W 0 (fun _=>true) true n 9 (([c0,c1,c2].drop 2).take (Tryz.prog.cellsOf 9)) = some y2:=hel 2 _ rfl
 rw [cellsStrT] at t1 t2
 rw [cellsBoolB] at t0
 simp only [List.drop_zero,List.drop_succ_cons,List.take_succ_cons,List.take_zero] at t0 t1 t2
 obtain ⟨z0,e0,rfl⟩:=DataW.trod_bool Tryz.underlying4 t0
 obtain ⟨z1,e1,rfl,_⟩:=DataW.trod_string Tryz.underlying9 t1
 obtain ⟨z2,e2,rfl,_⟩:=DataW.trod_string Tryz.underlying9 t2
 simp only [List.cons.injEq,and_true] at e0 e1 e2
 subst e0 e1 e2
 refine ⟨⟨z0,z1.data.toList,z2.data.toList⟩,by simp [opC,strV],trivial,?_⟩
 rw [hx]
 simp only [List.map_cons,List.map_nil,Rows.uptoBulk,Rows.uptoBulkAll]
 omega
theorem wt_bulk {H:Type}:∀ (ops:List Bt.O) (l:List (DataW H)),l.length = ops.length->(∀ (k:Nat) (o:Bt.O) (d:DataW H),ops[k]? = some o->l[k]? = some d->o.key.length + o.val.length + 4<=Rows.uptoBulk d)->Bt.wt ops<=Rows.uptoBulkAll l
 | [],_,_,_=>Nat.zero_le _
 | r :: ops,[],h,_=>by simp at h
 | r :: ops,d :: l,h,hk=>by
  have ih:=wt_bulk ops l (by simpa using h) (fun k o d h1 h2=>hk (k + 1) o d (by simpa using h1) (by simpa using h2))
  have h0:=hk 0 r d rfl rfl
  rw [Bt.wt_cons]
  simp only [Rows.uptoBulkAll]
  omega
theorem ops12_of_trod {H:Type} {enc:TypeId × Value->H} {W:World} {fuel:Nat} {c:Value} {y:DataW H × List MemPlace} (h:DataW.trod enc Tryz.prog W 0 (fun _=>true) true fuel 38 [c] = some y) (hw:Reach 38 y.1) :
  ∃ (g off:Nat) (ops:List Bt.O),OpsIn W c g off ops/\Bt.wt ops<=Rows.uptoBulk y.1:=by
 obtain ⟨g,off,os,h1,h2,h3⟩:=open_recsD (Q:=Reach 87) (f:=opC) (R:=fun o d=>o.key.length + o.val.length + 4<=Rows.uptoBulk d) (P:=fun _=>True) Tryz.underlying38 cellsOpB (by decide) (fun _=>rfl) op_of_trod h (fun l spare e=>by rw [e] at hw; exact (hw.slice Tryz.underlying38).2)
 refine ⟨g,off,os,h2 ?_,?_⟩
 ·rcases h3 with ⟨_,rfl⟩ | ⟨l,spare,e,hl,_⟩
  ·simp
  ·rw [e] at hw
   have:=(hw.slice Tryz.underlying38).1
   rw [bytesOpB,hl] at this
   unfold reachBytes at this
   omega
 ·rcases h3 with ⟨_,rfl⟩ | ⟨l,spare,e,hl,hR⟩
  ·exact Nat.zero_le _
  ·have:=wt_bulk os l hl hR
   rw [e]
   simp only [Rows.uptoBulk]
   omega
theorem wt_small {ops:List Bt.O} (h:Bt.wt ops<=1048576):ops.length<=262144/\∀ z ∈ ops,z.key.length<=1048576/\z.val.length<=1048576:=by
 have h1:=Bt.wt_len ops
 refine ⟨by omega,fun z hz=>?_⟩
 have h2:z.key.length + z.val.length + 4<=Bt.wt ops:=by
  obtain ⟨a,b,rfl⟩:=List.append_of_mem hz
  unfold Bt.wt
  rw [List.map_append,List.sum_append,List.map_cons,List.sum_cons]
  omega
 omega
theorem cellsOps13:Tryz.prog.cellsOf 38 = 1:=by kernel_rfl
theorem bulk_one13 {H:Type}:∀ d:DataW H,1<=Rows.uptoBulk d:=by
 intro d
 unfold Rows.uptoBulk
 split <;> omega
theorem bulk_len13 {H:Type}:∀ l:List (DataW H),l.length<=Rows.uptoBulkAll l
 | []=>Nat.zero_le _
 | d :: r=>by
  have h1:=bulk_len13 r
  have h2:=bulk_one13 d
  simp only [List.length_cons,Rows.uptoBulkAll]
  omega
theorem bulk_at13 {H:Type}:∀ (l:List (DataW H)) (k:Nat) (d:DataW H),l[k]? = some d->Rows.uptoBulk d<=Rows.uptoBulkAll l
 | [],k,d,h=>by simp at h
 | a :: r,0,d,h=>by
  simp only [List.getElem?_cons_zero,Option.some.injEq] at h
  subst h
  simp only [Rows.uptoBulkAll]
  omega
 | a :: r,k + 1,d,h=>by
  have ih:=bulk_at13 r k d (by simpa using h)
  simp only [Rows.uptoBulkAll]
  omega
theorem list_one13 {H:Type} {enc:TypeId × Value->H} {W:World} (fuel:Nat) (cs:List Value) (x:DataW H × List MemPlace) (hf:DataW.trod enc Tryz.prog W 0 (fun _=>true) true fuel 38 cs = some x) (hw:Reach 38 x.1) :
  ∃ p:Value × List Bt.O,cs = [p.1]/\(∃ g2 o2,OpsIn W p.1 g2 o2 p.2)/\Bt.wt p.2<=Rows.uptoBulk x.1:=by
 obtain ⟨c0,rfl⟩:∃ c0,cs = [c0]:=by
  rcases Go.Deep.open_slice Tryz.underlying38 hf with ⟨hcs,_⟩ | ⟨ad,len,cap,m,n,D,Pl,hcs,_⟩
  ·exact ⟨_,hcs⟩
  ·exact ⟨_,hcs⟩
 obtain ⟨g,o,ops,h1,h2⟩:=ops12_of_trod hf hw
 exact ⟨(c0,ops),rfl,⟨g,o,h1⟩,h2⟩
theorem opsls_of_trod {H:Type} {enc:TypeId × Value->H} {W:World} {fuel:Nat} {c:Value} {y:DataW H × List MemPlace} (h:DataW.trod enc Tryz.prog W 0 (fun _=>true) true fuel 78 [c] = some y) (hw:Reach 78 y.1) (hb:Rows.uptoBulk y.1<=1048576) :
  ∃ (g off:Nat) (l:List (List Bt.O)),OpsLs W c g off l:=by
 obtain ⟨g,off,os,h1,h2,h3⟩:=open_recsD (Q:=Reach 38) (f:=fun p:Value × List Bt.O=>[p.1]) (R:=fun p d=>Bt.wt p.2<=Rows.uptoBulk d) (P:=fun p=>∃ g2 o2,OpsIn W p.1 g2 o2 p.2) Tryz.underlying78 cellsOps13 (by decide) (fun _=>rfl) list_one13 h (fun l spare e=>by rw [e] at hw; exact (hw.slice Tryz.underlying78).2)
 have hlen:os.length<=1048576/\∀ (k:Nat) (p:Value × List Bt.O),os[k]? = some p->Bt.wt p.2<=1048576:=by
  rcases h3 with ⟨_,rfl⟩ | ⟨l,spare,e,hl,hR⟩
  ·exact ⟨Nat.zero_le _,fun k p hk=>by simp at hk⟩
  ·rw [e] at hb
   simp only [Rows.uptoBulk] at hb
   have hall:=bulk_len13 l
   refine ⟨by omega,fun k p hk=>?_⟩
   have hkl:k < l.length:=by rw [hl]; exact (List.getElem?_eq_some_iff.1 hk).1
   have hd:=List.getElem?_eq_getElem hkl
   have r1:=hR k p l[k] hk hd
   have r2:=bulk_at13 l k l[k] hd
   omega
 have R:=h2 (by have:=hlen.1; omega)
 obtain ⟨a,cap,hv,ha⟩:=R.val
 refine ⟨g,off,os.map Prod.snd,⟨a,cap,by rw [List.length_map]; exact hv,fun hne=>ha (fun e=>hne (by rw [e]; rfl))⟩,by rw [List.length_map]; exact hlen.1,fun k ops hk=>?_⟩
 rw [List.getElem?_map] at hk
 cases hp:os[k]? with
 | none=>rw [hp] at hk; cases hk
 | some p =>
  rw [hp] at hk
  simp only [Option.map_some,Option.some.injEq] at hk
  subst hk
  obtain ⟨g2,o2,hO⟩:=h1 k p hp
  obtain ⟨s1,s2⟩:=wt_small (hlen.2 k p hp)
  refine ⟨s1,s2,p.1,g2,o2,?_,hO⟩
  have hc:=R.cells k p hp 0 p.1 rfl
  simpa using hc
theorem laidOut:laidOutB Tryz.prog = true:=by kernel_rfl
theorem own':ownKnob Tryz.prog.godebug = none:=by kernel_rfl
theorem witness_laid {H:Type} {enc:TypeId × Value->H} {C:Checked} {os:Os} {f:FuncId} {fn:Func} {s:OpenSpec} {conds:List PathCond} {apart:Bool} {laid:List (String × DataW Unit)} (modest:Bool) (w0:World) (args:Array Value) (hos:w0.os = os)
  (hsh:(w0.forCall (fun _ _=>0) ⟨#[],args,[]⟩).Shaped C.prog)
  (hok:Input.okWideB C.prog (w0.forCall (fun _ _=>0) ⟨#[],args,[]⟩) f ⟨#[],args,[]⟩ = true)
  (hrow:s.preRow enc C.prog fn conds apart laid (w0.forCall (fun _ _=>0) ⟨#[],args,[]⟩).memory args) :
  ∃ (w:World) (tape:Tape) (i:Input),w.os = os/\(w.forCall tape i).Shaped C.prog/\i.vars = []/\Input.okWide C.prog (w.forCall tape i) .any w.heap.size f i /\
   s.preRow enc C.prog fn conds apart laid (w.forCall tape i).memory i.args/\({ modest:=modest }:Assume).holds C.prog (lone (Frame.enter C.prog f i.args .normal) [] (w.forCall tape i)) :=
 ⟨w0,fun _ _=>0,⟨#[],args,[]⟩,hos,hsh,(Input.okWide_of_okWideB (base:=0) hok).1,(Input.okWide_of_okWideB hok).2,hrow,by
  simp only [Assume.holds]
  exact ⟨by simp,by simp,fun _=>Modest.zero,by simp,by simp⟩⟩
theorem laidVars_sub {P:Program} {w:World} {L' L:List (String × DataW Unit)} (hs:L'.Sublist L):∀ {ps:List MemPlace},DataW.LaidVars P w L ps->∃ q,DataW.LaidVars P w L' q/\q.Sublist ps:=by
 induction hs with
 | slnil=>intro ps h; exact ⟨ps,h,List.Sublist.refl _⟩
 | cons a _ ih =>
  intro ps h
  obtain ⟨n,d⟩:=a
  obtain ⟨g,t,cs,f,p,q,h1,h2,h3,h4,hq,e⟩:=h
  obtain ⟨q',hq',hsub⟩:=ih hq
  exact ⟨q',hq',by rw [e]; exact hsub.trans (List.sublist_append_right _ _)⟩
 | cons_cons a _ ih =>
  intro ps h
  obtain ⟨n,d⟩:=a
  obtain ⟨g,t,cs,f,p,q,h1,h2,h3,h4,hq,e⟩:=h
  obtain ⟨q',hq',hsub⟩:=ih hq
  exact ⟨_,⟨g,t,cs,f,p,q',h1,h2,h3,h4,hq',rfl⟩,by rw [e]; exact List.Sublist.append (List.Sublist.refl _) hsub⟩
theorem laidMet_sub {P:Program} {W:World} {L' L:List (String × DataW Unit)} (hs:L'.Sublist L) (h:laidMet P L W):laidMet P L' W:=by
 obtain ⟨ps,hv,hnd,hrows⟩:=h
 obtain ⟨q,hq,hsub⟩:=laidVars_sub hs hv
 exact ⟨q,hq,hnd.sublist hsub,fun b off hb=>hrows b off (hsub.subset hb)⟩
theorem cellsErr:Tryz.prog.cellsOf 349 = 1:=by kernel_rfl
theorem cellsString:Tryz.prog.cellsOf 9 = 1:=by kernel_rfl
theorem starErr: "*errors.errorString" = "*" ++ "errors.errorString":=by decide
theorem rowErr (u:TypeId) (h:Tryz.prog.typeName? 3 u = some "*errors.errorString"):u = 335 :=
 typeName_ptr_named (nm:= "errors.errorString") (by rw [<- starErr]; kernel_rfl) (by kernel_rfl) (by decide) u (by rw [<- starErr]; exact h)
def errD (text:List UInt8):DataW Unit:=.iface "*errors.errorString" (.ptr (.agg [.lit (.string text)]))
theorem laid_errs {W:World} {PS:List MemPlace} (hrows:∀ b off,MemPlace.cell b off ∈ PS->(∃ c t,W.heap[b]? = some (.cells c t (0,0)))/\∀ u v,W.cell? ⟨b,off,none⟩ = some (.iface u v)->Value.okWide Tryz.prog W .any 0 u v) :
  ∀ (L:List (String × List UInt8)) (gs:List Nat) (ps:List MemPlace),(∀ x ∈ ps,x ∈ PS)->ps.Nodup->L.map (fun x=>Tryz.prog.globalNamed x.1) = gs.map some->(∀ g ∈ gs,(Tryz.prog.globals[g]?).map (·.type) = some 27) ->
   DataW.LaidVars Tryz.prog W (L.map fun x=>(x.1,errD x.2)) ps ->
   ∃ al:List Addr,al.length = gs.length/\(∀ (i:Nat) (g:Nat) (a:Addr),gs[i]? = some g->al[i]? = some a->W.cell? ⟨g,0,none⟩ = some (.iface 335 (.pointer (some a)))/\(∃ c t,W.heap[a.block]? = some (.cells c t (0,0)))) /\
    (∀ a ∈ al,MemPlace.cell a.block a.off ∈ ps)/\(al.map fun a=>MemPlace.cell a.block a.off).Nodup
 | [],gs,ps,_,_,hg,_,_=>by
  obtain rfl:gs = []:=by simpa using hg.symm
  exact ⟨[],rfl,fun i g a h=>by simp at h,fun a h=>by simp at h,by simp⟩
 | (n,text) :: r,[],ps,_,_,hg,_,_=>by simp at hg
 | (n,text) :: r,g :: gs,ps,hps,hnd,hg,ht,h=>by
  simp only [List.map_cons,List.cons.injEq] at hg
  obtain ⟨g0,t0,cs0,f0,p0,q0,hg0,ht0,hv0,hd0,hq,e0⟩:=h
  obtain rfl:=Option.some.inj (hg.1.symm.trans hg0)
  obtain rfl:=Option.some.inj ((ht g (by simp)).symm.trans ht0)
  obtain ⟨l0⟩:=cs0
  have ok0:∀ u v,l0 = [.iface u v]->Value.okWide Tryz.prog W .any 0 u v:=fun u v e=>by
   subst e
   exact (hrows g 0 (hps _ (by rw [e0]; simp [MemPlace.row]))).2 u v (by simpa using World.var?_cell hg0 hv0 0)
  obtain ⟨a0,s0,rfl,hc0,hs0,hz0,rfl⟩:=errorString_of_trod Tryz.underlying27 rowErr Tryz.underlying335 Tryz.underlying349 rfl rfl Tryz.underlying9 cellsErr cellsString hd0 ok0
  have hsub:q0.Sublist ps:=by rw [e0]; exact List.sublist_append_right _ _
  obtain ⟨al,hl,h1,h2,h3⟩:=laid_errs hrows r gs q0 (fun x hx=>hps x (hsub.subset hx)) (hnd.sublist hsub) hg.2 (fun g' hg'=>ht g' (by simp [hg'])) hq
  have hmem:MemPlace.cell a0.block a0.off ∈ ps:=by rw [e0]; simp [MemPlace.row]
  refine ⟨a0 :: al,by simp [hl],fun i g' a hi ha=>?_,fun a ha=>?_,?_⟩
  ·cases i with
   | zero =>
    simp at hi ha
    subst hi ha
    exact ⟨by simpa using World.var?_cell hg0 hv0 0,(hrows _ _ (hps _ hmem)).1⟩
   | succ i=>exact h1 i g' a (by simpa using hi) (by simpa using ha)
  ·rcases List.mem_cons.1 ha with rfl | ha
   ·exact hmem
   ·exact hsub.subset (h2 a ha)
  ·simp only [List.map_cons,List.nodup_cons]
   refine ⟨fun hm=>?_,h3⟩
   obtain ⟨a,ha,hae⟩:=List.mem_map.1 hm
   rw [e0] at hnd
   have hq1:=h2 a ha
   rw [hae] at hq1
   exact (List.nodup_append.1 hnd).2.2 _ (by simp [MemPlace.row]) _ hq1 rfl
theorem errs_of_list {W:World} (L:List (String × List UInt8)) (gs:List Nat) (hg:L.map (fun x=>Tryz.prog.globalNamed x.1) = gs.map some) (ht:(gs.all fun g=>decide ((Tryz.prog.globals[g]?).map (·.type) = some 27)) = true)
  (hall:(gErrs.all fun g=>gs.contains g) = true) (hnd0:gErrs.Nodup) (h:laidMet Tryz.prog (L.map fun x=>(x.1,errD x.2)) W):∃ ad,Errs ad W:=by
 obtain ⟨ps,hv,hnd,hrows⟩:=h
 obtain ⟨al,hl,h1,_,h3⟩:=laid_errs hrows L gs ps (fun _ h=>h) hnd hg (fun g hg=>of_decide_eq_true (List.all_eq_true.1 ht g hg)) hv
 have hlen:gErrs.length = 37:=rfl
 have pos:∀ i,i < 37->gs[gs.idxOf (gErrs.getD i 0)]? = some (gErrs.getD i 0)/\al[gs.idxOf (gErrs.getD i 0)]? = some (al.getD (gs.idxOf (gErrs.getD i 0)) default):=by
  intro i hi
  have hm:gErrs.getD i 0 ∈ gErrs:=by rw [List.getD_eq_getElem?_getD,List.getElem?_eq_getElem (by omega)]; exact List.getElem_mem _
  have hm2:gErrs.getD i 0 ∈ gs:=List.contains_iff_mem.1 (List.all_eq_true.1 hall _ hm)
  have hlt:=List.idxOf_lt_length_of_mem hm2
  refine ⟨by rw [List.getElem?_eq_getElem hlt]; simp,?_⟩
  generalize gs.idxOf (gErrs.getD i 0) = x at *
  rw [List.getD_eq_getElem?_getD,List.getElem?_eq_getElem (by omega)]; rfl
 refine ⟨fun n=>al.getD (gs.idxOf (gErrs.getD (n - 1) 0)) default,fun i g hgi=>?_,fun i j hi hj he=>?_,fun i hi=>?_⟩
 ·have hi:i < 37:=(List.getElem?_eq_some_iff.1 hgi).1
  have e:gErrs.getD i 0 = g:=by rw [List.getD_eq_getElem?_getD,hgi]; rfl
  obtain ⟨p1,p2⟩:=pos i hi
  simp only [Nat.add_sub_cancel]
  rw [e] at p1 p2 ⊢
  exact (h1 _ g _ p1 p2).1
 ·simp only [Nat.add_sub_cancel] at he
  obtain ⟨p1,p2⟩:=pos i hi
  obtain ⟨q1,q2⟩:=pos j hj
  rw [<- he] at q2
  have hidx:gs.idxOf (gErrs.getD i 0) = gs.idxOf (gErrs.getD j 0):=by
   refine (List.getElem?_inj (by rw [List.length_map]; exact (List.getElem?_eq_some_iff.1 p2).1) h3).1 ?_
   rw [List.getElem?_map,List.getElem?_map,p2,q2]
  rw [hidx,q1] at p1
  have hv:=Option.some.inj p1
  refine ((List.getElem?_inj (by omega) hnd0).1 ?_).symm
  rw [List.getElem?_eq_getElem (show j < gErrs.length by omega),List.getElem?_eq_getElem (show i < gErrs.length by omega)]
  rw [List.getD_eq_getElem?_getD,List.getD_eq_getElem?_getD,List.getElem?_eq_getElem (show j < gErrs.length by omega),List.getElem?_eq_getElem (show i < gErrs.length by omega)] at hv
  simpa using hv
 ·obtain ⟨p1,p2⟩:=pos i hi
  simp only [Nat.add_sub_cancel]
  exact (h1 _ _ _ p1 p2).2
def errTexts:List (String × List UInt8):=[
 ("remit/api.ErrShort",[114,101,109,105,116,58,32,116,111,111,32,115,104,111,114,116]),
 ("remit/api.ErrVarint",[114,101,109,105,116,58,32,118,97,114,105,110,116]),
 ("remit/api.ErrLimit",[114,101,109,105,116,58,32,108,105,109,105,116]),
 ("remit/api.ErrOrder",[114,101,109,105,116,58,32,111,114,100,101,114]),
 ("remit/api.ErrTail",[114,101,109,105,116,58,32,116,97,105,108]),
 ("remit/api.ErrRange",[114,101,109,105,116,58,32,114,97,110,103,101]),
 ("remit/api.ErrForm",[114,101,109,105,116,58,32,102,111,114,109]),
 ("remit/api.ErrDigits",[114,101,109,105,116,58,32,99,104,101,99,107,32,100,105,103,105,116,115]),
 ("remit/api.ErrAmount",[114,101,109,105,116,58,32,97,109,111,117,110,116]),
 ("remit/api.ErrOverflow",[114,101,109,105,116,58,32,111,118,101,114,102,108,111,119]),
 ("remit/api.ErrCurrency",[114,101,109,105,116,58,32,99,117,114,114,101,110,99,121]),
 ("remit/api.ErrDown",[114,101,109,105,116,58,32,100,111,119,110]),
 ("remit/api.ErrSmall",[114,101,109,105,116,58,32,115,109,97,108,108]),
 ("remit/api.ErrBlank",[114,101,109,105,116,58,32,98,108,97,110,107]),
 ("remit/api.ErrCorrupt",[114,101,109,105,116,58,32,99,111,114,114,117,112,116]),
 ("remit/api.ErrWorn",[114,101,109,105,116,58,32,119,111,114,110]),
 ("remit/api.ErrFull",[114,101,109,105,116,58,32,102,117,108,108]),
 ("remit/api.ErrLarge",[114,101,109,105,116,58,32,108,97,114,103,101]),
 ("remit/api.ErrClosed",[114,101,109,105,116,58,32,99,108,111,115,101,100]),
 ("remit/api.ErrAccount",[114,101,109,105,116,58,32,97,99,99,111,117,110,116]),
 ("remit/api.ErrExists",[114,101,109,105,116,58,32,101,120,105,115,116,115]),
 ("remit/api.ErrFrozen",[114,101,109,105,116,58,32,102,114,111,122,101,110]),
 ("remit/api.ErrFunds",[114,101,109,105,116,58,32,102,117,110,100,115]),
 ("remit/api.ErrLegs",[114,101,109,105,116,58,32,108,101,103,115]),
 ("remit/api.ErrConflict",[114,101,109,105,116,58,32,99,111,110,102,108,105,99,116]),
 ("remit/api.ErrId",[114,101,109,105,116,58,32,105,100]),
 ("remit/api.ErrPayee",[114,101,109,105,116,58,32,112,97,121,101,101]),
 ("remit/api.ErrRail",[114,101,109,105,116,58,32,114,97,105,108]),
 ("remit/api.ErrBusy",[114,101,109,105,116,58,32,98,117,115,121]),
 ("remit/api.ErrWindow",[114,101,109,105,116,58,32,119,105,110,100,111,119]),
 ("remit/api.ErrPhase",[114,101,109,105,116,58,32,112,104,97,115,101]),
 ("remit/api.ErrToken",[114,101,109,105,116,58,32,116,111,107,101,110]),
 ("remit/api.ErrTime",[114,101,109,105,116,58,32,116,105,109,101]),
 ("remit/api.ErrUnknown",[114,101,109,105,116,58,32,117,110,107,110,111,119,110]),
 ("remit/api.ErrConfig",[114,101,109,105,116,58,32,99,111,110,102,105,103,117,114,97,116,105,111,110]),
 ("remit/api.ErrCommand",[114,101,109,105,116,58,32,99,111,109,109,97,110,100]),
 ("remit/api.ErrUse",[114,101,109,105,116,58,32,105,110,32,117,115,101])]
theorem errs_of_texts {W:World} (h:laidMet Tryz.prog (errTexts.map fun x=>(x.1,errD x.2)) W):∃ ad,Errs ad W :=
 errs_of_list errTexts gErrs (by kernel_rfl) (by kernel_rfl) (by decide) (by decide) h
theorem tab_of {W:World} (h:laidMet Tryz.prog [("remit/checks.steps",(Rows.laid_remit_checks_steps:DataW Unit))] W):Tab W:=by
 have h1:=Lib.tabIs_of_head (P:=Tryz.prog) (W:=W) (name:= "remit/checks.steps") (k:=.u32) (zs:=C.tab.map Int.ofNat) (rest:=[]) (g:=38) (t:=332) (e:=259) (n:=16) (by kernel_rfl) (by kernel_rfl) Tryz.underlying332 Tryz.underlying259 (by kernel_rfl) (by kernel_rfl) h
 intro k hk
 have h2:=h1.cell (g:=38) (by kernel_rfl) k (by simpa [C.tab] using hk)
 rw [h2]
 congr 2
 have:∀ k < 16,(C.tab.map Int.ofNat).getD k 0 = ((C.tab.getD k 0:Nat):Int):=by decide
 exact this k hk
end Go.Proofs.YthjjfjhajadimaaGreatDoor

