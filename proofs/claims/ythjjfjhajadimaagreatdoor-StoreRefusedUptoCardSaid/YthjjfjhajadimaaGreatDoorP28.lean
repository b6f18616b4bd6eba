/-
  Joined: TTabD, TSeqU, OSnap.
-/
import Derived.Laws.MakeOwn
import Derived.Test.YthjjfjhajadimaaGreatDoorP27
namespace Go.Proofs.YthjjfjhajadimaaGreatDoor
open Go.RowKit Go.Shelf Go.WideShapes
attribute [local go_sem] Oper.semAt_some
set_option maxRecDepth 100000
def IterP11 (W:World) (b:Nat) (A:Nat->Prop) (l:List Tb.R) (e:Ending) (w':World):Prop:=∃ fv X,e = .returned fv/\IterV X w' fv l/\(∀ k,X k->(A k\/W.heap.size<=k)/\k ≠ b)/\Qt W w'
set_option maxHeartbeats 4000000 in
theorem rows11_any {W:World} {b:Nat} {l:List Tb.R} {A:Nat->Prop} (h:Tbl W b l A) (FM:∀ w,Qt W w->Calls Tryz.prog 107 #[ptrV b,.string ⟨#[]⟩] w (IterP11 w b A l)) :
  Calls Tryz.prog 66 #[ptrV b] W fun e w'=>∃ v,e = .returned v/\NewR W w' v l:=by
 refine (callsIn_wide (n:=5)).1 ?_
 obtain ⟨i0,hi,hz0,hz1,hz2'⟩:=info_parts infoRow
 have LN:=len11_any h
 have hl:=h.len
 have hmk:∀ w:World,(Instr.makeSlice 58 (.int .i64 0) (.int .i64 (l.length:Int))).run Tryz.prog w = .ok (.slice (some ⟨w.heap.size,0,none⟩) 0 l.length) (w.alloc (.cells (madeCells (Value.agg #[.string ⟨#[]⟩,.string ⟨#[]⟩]).cells (l.length * 2)) 101)):=fun w=>by
  have h:=run_make (P:=Tryz.prog) w 58 101 i0 _ Tryz.underlying58 hi hz0 .i64 .i64 0 (l.length:Int) (by omega) (by omega) (by rw [hz2']; omega) (by omega)
  rw [hz1] at h
  simpa using h
 have HH:=Lib.hid h
 clear h
 refine callsIn_of_wp_marks Tryz.func66 rfl trivial ?_ rfl
 simp only [Tryz.ntmps66,List.size_toArray,List.length_cons,List.length_nil,Nat.reduceAdd,Nat.reduceSub,Array.replicate_succ,Array.replicate_zero,List.push_toArray,List.append_toArray,List.nil_append,List.cons_append]
 refine wpIn_wide.2 ?_
 go_wp2_with fail
 refine LN.mono ?_
 rintro e w1 ⟨rfl,rfl⟩
 go_wp2_with fail
 obtain ⟨W0,hW0⟩:∃ W,(w1.alloc (.cells (madeCells #[Value.string ⟨#[]⟩,Value.string ⟨#[]⟩] (l.length * 2)) 101)).alloc (.cells #[.slice (some ⟨w1.heap.size,0,none⟩) 0 l.length] 58) = W:=⟨_,rfl⟩
 have Q0:Qt w1 W0:=hW0 ▸ ((Qt.refl w1).alloc _).alloc _
 have hs0:W0.heap.size = w1.heap.size + 2:=by rw [<- hW0]; simp
 have b4:Boxed W0 (w1.heap.size + 1) 58 (.slice (some ⟨w1.heap.size,0,none⟩) 0 l.length):=by
  have h:=Boxed.new (w1.alloc (.cells (madeCells #[Value.string ⟨#[]⟩,Value.string ⟨#[]⟩] (l.length * 2)) 101)) 58 (.slice (some ⟨w1.heap.size,0,none⟩) 0 l.length)
  rw [World.size_alloc] at h
  exact hW0 ▸ h
 have r4:W0.ownsRow w1.heap.size 101 2 (.slice (some ⟨w1.heap.size,0,none⟩) 0 l.length) 0 [] :=
  hW0 ▸ (World.ownsRow_made (e:=101) (size:=2) (base:=w1.heap.size) w1 (madeCells #[Value.string ⟨#[]⟩,Value.string ⟨#[]⟩] (l.length * 2)) l.length (Nat.le_refl _) (by unfold maxLen; omega) (by rw [size_madeCells])).alloc _
 rw [hW0]
 clear hW0 LN hmk
 refine (FM W0 Q0).mono ?_
 rintro e w2 ⟨fv,X,rfl,⟨hX,gf,lb,rfl,hen,hseq⟩,hXA,q2⟩
 have hz2:=q2.size
 have b4:=boxR_qt b4 q2
 have r4:=ownsRow_kept r4 q2 (fun _ _ e=>e)
 have Q2:=Qt.trans Q0 q2
 have hlt:=HH.out.lt
 have HOW:∀ k,BoxOw (w1.heap.size + 1) w2 k->k < w2.heap.size/\¬ X k:=by
  have hne:∀ k,w1.heap.size<=k->k < w1.heap.size + 2->¬ X k:=fun k h1 h2 hx=>by
   rcases (hXA k hx).1 with h | h
   ·have:=hlt k h; omega
   ·omega
  rintro k (e | ⟨u,hu,e⟩)
  ·exact ⟨by omega,hne k (by omega) (by omega)⟩
  ·rw [b4.cell] at hu
   injection hu with hu
   subst hu
   injection e with e
   simp only at e
   exact ⟨by omega,hne k (by omega) (by omega)⟩
 have HX:=Lib.hid hX
 clear FM HH hXA hlt Q0 q2
 have hne:∀ W,(binOp .eql 98 (.func (.func gf) #[] lb) .nilFunc).run Tryz.prog W = .ok (.bool false) W:=func_nilR gf lb
 go_wp2_with fail
 refine (wpIn_wide (n:=5)).1 ?_
 refine' wpIn_rangeFunc_ownG rfl (by omega) (gf:=gf) (lb:=lb) rfl trivial hen (hseq 4 (by omega) w2 (Keeps.refl _ _) w2.heap.size _ (boxOw (B:=w1.heap.size + 1) (by omega)) (Nat.le_refl _) HOW) KpO.trans (KpO.put (boxOw (by omega))) (Below.refl _ _) (fun _=>rfl)
  (fun pre W=>(∃ v,Boxed W (w1.heap.size + 1) 58 v/\W.ownsRow w1.heap.size 101 2 v pre.length (rowsC pre)/\True)/\Below w1.heap.size w2 W)
  (fun _ _ _=>False)
  (OwnFrom.and (Own.from (holdsRow_own w1.heap.size (w1.heap.size + 1) 58 101 2 (fun pre=>pre.length) (fun pre=>rowsC pre) (fun _ _=>True)) _) (ownFrom_below (by omega) (by omega)))
  (fun _ _ _ _ _ hs _ _=>hs)
  ⟨⟨_,b4,r4,trivial⟩,Below.refl _ _⟩ _ ?assign ?body ?done ?stop
 case assign =>
  intro l x W K hK
  unfold encR
  gi_wp2
  exact hK
 case body =>
  rintro L pre x W ⟨⟨v,hv,hrow,_⟩,hB⟩ hlt
  have hc:=hv.cell
  have hf:=hv.frozen
  obtain ⟨va,vc,rfl⟩:∃ a c,v = .slice a pre.length c:=by
   rcases hrow.2 with ⟨e,h0⟩ | ⟨g,cap,cur,e,_⟩
   ·exact ⟨none,0,by rw [e,h0]⟩
   ·exact ⟨_,_,e⟩
  have hb1:pre.length + 1<=maxLen:=by unfold maxLen; omega
  have hb2:(pre.length + 1) * 32<=140737488355328:=by omega
  have hBz:=hB.size
  have hb3:∀ o:Obj,w1.heap.size<=(W.alloc o).heap.size:=by intro o; simp; omega
  obtain ⟨s1,hs1⟩:∃ s:ByteArray,strV x.1 = .string s:=⟨_,rfl⟩
  obtain ⟨s2,hs2⟩:∃ s:ByteArray,strV x.2 = .string s:=⟨_,rfl⟩
  have HXX:=Lib.hid (show rowsC (pre ++ [x]) = rowsC pre ++ [.string s1,.string s2] by rw [rowsC_append,rowsC_one,hs1,hs2])
  have HB:=Lib.hid hB
  rw [hs1,hs2]
  clear hseq hen r4 b4 Q2 hs1 hs2 hlt hX HOW
  have HV:=Lib.hid hv
  gi_wp2_with (gi_at_builtin; refine wpListIn_append_own_at _ rfl _ _ 58 rfl w1.heap.size 101 i0 (.agg #[.string ⟨#[]⟩,.string ⟨#[]⟩]) 2 32 Tryz.underlying58 hi hz0 hz1 hz2' rfl (by decide) _ _ _ rfl (hrow.alloc _) ⟨W.heap.size,0,none⟩ 1 1 [.string s1,.string s2] rfl rfl (news2 _ _ _ _) (by intro y hy; simp at hy; rcases hy with rfl | rfl <;> rfl) hb1 hb2 (hb3 _) ?_; intro v' w3 hown' hgrow _ hnew; obtain ⟨g',cap',rfl⟩:=ownsRow_succ hown'; obtain ⟨hv1,hv2,hr2,hk2,hb2'⟩:=hv.appended (by decide) hrow (by omega) (by omega) hown' hgrow; have hc1:=hv1.cell; have hf1:=hv1.frozen)
  refine ⟨hk2.from _,boxOw_step HV.out hv2 (Keeps.setCell (Keeps.grown ((Keeps.refl _ W).alloc _) hgrow (fun k _ e=>.inr e.symm)) (fun _=>.inl rfl) _) (fun x hx=>?_),⟨_,hv2,?_,trivial⟩,HB.out.trans hb2'⟩
  ·have hx2:=hown'.lt x hx
   rcases hnew with e | e
   ·exact .inl (e ▸ hx)
   ·rw [e] at hx
    injection hx with hx
    subst hx
    exact .inr ⟨by simp,by rw [World.size_setCell]; exact hx2.2⟩
  rw [HXX.out,List.length_append,List.length_singleton]
  exact hr2
 case done =>
  rintro D ys W hD rfl ⟨⟨v,hv,hrow,_⟩,hB⟩ hK
  obtain ⟨va,vc,rfl⟩:∃ a c,v = .slice a ys.length c:=by
   rcases hrow.2 with ⟨e,h0⟩ | ⟨g,cap,cur,e,_⟩
   ·exact ⟨none,0,by rw [e,h0]⟩
   ·exact ⟨_,_,e⟩
  have hc:=hv.cell
  have row2:W.ownsRow 0 101 2 (.slice va ys.length vc) ys.length (rowsC ys):=by
   rcases hrow with ⟨h1,h2⟩
   rcases h2 with h2 | ⟨g,cap,cs,e,hle,hh,rest⟩
   ·exact ⟨h1,.inl h2⟩
   ·exact ⟨h1,.inr ⟨g,cap,cs,e,Nat.zero_le _,hh,rest⟩⟩
  have row3:=ownsRow_putObj row2 (.deferred none) hK rfl
  have new3:∀ g,(Value.slice va ys.length vc).ownBlock = some g->w1.heap.size<=g:=by
   intro g hg
   rcases hrow.2 with ⟨e,_⟩ | ⟨g',cap,cs,e,hle,_⟩
   ·rw [e] at hg
    cases hg
   ·rw [e] at hg
    injection hg with hg
    have hg:g' = g:=hg
    omega
  have QW:Qt w1 W:=⟨hB.os.trans Q2.os,hB.tape.trans Q2.tape,hB.output.trans Q2.output,Nat.le_trans Q2.size hB.size,fun k hk e=>(hB.block k hk).trans (Q2.block k hk e)⟩
  have Q3:Qt w1 (W.putObj D (.deferred none)):=Keeps.grown QW (grownBy_putObj' _ _ _) (fun k hk e=>by injection e with e; omega)
  have FIN:=Lib.hid (show NewR w1 (W.putObj D (.deferred none)) (.slice va ys.length vc) ys from ⟨row3,new3,Q3⟩)
  clear hseq hen hne row3 new3 QW Q3 row2
  go_wp2
  refine ⟨by simp,.inl ⟨_,_,rfl,run_takeDeferred hK,?_⟩⟩
  exact ⟨_,(results_tmp (t:=2) rfl _ _ _:_ = Result.ok (.slice va ys.length vc) _),_,rfl,FIN.out⟩
 case stop =>
  rintro D c pre W _ _ h _
  exact h.elim
end Go.Proofs.YthjjfjhajadimaaGreatDoor
namespace Go.Proofs.YthjjfjhajadimaaGreatDoor
open Go.RowKit Go.WideShapes
set_option maxRecDepth 100000
def SeqP (J Jx:List Tb.R->World->Prop) (L:List Tb.R) (e:Ending) (W':World):Prop:=(∃ v,e = .returned v)/\((∃ ys,ys = L/\J ys W')\/(∃ pre,pre <+: L/\Jx pre W'))
theorem SeqP.of {Ow:World->Nat->Prop} {J Jx:List Tb.R->World->Prop} {L:List Tb.R} {W W':World} {v:Value} {ok:Bool} (h:(ok = true/\J ([] ++ L) W'/\KpO Ow W W')\/(ok = false/\∃ q,q <+: L/\Jx ([] ++ q) W')):SeqP J Jx L (.returned v) W':=by
 refine ⟨⟨_,rfl⟩,?_⟩
 rcases h with ⟨_,j,_⟩ | ⟨_,q,hq,jx⟩
 ·exact .inl ⟨_,rfl,by simpa using j⟩
 ·exact .inr ⟨q,hq,by simpa using jx⟩
theorem grown_qt {A B:World} (q:Qt A B):A.grownBy B none:=⟨q.os,q.tape,q.output,q.size,fun k hk _=>q.block k hk (fun e=>e)⟩
theorem box_cell {W:World} {B:Nat} {t:TypeId} {v:Value} (h:Boxed W B t v):W.cell? ⟨B,0,none⟩ = some v:=h.cell
abbrev RowOf (l:List Tb.R):={ x:Tb.R // x ∈ l }
def IterM (X:Nat->Prop) (w:World) (fv:Value) (M l:List Tb.R):Prop :=
 (∀ k,X k->k < w.heap.size)/\∃ gf lb,fv = .func (.func gf) #[] lb/\(∀ args W,(callFunc gf args).run Tryz.prog W = .ok (.enter gf args) W) /\
  ∀ n,1<=n->∀ W,Keeps (fun k=>¬ X k) w W->∀ (n0:Nat) (Ow:World->Nat->Prop),OwnsO n0 Ow->n0<=W.heap.size->(∀ k,Ow W k->k < W.heap.size/\¬ X k) ->
   SeqStopsK (α:=RowOf M) Fence.wide n Tryz.prog gf lb (fun x=>encR x.1) (KpO Ow) (fun ys=>ys.map (·.1) = l) (fun pre=>pre.map (·.1) <+: l) l.length W
set_option maxHeartbeats 800000 in
theorem rising1_any {Ow:World->Nat->Prop} {J Jx:List Tb.R->World->Prop} {L:List Tb.R} {W:World} {p:Option Addr} {bn bs lp:Nat} {lo hi:ByteArray} {ends:Bool} (cn:W.cell? ⟨bn,0,none⟩ = some (.pointer p))
  (s0:W.cell? ⟨bs,0,none⟩ = some (.string lo)) (s1:W.cell? ⟨bs,1,none⟩ = some (.string hi)) (s2:W.cell? ⟨bs,2,none⟩ = some (.bool ends))
  (RI:Calls Tryz.prog 209 #[.pointer p,spanV lo hi ends,.func (.yield lp) #[] #[]] W (RiseP Ow J Jx [] L W)) :
  Calls Tryz.prog 208 #[.func (.yield lp) #[] #[],ptrV bn,ptrV bs] W (SeqP J Jx L):=by
 go_enter Tryz.func208,Tryz.ntmps208
 go_wp2_with fail
 refine RI.mono ?_
 rintro e w1 ⟨ok,rfl,h⟩
 have FIN:=Lib.hid (fun v=>SeqP.of (v:=v) h)
 clear h RI cn s0 s1 s2
 go_wp2
 go_end0
 exact FIN.out _
set_option maxHeartbeats 1600000 in
theorem rising_any {X:Nat->Prop} {W:World} {p:Option Addr} {T:Tb.Tr} (lo hi:ByteArray) (ends:Bool) (h:IsT X W p T) (hX:∀ k,X k->k < W.heap.size) (hs:Tb.Sorted T.list) :
  Calls Tryz.prog 152 #[.pointer p,spanV lo hi ends] W fun e W'=>∃ fv,e = .returned fv/\IterV (fun k=>X k\/(W.heap.size<=k/\k < W'.heap.size)) W' fv (Tb.sel lo.data.toList hi.data.toList ends T.list)/\IterM (fun k=>X k\/(W.heap.size<=k/\k < W'.heap.size)) W' fv T.list (Tb.sel lo.data.toList hi.data.toList ends T.list)/\Qt W W':=by
 obtain ⟨W1,hW1⟩:∃ W1,(W.alloc (.cells #[.pointer p] 214)).alloc (.cells #[.string lo,.string hi,.bool ends] 219) = W1:=⟨_,rfl⟩
 have q1:Qt W W1:=hW1 ▸ ((Qt.refl W).alloc _).alloc _
 have hz:W1.heap.size = W.heap.size + 2:=by rw [<- hW1]; simp
 have cn:W1.cell? ⟨W.heap.size,0,none⟩ = some (.pointer p):=hW1 ▸ box_cell ((Boxed.new W 214 (.pointer p)).alloc _)
 have hbs:W1.heap[W.heap.size + 1]? = some (.cells #[.string lo,.string hi,.bool ends] 219 (0,0)):=by
  have h:=heap_alloc_new (W.alloc (.cells #[.pointer p] 214)) (.cells #[.string lo,.string hi,.bool ends] 219)
  rw [World.size_alloc] at h
  exact hW1 ▸ h
 have s0:W1.cell? ⟨W.heap.size + 1,0,none⟩ = some (.string lo):=by rw [cell_of_row _ _ _ _ _ _ hbs]; rfl
 have s1:W1.cell? ⟨W.heap.size + 1,1,none⟩ = some (.string hi):=by rw [cell_of_row _ _ _ _ _ _ hbs]; rfl
 have s2:W1.cell? ⟨W.heap.size + 1,2,none⟩ = some (.bool ends):=by rw [cell_of_row _ _ _ _ _ _ hbs]; rfl
 have CORE:∀ (n:Nat) (w:World),Keeps (fun k=>¬ (X k\/(W.heap.size<=k/\k < W1.heap.size))) W1 w->∀ (n0:Nat) (Ow:World->Nat->Prop),OwnsO n0 Ow->n0<=w.heap.size->(∀ k,Ow w k->k < w.heap.size/\¬ (X k\/(W.heap.size<=k/\k < W1.heap.size))) ->
   ∀ (lp:Nat) (Mem:Tb.R->Prop) (J Jx:List Tb.R->World->Prop) (w2:World),(∀ x ∈ T.list,Mem x)->Below w.heap.size w w2->(∀ pre A B,J pre A->Qt A B->J pre B) ->
   (∀ m pre x W1,J pre W1->pre.length < (Tb.sel lo.data.toList hi.data.toList ends T.list).length->Mem x->YieldAt Fence.wide m Tryz.prog lp (encR x) W1 fun e W'=>(e = .returned (.bool true)/\J (pre ++ [x]) W'/\KpO Ow W1 W')\/(e = .returned (.bool false)/\Jx (pre ++ [x]) W'))->J [] w2 ->
   CallsIn Fence.wide n Tryz.prog 208 (#[.func (.yield lp) #[] #[]] ++ #[ptrV W.heap.size,ptrV (W.heap.size + 1)]) w2 (SeqP J Jx (Tb.sel lo.data.toList hi.data.toList ends T.list)):=by
  intro n w K n0 Ow g h0 hO lp Mem J Jx w2 hM hB aJ hY j0
  have q2:Qt w w2:=Qt.of_below hB
  have z2:=q2.size
  have zK:=K.size
  have K2:Keeps (fun k=>¬ (X k\/(W.heap.size<=k/\k < W1.heap.size))) W1 w2:=Keeps.trans K q2 (fun _ _ e=>e.elim)
  have nb:∀ k,W.heap.size<=k->k < W1.heap.size->¬ ¬ (X k\/(W.heap.size<=k/\k < W1.heap.size)):=fun k h1 h2 e=>e (.inr ⟨h1,h2⟩)
  have lv:Lv n0 Ow (fun k=>X k\/(W.heap.size<=k/\k < W1.heap.size)) w2:=by
   have hb:Below n0 w w2:=hB.mono h0
   refine ⟨Nat.le_trans h0 z2,fun k hk=>?_,fun k hk=>?_,fun k hk e=>(hO k (g.below hb e)).2 hk⟩
   ·have:=(hO k (g.below hb hk)).1; omega
   ·rcases hk with hk | hk
    ·have:=hX k hk; have:=q1.size; omega
    ·omega
  have it:IsT (fun k=>X k\/(W.heap.size<=k/\k < W1.heap.size)) w2 p T:=IsT.kept K2 (fun k hk e=>e hk) ((h.qt q1).more (fun _ _ hk=>.inl hk))
  have RI:=rise_any g aJ lp _ Mem hY lo hi ends _ T p [] w2 it hs hM lv j0 (by simp)
  exact callsIn_wide.2 (rising1_any (K2.cellv cn (nb _ (Nat.le_refl _) (by simp only; omega))) (K2.cellv s0 (nb _ (by simp only; omega) (by simp only; omega))) (K2.cellv s1 (nb _ (by simp only; omega) (by simp only; omega))) (K2.cellv s2 (nb _ (by simp only; omega) (by simp only; omega))) RI)
 have hXW:∀ k,(X k\/(W.heap.size<=k/\k < W1.heap.size))->k < W1.heap.size:=fun k hk=>by
  rcases hk with hk | hk
  ·have:=hX k hk; omega
  ·exact hk.2
 have IT:=Lib.hid (show IterV (fun k=>X k\/(W.heap.size<=k/\k < W1.heap.size)) W1 (.func (.func 208) #[] #[ptrV W.heap.size,ptrV (W.heap.size + 1)]) (Tb.sel lo.data.toList hi.data.toList ends T.list) from
  ⟨hXW,208,_,rfl,fun args w=>enters_of Tryz.func208 (by kernel_rfl) rfl args w,fun n _ w K n0 Ow g h0 hO lp J Jx w2 hB aJ _ hY j0 =>
   CORE n w K n0 Ow g h0 hO lp (fun _=>True) J Jx w2 (fun _ _=>trivial) hB (fun pre A B hj q=>aJ pre A B none hj (grown_qt q) (fun r e=>by cases e)) (fun m pre x w hj hl _=>yieldDeep m (hY pre x w hj hl)) j0⟩)
 have IM:=Lib.hid (show IterM (fun k=>X k\/(W.heap.size<=k/\k < W1.heap.size)) W1 (.func (.func 208) #[] #[ptrV W.heap.size,ptrV (W.heap.size + 1)]) T.list (Tb.sel lo.data.toList hi.data.toList ends T.list) from by
  refine ⟨hXW,208,_,rfl,fun args w=>enters_of Tryz.func208 (by kernel_rfl) rfl args w,fun n _ w K n0 Ow g h0 hO lp J Jx w2 hB aJ _ hY j0=>?_⟩
  refine (CORE n w K n0 Ow g h0 hO lp (fun x=>x ∈ T.list) (fun pre W=>∃ us:List (RowOf T.list),us.map (·.1) = pre/\J us W) (fun pre W=>∃ us:List (RowOf T.list),us.map (·.1) = pre/\Jx us W) w2 (fun _ hx=>hx) hB ?_ ?_ ⟨[],rfl,j0⟩).mono ?_
  ·rintro pre A B ⟨us,e,hj⟩ q
   exact ⟨us,e,aJ us A B none hj (grown_qt q) (fun r e=>by cases e)⟩
  ·rintro m pre x w ⟨us,rfl,hj⟩ hl hx
   refine yieldDeep m (YieldAt.mono (hY us ⟨x,hx⟩ w hj (by simpa using hl)) ?_)
   rintro e W' (⟨h1,h2,h3⟩ | ⟨h1,h2⟩)
   ·exact .inl ⟨h1,⟨_,by simp,h2⟩,h3⟩
   ·exact .inr ⟨h1,_,by simp,h2⟩
  ·rintro e W' ⟨hv,⟨ys,e1,us,e2,hj⟩ | ⟨pre,e1,us,e2,hj⟩⟩
   ·exact ⟨hv,.inl ⟨us,e2.trans e1,hj⟩⟩
   ·exact ⟨hv,.inr ⟨us,(show us.map (·.1) <+: _ by rw [e2]; exact e1),hj⟩⟩)
 have Q1:=Lib.hid q1
 have HW1:=Lib.hid hW1
 clear h hX hs q1 hz cn hbs s0 s1 s2 hW1 CORE hXW
 go_enter Tryz.func152,Tryz.ntmps152
 go_wp2
 rw [HW1.out]
 go_ret
 exact ⟨_,rfl,IT.out,IM.out,Q1.out⟩
section
variable {W:World} {b:Nat} {l:List Tb.R} {A:Nat->Prop}
set_option maxHeartbeats 800000 in
theorem from11_any (h:Tbl W b l A) (lo:ByteArray):Calls Tryz.prog 107 #[ptrV b,.string lo] W (IterP11 W b A (Tb.fromL l lo.data.toList)):=by
 obtain ⟨p,T,X,c,e,i,x⟩:=h.is
 have c0:=c.tree
 have RS:=rising_any lo ⟨#[]⟩ false i (fun k hk=>h.lt k (x k hk).1) (by rw [e]; exact h.sorted)
 rw [e,Tb.sel_from _ _ _] at RS
 have HB:=Lib.hid c.lt
 have HX:=Lib.hid x
 clear h c e i x
 go_enter Tryz.func107,Tryz.ntmps107
 go_wp2_with fail
 refine RS.mono ?_
 rintro e w1 ⟨fv,rfl,it,_,q⟩
 have FIN:=Lib.hid (show IterP11 W b A (Tb.fromL l lo.data.toList) (.returned fv) w1 from ⟨fv,_,rfl,it,fun k hk=>by
  rcases hk with hk | hk
  ·exact ⟨.inl (HX.out k hk).1,(HX.out k hk).2⟩
  ·have:=HB.out
   exact ⟨.inr hk.1,by omega⟩,q⟩)
 clear it q RS c0
 go_wp2
 go_ret
 exact FIN.out
def IterPM (W:World) (b:Nat) (A:Nat->Prop) (M xs:List Tb.R) (e:Ending) (W':World):Prop:=∃ fv X,e = .returned fv/\IterM X W' fv M xs/\(∀ k,X k->(A k\/W.heap.size<=k)/\k ≠ b)/\Qt W W'
set_option maxHeartbeats 800000 in
theorem fromM11_any (h:Tbl W b l A) (lo:ByteArray):Calls Tryz.prog 107 #[ptrV b,.string lo] W (IterPM W b A l (Tb.fromL l lo.data.toList)):=by
 obtain ⟨p,T,X,c,e,i,x⟩:=h.is
 have c0:=c.tree
 have RS:=rising_any lo ⟨#[]⟩ false i (fun k hk=>h.lt k (x k hk).1) (by rw [e]; exact h.sorted)
 rw [e,Tb.sel_from _ _ _] at RS
 have HB:=Lib.hid c.lt
 have HX:=Lib.hid x
 clear h c e i x
 go_enter Tryz.func107,Tryz.ntmps107
 go_wp2_with fail
 refine RS.mono ?_
 rintro e w1 ⟨fv,rfl,_,it,q⟩
 have FIN:=Lib.hid (show IterPM W b A l (Tb.fromL l lo.data.toList) (.returned fv) w1 from ⟨fv,_,rfl,it,fun k hk=>by
  rcases hk with hk | hk
  ·exact ⟨.inl (HX.out k hk).1,(HX.out k hk).2⟩
  ·have:=HB.out
   exact ⟨.inr hk.1,by omega⟩,q⟩)
 clear it q RS c0
 go_wp2
 go_ret
 exact FIN.out
end
end Go.Proofs.YthjjfjhajadimaaGreatDoor
namespace Go.Proofs.YthjjfjhajadimaaGreatDoor
open Go.RowKit Go.Shelf Go.WideShapes
attribute [local go_sem] Oper.semAt_some
set_option maxRecDepth 100000
def WrOw (b:Nat) (W:World) (k:Nat):Prop:=k = b\/∃ v,W.cell? ⟨b,1,none⟩ = some v/\v.ownBlock = some k
section
variable {n0 b B:Nat} {r r1:Option Nat} {l l1:List UInt8} {W W' w:World}
theorem wrOw (hb:b < n0):OwnsO n0 (WrOw b):=⟨fun hB h=>by
 rcases h with h | ⟨v,h,e⟩
 ·exact .inl h
 ·exact .inr ⟨v,by rw [<- hB.cell (p:=⟨b,1,none⟩) hb]; exact h,e⟩⟩
theorem Wr.own (h:Wr b r l W) {k:Nat}:WrOw b W k ↔ k = b\/r = some k:=by
 obtain ⟨p,v,_,hb,_,hv,_⟩:=h
 have hc:W.cell? ⟨b,1,none⟩ = some v:=by rw [Lib.cell_of_heap hb]; rfl
 constructor
 ·rintro (e | ⟨u,hu,e⟩)
  ·exact .inl e
  ·rw [hc] at hu
   injection hu with hu
   subst hu
   exact .inr (hv.symm.trans e)
 ·rintro (e | e)
  ·exact .inl e
  ·exact .inr ⟨v,hc,hv.trans e⟩
theorem wrOw_step (h:Wr b r l W) (h':Wr b r1 l1 W') (k:Kept b r r1 W W'):KpO (WrOw b) W W':=by
 refine ⟨k.keeps.size,fun j _ hj _ hn=>(k.keeps.block j (lt_of_heap hj) (fun e=>hn (h.own.2 ?_))).trans hj,fun j hj=>?_⟩
 ·rcases e with e | e
  ·exact .inl e
  ·exact .inr e.symm
 ·rcases h'.own.1 hj with e | e
  ·exact .inl (h.own.2 (.inl e))
  ·have hlt:=h'.rlt e
   rcases k.later with q | ⟨g,q,hg⟩
   ·exact .inl (h.own.2 (.inr (q ▸ e)))
   ·rw [q] at e
    injection e with e
    exact .inr ⟨by omega,hlt⟩
theorem Wr.isCells (h:Wr b r l W) {k:Nat} (hk:k = b\/some k = r):∃ o,W.heap[k]? = some o/\o.isCells = true:=by
 obtain ⟨p,v,_,hb,ho,hv,_⟩:=h
 rcases hk with rfl | e
 ·exact ⟨_,hb,rfl⟩
 ·rcases ho.2 with ⟨e2,_⟩ | ⟨g,cap,cur,fz,e2,_,hg,_⟩
  ·rw [e2] at hv; rw [<- hv] at e; cases e
  ·rw [e2] at hv
   have e3:some g = r:=hv
   rw [<- e3] at e
   injection e with e
   subst e
   exact ⟨_,hg,rfl⟩
theorem wrOw_from (h:Wr b r l W) (k:Kept b r r1 W W'):KeepsFrom B W W' :=
 ⟨k.keeps.size,fun j o _ hj ho=>(k.keeps.block j (lt_of_heap hj) (fun e=>by
  obtain ⟨o',h1,h2⟩:=h.isCells e
  rw [hj] at h1
  injection h1 with h1
  rw [h1] at ho
  rw [ho] at h2
  cases h2)).trans hj⟩
def SnAt {M:List Tb.R} (b:Nat) (l:List UInt8) (w3:World) (pre:List (RowOf M)) (W:World):Prop:=(∃ r,Wr b r (l ++ So.rowsB (pre.map (·.1))) W/\∀ k,r = some k->WrOw b w3 k\/w3.heap.size<=k)/\Keeps (WrOw b w3) w3 W
theorem snAt_own {M:List Tb.R} {w3:World} (h3:w3.heap.size<=B):OwnFrom B (SnAt (M:=M) b l w3):=by
 rintro pre A A' row ⟨⟨r,h,hr⟩,hk⟩ hg hrow
 have hne:∀ k,(k = b\/some k = r)->some k ≠ row:=by
  intro k e e2
  obtain ⟨o,h1,h2⟩:=h.isCells e
  obtain ⟨_,o',h3,h4⟩:=hrow k e2.symm
  rw [h1] at h3
  injection h3 with h3
  rw [h3,h4] at h2
  cases h2
 have K:Keeps (fun k=>some k = row) A A':=Keeps.grown (Keeps.refl _ A) hg (fun _ _ e=>e)
 exact ⟨⟨r,h.kept K (hne b (.inl rfl)) (fun k e=>hne k (.inr e.symm)),hr⟩,Keeps.trans hk K (fun i hi e=>by have:=(hrow i e.symm).1; omega)⟩
end
theorem rowsB_most {l:List Tb.R} {C:Nat} (hk:∀ x ∈ l,(So.rowB x).length * l.length<=C):∀ {pre:List (RowOf l)},pre.length < l.length->(So.rowsB (pre.map (·.1))).length<=C:=by
 have h:∀ (n:Nat) (pre:List (RowOf l)),pre.length = n->(So.rowsB (pre.map (·.1))).length * l.length<=n * C:=by
  intro n
  induction n with
  | zero=>intro pre e; obtain rfl:=List.length_eq_zero_iff.1 e; simp [So.rowsB]
  | succ n ih =>
   intro pre e
   cases pre with
   | nil=>cases e
   | cons x pre =>
    have h1:=ih pre (by simpa using e)
    have h2:=hk x.1 x.2
    rw [List.map_cons,So.rowsB_cons,List.length_append,Nat.add_mul,Nat.succ_mul]
    omega
 intro pre hlt
 have h1:=h pre.length pre rfl
 have h2:pre.length * C<=C * l.length:=by rw [Nat.mul_comm]; exact Nat.mul_le_mul_left C (Nat.le_of_lt hlt)
 exact Nat.le_of_mul_le_mul_right (Nat.le_trans h1 h2) (by omega)
set_option maxHeartbeats 4000000 in
theorem snap13_any {t:Nat} {l:List Tb.R} {A:Nat->Prop} (k:Nat) (w:World) (hT:Tbl w t l A) (hk:∀ x ∈ l,(So.rowB x).length * l.length<=35184372088832) :
  Calls Tryz.prog 120 #[contV t k] w fun e w'=>e = .returned (strV (So.snapB l))/\Qt w w':=by
 refine (callsIn_wide (n:=5)).1 ?_
 have LN:=Lib.hid (fun W (q:Qt w W)=>len11_any (hT.qt q))
 have FR:=Lib.hid (fun W (q:Qt w W)=>by
  have f:=fromM11_any (hT.qt q) ⟨#[]⟩
  rwa [show Tb.fromL l (⟨#[]⟩:ByteArray).data.toList = l from Tb.from_nil l] at f)
 have hl:=hT.len
 have hx:IntKind.u64.wrap (l.length:Int) = (l.length:Int):=by rw [IntKind.wrap_u64]; omega
 have HLT:=Lib.hid hT.lt
 have hu:=Lib.uvarint_length64 (x:=l.length) (by omega)
 obtain ⟨W,hW,q0,bx⟩:∃ W,w.alloc (.cells #[ptrV t,.int .i64 (k:Int)] 132) = W/\Qt w W/\Bk W w.heap.size 132 [ptrV t,.int .i64 (k:Int)]:=⟨_,rfl,(Qt.refl w).alloc _,Bk.new w _ _⟩
 have Q0:=Lib.hid q0
 have BX:=Lib.hid bx
 have HS0:=Lib.hid (show w.heap.size + 1 = W.heap.size by rw [<- hW]; simp)
 unfold contV
 clear hT bx q0
 refine callsIn_of_wp_marks Tryz.func120 rfl trivial ?_ rfl
 simp only [Tryz.ntmps120,List.size_toArray,List.length_cons,List.length_nil,Nat.reduceAdd,Nat.reduceSub,Array.replicate_succ,Array.replicate_zero,List.push_toArray,List.append_toArray,List.nil_append,List.cons_append]
 refine wpIn_wide.2 ?_
 have NEW:=wnew_any W
 go_wp2_with fail
 refine NEW.mono ?_
 rintro e w1 ⟨rfl,r1,k1,s1⟩
 obtain ⟨b,hb⟩:∃ b,W.heap.size = b:=⟨_,rfl⟩
 rw [hb] at r1 s1 ⊢
 have HBb:=Lib.hid hb
 obtain ⟨Bw,hBw⟩:∃ B,w1.heap.size = B:=⟨_,rfl⟩
 obtain ⟨W2,hW2,q2,bw⟩:∃ W2,w1.alloc (.cells #[.pointer (some ⟨b,0,none⟩)] 200) = W2/\Qt w1 W2/\Bk W2 w1.heap.size 200 [.pointer (some ⟨b,0,none⟩)]:=⟨_,rfl,(Qt.refl w1).alloc _,Bk.new w1 _ _⟩
 rw [hBw] at bw
 have hz2:W2.heap.size = Bw + 1:=by rw [<- hW2,World.size_alloc,hBw]
 have bc:=(BX.out.qt k1).qt q2
 have R2:Wr b none [] W2:=r1.kept q2 (fun e=>e) (fun _ _ e=>e)
 have hz0:=HS0.out
 have hWb:=HBb.out
 have Q2:=Lib.hid (Qt.trans (Qt.trans Q0.out k1) q2)
 have NE:=Lib.hid (show Bw ≠ b/\w.heap.size ≠ b/\w.heap.size < b/\b < Bw from ⟨by omega,by omega,by omega,by omega⟩)
 have BW:=Lib.hid bw
 have BC:=Lib.hid bc
 have HZ2:=Lib.hid hz2
 have UI:=Lib.hid (wuint_any b none [] l.length W2.drew R2.drew (by decide) (by omega))
 have c0:=bc.cell 0 _ rfl
 have cw:=bw.cell 0 _ rfl
 have KP:=Lib.hid (fun W' (q:Qt W2 W')=>(show W'.cell? ⟨Bw,0,none⟩ = some (.pointer (some ⟨b,0,none⟩))/\W'.cell? ⟨w.heap.size,0,none⟩ = some (ptrV t) from ⟨(BW.out.qt q).cell 0 _ rfl,(BC.out.qt q).cell 0 _ rfl⟩))
 have KU:=Lib.hid (fun W' r (k:Kept b none r W2.drew W')=>(show W'.cell? ⟨Bw,0,none⟩ = some (.pointer (some ⟨b,0,none⟩))/\W'.cell? ⟨w.heap.size,0,none⟩ = some (ptrV t) from
  have hS:∀ j,j ≠ b->¬ (j = b\/some j = (none:Option Nat)):=fun j hj e=>by
   rcases e with e | e
   ·exact hj e
   ·cases e
  ⟨(BW.out.drew.kept k.keeps (hS _ NE.out.1)).cell 0 _ rfl,(BC.out.drew.kept k.keeps (hS _ NE.out.2.1)).cell 0 _ rfl⟩))
 clear NEW k1 hb R2 r1 q2 bw bc hz2 s1 hz0 hWb
 go_wp2_with fail
 go_region_held3 (fun W'=>W'.cell? ⟨Bw,0,none⟩ = some (.pointer (some ⟨b,0,none⟩))/\W'.cell? ⟨w.heap.size,0,none⟩ = some (ptrV t))
  (first | go_keep | exact KP.out _ (Keeps.drew (Qt.refl W2)) | exact KU.out _ _ k3)
  (first
   | (go_at_call 106; refine (LN.out _ (Keeps.drew Q2.out)).mono ?_; rintro e w2 ⟨rfl,rfl⟩)
   | (go_at_call 137; refine UI.out.mono ?_; rintro e w3 ⟨rfl,r,r3,k3⟩))
 have hq3:Qt w w3:=Keeps.trans (S:=fun _=>False) (Keeps.drew Q2.out) k3.keeps (fun i hi e=>by
  have:=NE.out.2.2.1
  rcases e with e | e
  ·omega
  ·cases e)
 obtain ⟨z1,z2⟩:=KU.out _ _ k3
 have hr3:∀ k,r = some k->Bw < k:=fun k e=>by
  rcases k3.later with q | ⟨g,q,hg⟩
  ·rw [q] at e; cases e
  ·rw [q] at e
   injection e with e
   have h1:W2.heap.size<=g:=hg
   have:=HZ2.out
   omega
 have bw3:=BW.out.drew.kept k3.keeps (fun e=>by
  rcases e with e | e
  ·exact NE.out.1 e
  ·cases e)
 have F3:=FR.out w3 hq3
 have HR3:=Lib.hid hr3
 have BW3:=Lib.hid bw3
 have hrl:=fun k e=>r3.rlt (k:=k) e
 have hbl:=r3.lt
 clear k3 UI bw3 hr3
 go_wp2_with fail
 refine F3.mono ?_
 rintro e w4 ⟨fv,X,rfl,⟨hX,gf,lb,rfl,hen,hseq⟩,hXA,q4⟩
 have r4:Wr b r (Lib.uvarint l.length) w4:=r3.kept q4 (fun e=>e) (fun _ _ e=>e)
 have hb4:=r4.lt
 have BW4:=Lib.hid (BW3.out.qt q4)
 have Q4:=Lib.hid (Qt.trans hq3 q4)
 have HOW:∀ k,WrOw b w4 k->k < w4.heap.size/\¬ X k:=by
  have hz4:=q4.size
  have hin:∀ k,w.heap.size < k->k < w3.heap.size->¬ X k:=fun k h1 h2 hx=>by
   rcases (hXA k hx).1 with h | h
   ·have:=HLT.out k h; omega
   ·omega
  have h1:=NE.out.2.2
  intro k hk
  rcases r4.own.1 hk with e | e
  ·subst e; exact ⟨by omega,hin _ (by omega) hbl⟩
  ·have h2:=hrl k e
   have h3:=HR3.out k e
   exact ⟨by omega,hin _ (by omega) h2⟩
 have R4:=Lib.hid r4
 have NB4:=Lib.hid (show ¬ WrOw b w4 Bw from fun e=>by
  rcases r4.own.1 e with e | e
  ·exact NE.out.1 e
  ·exact Nat.lt_irrefl _ (HR3.out _ e))
 clear F3 hXA hrl hbl r3 q4 r4 z1 z2 hq3
 go_wp2_with fail
 refine (wpIn_wide (n:=5)).1 ?_
 refine' wpIn_rangeFunc_ownG rfl (by omega) (gf:=gf) (lb:=lb) rfl trivial hen (hseq 4 (by omega) w4 (Keeps.refl _ _) w4.heap.size _ (wrOw hb4) (Nat.le_refl _) HOW) KpO.trans (KpO.put (wrOw hb4)) (Below.refl _ _) (fun _=>rfl)
  (SnAt (M:=l) b (Lib.uvarint l.length) w4)
  (fun _ _ _=>False)
  (snAt_own (Nat.le_refl _))
  (fun _ _ _ _ _ hs _ _=>hs)
  ⟨⟨r,by simpa [So.rowsB] using R4.out,fun k e=>.inl (R4.out.own.2 (.inr e))⟩,Keeps.refl _ _⟩ _ ?assign ?body ?done ?stop
 case assign =>
  intro l x W K hK
  simp only [encR]
  gi_wp2
  exact hK
 case body =>
  rintro L pre x W5 ⟨⟨r5,h5,hr5⟩,hK5⟩ hlt
  obtain ⟨K,hKe,hKl⟩:∃ K:ByteArray,strV x.1.1 = .string K/\K.data.toList = x.1.1:=⟨⟨x.1.1.toArray⟩,rfl,rfl⟩
  obtain ⟨V,hVe,hVl⟩:∃ V:ByteArray,strV x.1.2 = .string V/\V.data.toList = x.1.2:=⟨⟨x.1.2.toArray⟩,rfl,rfl⟩
  have hKs:K.size = x.1.1.length:=by rw [<- hKl]; rfl
  have hVs:V.size = x.1.2.length:=by rw [<- hVl]; rfl
  have hrb:=So.rowB_length x.1
  have hpre:(So.rowsB (pre.map (·.1))).length + (So.rowB x.1).length<=140737488355328 - 200:=by
   have h1:=rowsB_most (pre:=pre) (C:=35184372088832) hk hlt
   have h2:=hk x.1 x.2
   have h3:(So.rowB x.1).length<=(So.rowB x.1).length * l.length:=Nat.le_mul_of_pos_right _ (by omega)
   omega
  have cw5:=(BW4.out.kept hK5 NB4.out).cell 0 _ rfl
  have T1:=wtext_any b r5 _ K W5 h5 (by rw [List.length_append]; omega)
  have H5:=Lib.hid h5
  have HR5:=Lib.hid hr5
  have HK5:=Lib.hid hK5
  have HP:=Lib.hid hpre
  have HXE:=Lib.hid (show ∀ m:List UInt8,m ++ So.rowsB (pre.map (·.1)) ++ textB x.1.1 ++ textB x.1.2 = m ++ So.rowsB ((pre ++ [x]).map (·.1)) from fun m=>by
   rw [List.map_append,So.rowsB_append]
   simp [So.rowsB,So.rowB])
  have HKV:=Lib.hid (And.intro hKl hVl)
  have HSZ:=Lib.hid (And.intro hVs hrb)
  have HB5:=Lib.hid (BW4.out.kept hK5 NB4.out)
  rw [hKe,hVe]
  clear hseq hen hX HOW h5 hr5 hK5 hKe hVe hKl hVl hKs hVs hrb hpre c0 cw
  gi_wp2_with fail
  refine ⟨trivial,(CallsIn.inRound L (callsIn_wide.2 T1)).mono ?_⟩
  rintro e W6 ⟨rfl,r6,h6,k6⟩
  have cw6:=(HB5.out.kept k6.keeps (fun e=>by
   rcases e with e | e
   ·exact NE.out.1 e
   ·rcases HR5.out _ e.symm with h | h
    ·exact NB4.out h
    ·have:=BW4.out.lt; omega)).cell 0 _ rfl
  have T2:=wtext_any b r6 _ V W6 h6 (by
   have e1:(textB K.data.toList).length + x.1.2.length<=(So.rowB x.1).length:=by rw [HKV.out.1]; unfold So.rowB textB; simp only [List.length_append]; omega
   have e2:=HP.out
   have e3:=HSZ.out
   rw [List.length_append,List.length_append]
   omega)
  have K6:=Lib.hid k6
  clear T1 h6 k6
  gi_wp2_with fail
  refine ⟨trivial,(CallsIn.inRound L (callsIn_wide.2 T2)).mono ?_⟩
  rintro e W7 ⟨rfl,r7,h7,k7⟩
  have FN:=Lib.hid (show KeepsFrom w4.heap.size W5 W7/\KpO (WrOw b) W5 W7/\SnAt (M:=l) b (Lib.uvarint l.length) w4 (pre ++ [x]) W7 from by
   have kk:=K6.out.trans k7
   refine ⟨wrOw_from H5.out kk,wrOw_step H5.out h7 kk,⟨r7,?_,fun z e=>?_⟩,Keeps.trans HK5.out kk.keeps (fun i hi e=>?_)⟩
   ·rw [<- HXE.out,<- HKV.out.1,<- HKV.out.2]
    exact h7
   ·rcases kk.later with q | ⟨g,q,hg⟩
    ·exact HR5.out z (q ▸ e)
    ·have e1:=e
     rw [q] at e1
     injection e1 with e1
     have:=HK5.out.size
     exact .inr (by omega)
   ·rcases e with e | e
    ·exact R4.out.own.2 (.inl e)
    ·rcases HR5.out _ e.symm with h | h
     ·exact h
     ·omega)
  clear T2 h7 k7
  gi_wp2
  exact FN.out
 case done =>
  rintro D ys W5 hD hys ⟨⟨r5,h5,hr5⟩,hK5⟩ hK
  have cw5:=(BW4.out.kept hK5 NB4.out).cell 0 _ rfl
  have OU:=wout_any b r5 _ W5 h5
  have HS:=Lib.hid (show (⟨(Lib.uvarint l.length ++ So.rowsB (ys.map (·.1))).toArray⟩:ByteArray) = ⟨(So.snapB l).toArray⟩ by rw [hys]; rfl)
  have H5:=Lib.hid h5
  have HR5:=Lib.hid hr5
  have HK5:=Lib.hid hK5
  have HKD:=Lib.hid hK
  have HDD:=Lib.hid hD
  clear hseq hen hX HOW h5 hr5 hK5 c0 cw hys hK
  go_wp2_with fail
  refine OU.mono ?_
  rintro e W6 ⟨rfl,_,k6⟩
  have Q5:Qt w W5:=Keeps.trans (S:=fun _=>False) Q4.out HK5.out (fun i hi e=>by
   have h1:=NE.out.2.2
   rcases R4.out.own.1 e with e | e
   ·omega
   ·have:=HR3.out i e; omega)
  have Q6:Qt w W6:=Keeps.trans (S:=fun _=>False) Q5 k6 (fun i hi e=>by
   have h1:=NE.out.2.2
   have h2:=Q4.out.size
   rcases HR5.out i e.symm with h | h
   ·rcases R4.out.own.1 h with e | e
    ·omega
    ·have:=HR3.out i e; omega
   ·omega)
  have hD6:W6.heap[D]? = some (.deferred (some [])):=(k6.block D (lt_of_block HKD.out) (fun e=>by
   obtain ⟨o,h1,h2⟩:=H5.out.isCells (k:=D) (.inr e)
   rw [HKD.out] at h1
   injection h1 with h1
   rw [<- h1] at h2
   cases h2)).trans HKD.out
  have FIN:=Lib.hid (show Qt w (W6.putObj D (.deferred none)) from Keeps.grown Q6 (grownBy_putObj' _ _ _) (fun z hz e=>by injection e with e; have:=Q4.out.size; have:=HDD.out; omega))
  clear OU k6 Q5 Q6
  go_wp2
  refine ⟨by simp,.inl ⟨_,_,rfl,run_takeDeferred hD6,?_⟩⟩
  refine ⟨_,(results_tmp (t:=2) rfl _ _ _:_ = Result.ok _ _),?_,FIN.out⟩
  exact congrArg (fun x=>Ending.returned (.string x)) HS.out
 case stop =>
  rintro D c pre W _ _ h _
  exact h.elim
end Go.Proofs.YthjjfjhajadimaaGreatDoor
