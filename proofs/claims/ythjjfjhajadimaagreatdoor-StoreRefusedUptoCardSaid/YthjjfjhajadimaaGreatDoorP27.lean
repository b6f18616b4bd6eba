/-
  The landed table's iterators: over a tree by rising key.
-/
import Derived.Test.YthjjfjhajadimaaGreatDoorP26
import Derived.Stop.RegionWithIn
import Derived.StillTailTactics
import Derived.RangeFuncBound
import Derived.OwnWalkIn
import Derived.TacticsInMore
namespace Go.Proofs.YthjjfjhajadimaaGreatDoor
open Go.RowKit Go.WideShapes
attribute [local go_sem] Oper.semAt_some
set_option maxRecDepth 100000
set_option maxHeartbeats 4000000 in
theorem rise_any {n0:Nat} {Ow:World->Nat->Prop} (g:OwnsO n0 Ow) {J Jx:List Tb.R->World->Prop} (hJ:∀ pre A B,J pre A->Qt A B->J pre B) (lp N:Nat) (Mem:Tb.R->Prop)
  (hY:∀ m pre x W,J pre W->pre.length < N->Mem x->YieldAt Fence.wide m Tryz.prog lp (encR x) W fun e W'=>(e = .returned (.bool true)/\J (pre ++ [x]) W'/\KpO Ow W W')\/(e = .returned (.bool false)/\Jx (pre ++ [x]) W'))
  (lo hi:ByteArray) (ends:Bool) (X:Nat->Prop) (T:Tb.Tr):∀ (p:Option Addr) (pre:List Tb.R) (W:World),IsT X W p T->Tb.Sorted T.list->(∀ x ∈ T.list,Mem x)->Lv n0 Ow X W->J pre W->pre.length + (Tb.sel lo.data.toList hi.data.toList ends T.list).length<=N ->
  Calls Tryz.prog 209 #[.pointer p,spanV lo hi ends,.func (.yield lp) #[] #[]] W (RiseP Ow J Jx pre (Tb.sel lo.data.toList hi.data.toList ends T.list) W):=by
 induction T with
 | leaf =>
  rintro p pre W h _ _ lv j0 _
  obtain rfl:p = none:=h
  have FIN:=Lib.hid (show ∀ W1,W1 = W.alloc (.cells #[.string lo,.string hi,.bool ends] 219)->J pre W1/\KpO Ow W W1 from by
   rintro W1 rfl
   exact ⟨hJ _ _ _ j0 ((Qt.refl W).alloc _),KpO.qt g lv.base ((Qt.refl W).alloc _)⟩)
  clear hY hJ lv j0
  go_enter Tryz.func209,Tryz.ntmps209
  go_wp2
  go_ret
  exact ⟨true,rfl,.inl ⟨rfl,by simpa [Tb.sel,Tb.Tr.list] using (FIN.out _ rfl).1,(FIN.out _ rfl).2⟩⟩
 | node l r t ihl ihr =>
  rintro p pre W h hS hM lv j0 hN
  have hML:∀ x ∈ l.list,Mem x:=fun x hx=>hM x (by rw [Tb.Tr.list]; simp [hx])
  have hMR:∀ x ∈ t.list,Mem x:=fun x hx=>hM x (by rw [Tb.Tr.list]; simp [hx])
  have hMr:Mem r:=hM r (by rw [Tb.Tr.list]; simp)
  clear hM
  obtain ⟨b,pl,pr,rfl,hb,x0,x1,x2,x3,_,hl,hr⟩:=h
  rw [Tb.Tr.list] at hS hN ⊢
  obtain ⟨K,hK,hKl⟩:∃ K:ByteArray,strV r.1 = .string K/\K.data.toList = r.1:=⟨⟨r.1.toArray⟩,rfl,rfl⟩
  obtain ⟨V,hV⟩:∃ V:ByteArray,strV r.2 = .string V:=⟨_,rfl⟩
  rw [hK] at x0
  rw [hV] at x1
  obtain ⟨W1,hW1⟩:∃ W1,W.alloc (.cells #[.string lo,.string hi,.bool ends] 219) = W1:=⟨_,rfl⟩
  have q1:Qt W W1:=hW1 ▸ (Qt.refl W).alloc _
  have s0:W1.cell? ⟨W.heap.size,0,none⟩ = some (.string lo):=by rw [<- hW1,cell_of_row _ _ _ _ _ _ (heap_alloc_new W _)]; rfl
  have s1:W1.cell? ⟨W.heap.size,1,none⟩ = some (.string hi):=by rw [<- hW1,cell_of_row _ _ _ _ _ _ (heap_alloc_new W _)]; rfl
  have s2:W1.cell? ⟨W.heap.size,2,none⟩ = some (.bool ends):=by rw [<- hW1,cell_of_row _ _ _ _ _ _ (heap_alloc_new W _)]; rfl
  have lv1:=lv.more g q1 (Nat.le_refl _) (World.block_lt_of_cell? W1 _ s0)
  have KC:=Lib.hid (fun (w:World) (q:Qt W1 w)=>(show w.cell? ⟨W.heap.size,0,none⟩ = some (.string lo)/\w.cell? ⟨W.heap.size,1,none⟩ = some (.string hi)/\w.cell? ⟨W.heap.size,2,none⟩ = some (.bool ends)/\w.cell? ⟨b,0,none⟩ = some (.string K)/\w.cell? ⟨b,2,none⟩ = some (.pointer pl)/\w.cell? ⟨b,3,none⟩ = some (.pointer pr) from
   ⟨q.cellv s0,q.cellv s1,q.cellv s2,(Qt.trans q1 q).cellv x0,(Qt.trans q1 q).cellv x2,(Qt.trans q1 q).cellv x3⟩))
  have QD:=Lib.hid (show Qt W1 W1.drew from Keeps.drew (Qt.refl W1))
  have Q1:=Lib.hid q1
  have HW1:=Lib.hid hW1
  have HG:=Lib.hid g
  have HLV:=Lib.hid lv
  have BG:=Lib.hid (fun w=>begunAt_any lo hi ends K w)
  have OV:=Lib.hid (fun w=>overAt_any lo hi ends K w)
  rw [hKl] at BG OV
  cases hlo:Tb.lt r.1 lo.data.toList with
  | true =>
   rw [hlo] at BG
   have IH:=Lib.hid (fun (w:World) (q:Qt W1 w)=>ihr pr pre w (hr.qt (Qt.trans q1 q)) (Tb.sorted_right hS) hMR (lv.qt g (Qt.trans q1 q)) (hJ _ _ _ j0 (Qt.trans q1 q)) (by rw [Tb.sel_low hS hlo] at hN; exact hN))
   rw [Tb.sel_low hS hlo]
   clear ihl ihr hY hJ hS hML hMR hMr lv lv1 j0 hN hl hr hK hKl hV s0 s1 s2 x0 x1 x2 x3 hlo q1 hb hW1
   go_enter Tryz.func209,Tryz.ntmps209
   go_wp2_with fail
   rw [HW1.out]
   go_region_held3 (fun w=>w.cell? ⟨W.heap.size,0,none⟩ = some (.string lo)/\w.cell? ⟨W.heap.size,1,none⟩ = some (.string hi)/\w.cell? ⟨W.heap.size,2,none⟩ = some (.bool ends)/\w.cell? ⟨b,0,none⟩ = some (.string K)/\w.cell? ⟨b,2,none⟩ = some (.pointer pl)/\w.cell? ⟨b,3,none⟩ = some (.pointer pr))
    (first | exact KC.out _ QD.out | exact KC.out _ (Hid.out (by assumption)))
    ((go_at_call 244; refine (BG.out _).mono ?_; rintro e w3 ⟨rfl,q3⟩; have Q3:=Lib.hid (Qt.trans QD.out q3); clear BG q3))
   go_wp2_with fail
   obtain ⟨y0,y1,y2,_,_,y5⟩:=KC.out w3 Q3.out
   go_still_tail 6,(by kernel_rfl)
   change wpList _ _ _ _ _ w3.drew
   have QD3:=Lib.hid (show Qt W1 w3.drew from Keeps.drew Q3.out)
   have IH3:=IH.out _ QD3.out
   generalize w3.drew = w4 at *
   clear y0 y1 y2 y5 IH
   go_wp2_with fail
   refine IH3.mono ?_
   rintro e w5 ⟨ok,rfl,h5⟩
   have FIN:=Lib.hid (show RiseP Ow J Jx pre (Tb.sel lo.data.toList hi.data.toList ends t.list) W (.returned (.bool ok)) w5 from ⟨ok,rfl,h5.imp (fun h=>⟨h.1,h.2.1,KpO.trans (KpO.qt HG.out HLV.out.base (Qt.trans Q1.out QD3.out)) h.2.2⟩) id⟩)
   clear h5 IH3
   go_wp2
   go_ret
   exact FIN.out
  | false =>
   rw [hlo] at BG
   cases hhi:(ends && !Tb.lt r.1 hi.data.toList) with
   | true =>
    rw [hhi] at OV
    obtain ⟨he,hh⟩:=Bool.and_eq_true_iff.1 hhi
    have hh:Tb.lt r.1 hi.data.toList = false:=by simpa using hh
    have IH:=Lib.hid (fun (w:World) (q:Qt W1 w)=>ihl pl pre w (hl.qt (Qt.trans q1 q)) (Tb.sorted_left hS) hML (lv.qt g (Qt.trans q1 q)) (hJ _ _ _ j0 (Qt.trans q1 q)) (by rw [Tb.sel_high hS he hh] at hN; exact hN))
    rw [Tb.sel_high hS he hh]
    clear ihl ihr hY hJ hS hML hMR hMr lv lv1 j0 hN hl hr hK hKl hV s0 s1 s2 x0 x1 x2 x3 hlo hhi he hh q1 hb hW1
    go_enter Tryz.func209,Tryz.ntmps209
    go_wp2_with fail
    rw [HW1.out]
    go_region_held3 (fun w=>w.cell? ⟨W.heap.size,0,none⟩ = some (.string lo)/\w.cell? ⟨W.heap.size,1,none⟩ = some (.string hi)/\w.cell? ⟨W.heap.size,2,none⟩ = some (.bool ends)/\w.cell? ⟨b,0,none⟩ = some (.string K)/\w.cell? ⟨b,2,none⟩ = some (.pointer pl)/\w.cell? ⟨b,3,none⟩ = some (.pointer pr))
     (first | exact KC.out _ QD.out | exact KC.out _ (Hid.out (by assumption)))
     ((go_at_call 244; refine (BG.out _).mono ?_; rintro e w3 ⟨rfl,q3⟩; have Q3:=Lib.hid (Qt.trans QD.out q3); clear BG q3))
    have QD3:=Lib.hid (show Qt W1 w3.drew from Keeps.drew Q3.out)
    go_wp2_with fail
    go_region_held3 (fun w=>w.cell? ⟨W.heap.size,0,none⟩ = some (.string lo)/\w.cell? ⟨W.heap.size,1,none⟩ = some (.string hi)/\w.cell? ⟨W.heap.size,2,none⟩ = some (.bool ends)/\w.cell? ⟨b,0,none⟩ = some (.string K)/\w.cell? ⟨b,2,none⟩ = some (.pointer pl)/\w.cell? ⟨b,3,none⟩ = some (.pointer pr))
     (first | exact KC.out _ QD3.out | exact KC.out _ (Hid.out (by assumption)))
     ((go_at_call 245; refine (OV.out _).mono ?_; rintro e w4 ⟨rfl,q4⟩; have Q4:=Lib.hid (Qt.trans QD3.out q4); clear OV q4))
    go_wp2_with fail
    obtain ⟨y0,y1,y2,_,y4,_⟩:=KC.out w4 Q4.out
    go_still_tail 6,(by kernel_rfl)
    change wpList _ _ _ _ _ w4.drew
    have QD4:=Lib.hid (show Qt W1 w4.drew from Keeps.drew Q4.out)
    have IH4:=IH.out _ QD4.out
    generalize w4.drew = w5 at *
    clear y0 y1 y2 y4 IH
    go_wp2_with fail
    refine IH4.mono ?_
    rintro e w6 ⟨ok,rfl,h5⟩
    have FIN:=Lib.hid (show RiseP Ow J Jx pre (Tb.sel lo.data.toList hi.data.toList ends l.list) W (.returned (.bool ok)) w6 from ⟨ok,rfl,h5.imp (fun h=>⟨h.1,h.2.1,KpO.trans (KpO.qt HG.out HLV.out.base (Qt.trans Q1.out QD4.out)) h.2.2⟩) id⟩)
    clear h5 IH4
    go_wp2
    go_ret
    exact FIN.out
   | false =>
    rw [hhi] at OV
    rw [Tb.sel_mid hlo hhi] at hN ⊢
    have SL:=Lib.hid (Tb.sorted_left hS)
    have SR:=Lib.hid (Tb.sorted_right hS)
    have HL:=Lib.hid hl
    have HR:=Lib.hid hr
    have LV1:=Lib.hid lv1
    have J0:=Lib.hid j0
    have HJ:=Lib.hid hJ
    have HY:=Lib.hid hY
    have HML:=Lib.hid hML
    have HMR:=Lib.hid hMR
    have HMr:=Lib.hid hMr
    have IHL:=Lib.hid ihl
    have IHR:=Lib.hid ihr
    have HN:=Lib.hid hN
    have HK:=Lib.hid hK
    have HV:=Lib.hid hV
    have X1:=Lib.hid x1
    have HB:=Lib.hid hb
    clear ihl ihr hY hJ hS hML hMR hMr lv lv1 j0 hN hl hr hK hKl hV s0 s1 s2 x0 x1 x2 x3 hlo hhi q1 hb hW1
    go_enter Tryz.func209,Tryz.ntmps209
    go_wp2_with fail
    rw [HW1.out]
    go_region_held3 (fun w=>w.cell? ⟨W.heap.size,0,none⟩ = some (.string lo)/\w.cell? ⟨W.heap.size,1,none⟩ = some (.string hi)/\w.cell? ⟨W.heap.size,2,none⟩ = some (.bool ends)/\w.cell? ⟨b,0,none⟩ = some (.string K)/\w.cell? ⟨b,2,none⟩ = some (.pointer pl)/\w.cell? ⟨b,3,none⟩ = some (.pointer pr))
     (first | exact KC.out _ QD.out | exact KC.out _ (Hid.out (by assumption)))
     ((go_at_call 244; refine (BG.out _).mono ?_; rintro e w3 ⟨rfl,q3⟩; have Q3:=Lib.hid (Qt.trans QD.out q3); clear BG q3))
    have QD3:=Lib.hid (show Qt W1 w3.drew from Keeps.drew Q3.out)
    go_wp2_with fail
    go_region_held3 (fun w=>w.cell? ⟨W.heap.size,0,none⟩ = some (.string lo)/\w.cell? ⟨W.heap.size,1,none⟩ = some (.string hi)/\w.cell? ⟨W.heap.size,2,none⟩ = some (.bool ends)/\w.cell? ⟨b,0,none⟩ = some (.string K)/\w.cell? ⟨b,2,none⟩ = some (.pointer pl)/\w.cell? ⟨b,3,none⟩ = some (.pointer pr))
     (first | exact KC.out _ QD3.out | exact KC.out _ (Hid.out (by assumption)))
     ((go_at_call 245; refine (OV.out _).mono ?_; rintro e w4 ⟨rfl,q4⟩; have Q4:=Lib.hid (Qt.trans QD3.out q4); clear OV q4))
    go_wp2_with fail
    obtain ⟨y0,y1,y2,y3,y4,y5⟩:=KC.out w4 Q4.out
    have Q0D:=Lib.hid (show Qt W w4.drew from Keeps.drew (Qt.trans Q1.out Q4.out))
    have LVD:=Lib.hid (LV1.out.qt HG.out (Keeps.drew Q4.out))
    have IH4:=IHL.out pl pre w4.drew (HL.out.qt Q0D.out) SL.out HML.out (HLV.out.qt HG.out Q0D.out) (HJ.out _ _ _ J0.out Q0D.out) (by have h:=HN.out; rw [List.length_append] at h; omega)
    refine (wpIn_wide (n:=5)).1 ?_
    refine wpIn_region_any (by kernel_rfl) ?_
    change wpAnyIn _ _ _ _ _ _ _ _ _ (World.drew _)
    (refine wpAnyIn_takeD (i:=0) (v:=?_) (some 39) rfl rfl rfl (by kernel_rfl) (by kernel_rfl) (by kernel_rfl) (fun _ _ _ h=>h) ⟨Or.inl ⟨by rfl,?_⟩,fun _=>rfl⟩ ?_; rotate_left; focus (intro w; go_simp; try with_reducible rfl)); simp only [Act.put,List.setIfInBounds_toArray,List.set_cons_zero,List.set_cons_succ]
    (refine wpAnyIn_takeD (i:=1) (v:=?_) (some 40) rfl rfl rfl (by kernel_rfl) (by kernel_rfl) (by kernel_rfl) (fun _ _ _ h=>h) ⟨Or.inl ⟨by rfl,?_⟩,fun _=>rfl⟩ ?_; rotate_left; focus (intro w; go_simp; try with_reducible rfl)); simp only [Act.put,List.setIfInBounds_toArray,List.set_cons_zero,List.set_cons_succ]
    (refine wpAnyIn_takeD (i:=2) (v:=?_) (some 41) rfl rfl rfl (by kernel_rfl) (by kernel_rfl) (by kernel_rfl) (fun _ _ _ h=>h) ⟨Or.inl ⟨by rfl,?_⟩,fun _=>rfl⟩ ?_; rotate_left; focus (intro w; go_simp; try with_reducible rfl)); simp only [Act.put,List.setIfInBounds_toArray,List.set_cons_zero,List.set_cons_succ]
    (refine wpAnyIn_takeD (i:=5) (v:=?_) (some 44) rfl rfl rfl (by kernel_rfl) (by kernel_rfl) (by kernel_rfl) (fun _ _ _ h=>h) ⟨Or.inl ⟨by rfl,?_⟩,fun _=>rfl⟩ ?_; rotate_left; focus (intro w; go_simp; try with_reducible rfl)); simp only [Act.put,List.setIfInBounds_toArray,List.set_cons_zero,List.set_cons_succ]
    refine' by_key (fun key1=>_) _
    rotate_left
    ·refine wpAnyIn_ready (rs:=[3,4]) (by kernel_rfl) (by simp) ?_
     refine AllReadyIn.cons rfl (fun K hK=>?_) (AllReadyIn.cons rfl (fun K hK=>?_) AllReadyIn.nil)
     ·go_simp
      refine hK _ _ ?_
      clear hK K
      refine wpAnyIn_ready (rs:=[4]) (by kernel_rfl) (by simp) ?_
      refine AllReadyIn.cons rfl (fun K hK=>?_) AllReadyIn.nil
      go_simp
      refine hK _ _ ?_
      clear hK K
      exact key1
     ·go_simp
      refine hK _ _ ?_
      clear hK K
      refine wpAnyIn_ready (rs:=[3]) (by kernel_rfl) (by simp) ?_
      refine AllReadyIn.cons rfl (fun K hK=>?_) AllReadyIn.nil
      go_simp
      refine hK _ _ ?_
      clear hK K
      exact wpAnyIn_listed (by kernel_rfl) key1
    refine wpAnyIn_ready (rs:=[6]) (by kernel_rfl) (by simp) ?_
    refine AllReadyIn.cons rfl (fun K hK=>?_) AllReadyIn.nil
    go_simp
    refine ⟨trivial,?_⟩
    refine (callsIn_wide.2 IH4).mono ?_
    clear IH4
    rintro e w5 ⟨ok,rfl,h5⟩
    dsimp only
    refine hK _ _ ?_
    clear hK K
    cases ok with
    | false =>
     rcases h5 with ⟨e,_⟩ | ⟨_,q,hq,jx⟩
     ·cases e
     have FIN:=Lib.hid (show RiseP Ow J Jx pre (Tb.sel lo.data.toList hi.data.toList ends l.list ++ r :: Tb.sel lo.data.toList hi.data.toList ends t.list) W (.returned (.bool false)) w5 from ⟨false,rfl,.inr ⟨rfl,q,List.IsPrefix.trans hq (List.prefix_append _ _),jx⟩⟩)
     clear hq jx
     (refine wpAnyIn_takeD (i:=7) (v:=?_) (some 46) rfl rfl rfl (by kernel_rfl) (by kernel_rfl) (by kernel_rfl) (fun _ _ _ h=>h) ⟨Or.inl ⟨by rfl,?_⟩,fun _=>rfl⟩ ?_; rotate_left; focus (intro w; go_simp; try with_reducible rfl)); simp only [Act.put,List.setIfInBounds_toArray,List.set_cons_zero,List.set_cons_succ]
     refine wpAnyIn_takeD (i:=8) (v:=undef) (some 47) rfl rfl rfl (by kernel_rfl) (by kernel_rfl) (by kernel_rfl) (fun _ _ _ h=>h) ⟨Or.inr ⟨by rfl,rfl⟩,fun _=>rfl⟩ ?_; simp only [Act.put,List.setIfInBounds_toArray,List.set_cons_zero,List.set_cons_succ]
     refine wpAnyIn_takeD (i:=9) (v:=undef) (some 48) rfl rfl rfl (by kernel_rfl) (by kernel_rfl) (by kernel_rfl) (fun _ _ _ h=>h) ⟨Or.inr ⟨by rfl,rfl⟩,fun _=>rfl⟩ ?_; simp only [Act.put,List.setIfInBounds_toArray,List.set_cons_zero,List.set_cons_succ]
     refine wpAnyIn_takeD (i:=10) (v:=undef) (some 49) rfl rfl rfl (by kernel_rfl) (by kernel_rfl) (by kernel_rfl) (fun _ _ _ h=>h) ⟨Or.inr ⟨by rfl,rfl⟩,fun _=>rfl⟩ ?_; simp only [Act.put,List.setIfInBounds_toArray,List.set_cons_zero,List.set_cons_succ]
     refine wpAnyIn_takeD (i:=11) (v:=undef) (some 50) rfl rfl rfl (by kernel_rfl) (by kernel_rfl) (by kernel_rfl) (fun _ _ _ h=>h) ⟨Or.inr ⟨by rfl,rfl⟩,fun _=>rfl⟩ ?_; simp only [Act.put,List.setIfInBounds_toArray,List.set_cons_zero,List.set_cons_succ]
     refine wpAnyIn_takeD (i:=12) (v:=undef) (some 51) rfl rfl rfl (by kernel_rfl) (by kernel_rfl) (by kernel_rfl) (fun _ _ _ h=>h) ⟨Or.inr ⟨by rfl,rfl⟩,fun _=>rfl⟩ ?_; simp only [Act.put,List.setIfInBounds_toArray,List.set_cons_zero,List.set_cons_succ]
     refine wpAnyIn_takeD (i:=13) (v:=undef) (some 52) rfl rfl rfl (by kernel_rfl) (by kernel_rfl) (by kernel_rfl) (fun _ _ _ h=>h) ⟨Or.inr ⟨by rfl,rfl⟩,fun _=>rfl⟩ ?_; simp only [Act.put,List.setIfInBounds_toArray,List.set_cons_zero,List.set_cons_succ]
     refine wpAnyIn_takeD (i:=14) (v:=undef) (some 53) rfl rfl rfl (by kernel_rfl) (by kernel_rfl) (by kernel_rfl) (fun _ _ _ h=>h) ⟨Or.inr ⟨by rfl,rfl⟩,fun _=>rfl⟩ ?_; simp only [Act.put,List.setIfInBounds_toArray,List.set_cons_zero,List.set_cons_succ]
     refine wpAnyIn_takeD (i:=15) (v:=undef) (some 54) rfl rfl rfl (by kernel_rfl) (by kernel_rfl) (by kernel_rfl) (fun _ _ _ h=>h) ⟨Or.inr ⟨by rfl,rfl⟩,fun _=>rfl⟩ ?_; simp only [Act.put,List.setIfInBounds_toArray,List.set_cons_zero,List.set_cons_succ]
     refine wpAnyIn_takeD (i:=16) (v:=undef) (some 55) rfl rfl rfl (by kernel_rfl) (by kernel_rfl) (by kernel_rfl) (fun _ _ _ h=>h) ⟨Or.inr ⟨by rfl,rfl⟩,fun _=>rfl⟩ ?_; simp only [Act.put,List.setIfInBounds_toArray,List.set_cons_zero,List.set_cons_succ]
     refine wpAnyIn_takeD (i:=17) (v:=undef) (some 56) rfl rfl rfl (by kernel_rfl) (by kernel_rfl) (by kernel_rfl) (fun _ _ _ h=>h) ⟨Or.inr ⟨by rfl,rfl⟩,fun _=>rfl⟩ ?_; simp only [Act.put,List.setIfInBounds_toArray,List.set_cons_zero,List.set_cons_succ]
     (refine wpAnyIn_takeD (i:=18) (v:=?_) (some 57) rfl rfl rfl (by kernel_rfl) (by kernel_rfl) (by kernel_rfl) (fun _ _ _ h=>h) ⟨Or.inl ⟨by rfl,?_⟩,fun _=>rfl⟩ ?_; rotate_left; focus (intro w; go_simp; try with_reducible rfl)); simp only [Act.put,List.setIfInBounds_toArray,List.set_cons_zero,List.set_cons_succ]
     (refine wpAnyIn_takeD (i:=19) (v:=?_) (some 58) rfl rfl rfl (by kernel_rfl) (by kernel_rfl) (by kernel_rfl) (fun _ _ _ h=>h) ⟨Or.inl ⟨by rfl,?_⟩,fun _=>rfl⟩ ?_; rotate_left; focus (intro w; go_simp; try with_reducible rfl)); simp only [Act.put,List.setIfInBounds_toArray,List.set_cons_zero,List.set_cons_succ]
     refine wpAnyIn_takeD (i:=20) (v:=undef) (some 59) rfl rfl rfl (by kernel_rfl) (by kernel_rfl) (by kernel_rfl) (fun _ _ _ h=>h) ⟨Or.inr ⟨by rfl,rfl⟩,fun _=>rfl⟩ ?_; simp only [Act.put,List.setIfInBounds_toArray,List.set_cons_zero,List.set_cons_succ]
     refine wpAnyIn_takeD (i:=21) (v:=undef) (some 60) rfl rfl rfl (by kernel_rfl) (by kernel_rfl) (by kernel_rfl) (fun _ _ _ h=>h) ⟨Or.inr ⟨by rfl,rfl⟩,fun _=>rfl⟩ ?_; simp only [Act.put,List.setIfInBounds_toArray,List.set_cons_zero,List.set_cons_succ]
     refine wpAnyIn_takeD (i:=22) (v:=undef) (some 61) rfl rfl rfl (by kernel_rfl) (by kernel_rfl) (by kernel_rfl) (fun _ _ _ h=>h) ⟨Or.inr ⟨by rfl,rfl⟩,fun _=>rfl⟩ ?_; simp only [Act.put,List.setIfInBounds_toArray,List.set_cons_zero,List.set_cons_succ]
     refine wpAnyIn_takeD (i:=23) (v:=undef) (some 62) rfl rfl rfl (by kernel_rfl) (by kernel_rfl) (by kernel_rfl) (fun _ _ _ h=>h) ⟨Or.inr ⟨by rfl,rfl⟩,fun _=>rfl⟩ ?_; simp only [Act.put,List.setIfInBounds_toArray,List.set_cons_zero,List.set_cons_succ]
     refine wpAnyIn_takeD (i:=24) (v:=undef) (some 63) rfl rfl rfl (by kernel_rfl) (by kernel_rfl) (by kernel_rfl) (fun _ _ _ h=>h) ⟨Or.inr ⟨by rfl,rfl⟩,fun _=>rfl⟩ ?_; simp only [Act.put,List.setIfInBounds_toArray,List.set_cons_zero,List.set_cons_succ]
     refine wpAnyIn_takeD (i:=25) (v:=undef) (some 64) rfl rfl rfl (by kernel_rfl) (by kernel_rfl) (by kernel_rfl) (fun _ _ _ h=>h) ⟨Or.inr ⟨by rfl,rfl⟩,fun _=>rfl⟩ ?_; simp only [Act.put,List.setIfInBounds_toArray,List.set_cons_zero,List.set_cons_succ]
     refine wpAnyIn_ready (rs:=[26]) (by kernel_rfl) (by simp) ?_
     refine AllReadyIn.cons rfl (fun K hK=>?_) AllReadyIn.nil
     go_simp
     refine ⟨trivial,?_⟩
     refine hK _ _ ?_
     clear hK K
     (refine wpAnyIn_takeD (i:=27) (v:=?_) (some 66) rfl rfl rfl (by kernel_rfl) (by kernel_rfl) (by kernel_rfl) (fun _ _ _ h=>h) ⟨Or.inl ⟨by rfl,?_⟩,fun _=>rfl⟩ ?_; rotate_left; focus (intro w; go_simp; try with_reducible rfl)); simp only [Act.put,List.setIfInBounds_toArray,List.set_cons_zero,List.set_cons_succ]
     (refine wpAnyIn_takeD (i:=28) (v:=?_) (some 6) rfl rfl rfl (by kernel_rfl) (by kernel_rfl) (by kernel_rfl) (fun _ _ _ h=>h) ⟨Or.inl ⟨by rfl,?_⟩,fun _=>rfl⟩ ?_; rotate_left; focus (intro w; go_simp; try with_reducible rfl)); simp only [Act.put,List.setIfInBounds_toArray,List.set_cons_zero,List.set_cons_succ]
     refine wpAnyIn_done (by kernel_rfl) ?_ _
     go_wp2
     go_ret
     exact FIN.out
    | true =>
     have hjk:J (pre ++ Tb.sel lo.data.toList hi.data.toList ends l.list) w5/\KpO Ow w4.drew w5:=by
      rcases h5 with ⟨_,h1,h2⟩ | ⟨e,_⟩
      ·exact ⟨h1,h2⟩
      ·cases e
     clear h5
     have LV5:=Lib.hid (LVD.out.kp hjk.2)
     have z0:=kpo_cell hjk.2 (show w4.drew.cell? ⟨b,0,none⟩ = _ from y3) (LVD.out.apart _ (.inl HB.out))
     have z1:=kpo_cell hjk.2 (Q0D.out.cellv X1.out) (LVD.out.apart _ (.inl HB.out))
     have ZC:=Lib.hid (And.intro (kpo_cell hjk.2 (show w4.drew.cell? ⟨b,2,none⟩ = _ from y4) (LVD.out.apart _ (.inl HB.out))) (And.intro (kpo_cell hjk.2 (show w4.drew.cell? ⟨b,3,none⟩ = _ from y5) (LVD.out.apart _ (.inl HB.out))) (And.intro (kpo_cell hjk.2 (show w4.drew.cell? ⟨W.heap.size,0,none⟩ = _ from y0) (LVD.out.apart _ (.inr rfl))) (And.intro (kpo_cell hjk.2 (show w4.drew.cell? ⟨W.heap.size,1,none⟩ = _ from y1) (LVD.out.apart _ (.inr rfl))) (kpo_cell hjk.2 (show w4.drew.cell? ⟨W.heap.size,2,none⟩ = _ from y2) (LVD.out.apart _ (.inr rfl)))))))
     obtain ⟨fn,tmps,asg,body,hy,hR⟩:=HY.out 4 _ r w5 hjk.1 (by have h:=HN.out; simp only [List.length_append,List.length_cons] at h ⊢; omega) HMr.out
     unfold encR at hy
     rw [HK.out,HV.out] at hy
     have HJK:=Lib.hid hjk
     clear hjk y0 y1 y2 y3 y4 y5
     (refine wpAnyIn_takeD (i:=7) (v:=?_) (some 46) rfl rfl rfl (by kernel_rfl) (by kernel_rfl) (by kernel_rfl) (fun _ _ _ h=>h) ⟨Or.inl ⟨by rfl,?_⟩,fun _=>rfl⟩ ?_; rotate_left; focus (intro w; go_simp; try with_reducible rfl)); simp only [Act.put,List.setIfInBounds_toArray,List.set_cons_zero,List.set_cons_succ]
     (refine wpAnyIn_takeD (i:=8) (v:=?_) (some 47) rfl rfl rfl (by kernel_rfl) (by kernel_rfl) (by kernel_rfl) (fun _ _ _ h=>h) ⟨Or.inl ⟨by rfl,?_⟩,fun _=>rfl⟩ ?_; rotate_left; focus (intro w; go_simp; try with_reducible rfl)); simp only [Act.put,List.setIfInBounds_toArray,List.set_cons_zero,List.set_cons_succ]
     (refine wpAnyIn_takeD (i:=9) (v:=?_) (some 48) rfl rfl rfl (by kernel_rfl) (by kernel_rfl) (by kernel_rfl) (fun _ _ _ h=>h) ⟨Or.inl ⟨by rfl,?_⟩,fun _=>rfl⟩ ?_; rotate_left; focus (intro w; go_simp; try with_reducible rfl)); simp only [Act.put,List.setIfInBounds_toArray,List.set_cons_zero,List.set_cons_succ]
     (refine wpAnyIn_takeD (i:=10) (v:=?_) (some 49) rfl rfl rfl (by kernel_rfl) (by kernel_rfl) (by kernel_rfl) (fun _ _ _ h=>h) ⟨Or.inl ⟨by rfl,?_⟩,fun _=>rfl⟩ ?_; rotate_left; focus (intro w; go_simp; try with_reducible rfl)); simp only [Act.put,List.setIfInBounds_toArray,List.set_cons_zero,List.set_cons_succ]
     (refine wpAnyIn_takeD (i:=11) (v:=?_) (some 50) rfl rfl rfl (by kernel_rfl) (by kernel_rfl) (by kernel_rfl) (fun _ _ _ h=>h) ⟨Or.inl ⟨by rfl,?_⟩,fun _=>rfl⟩ ?_; rotate_left; focus (intro w; go_simp; try with_reducible rfl)); simp only [Act.put,List.setIfInBounds_toArray,List.set_cons_zero,List.set_cons_succ]
     (refine wpAnyIn_takeD (i:=13) (v:=?_) (some 52) rfl rfl rfl (by kernel_rfl) (by kernel_rfl) (by kernel_rfl) (fun _ _ _ h=>h) ⟨Or.inl ⟨by rfl,?_⟩,fun _=>rfl⟩ ?_; rotate_left; focus (intro w; go_simp; try with_reducible rfl)); simp only [Act.put,List.setIfInBounds_toArray,List.set_cons_zero,List.set_cons_succ]
     (refine wpAnyIn_takeD (i:=14) (v:=?_) (some 53) rfl rfl rfl (by kernel_rfl) (by kernel_rfl) (by kernel_rfl) (fun _ _ _ h=>h) ⟨Or.inl ⟨by rfl,?_⟩,fun _=>rfl⟩ ?_; rotate_left; focus (intro w; go_simp; try with_reducible rfl)); simp only [Act.put,List.setIfInBounds_toArray,List.set_cons_zero,List.set_cons_succ]
     (refine wpAnyIn_takeD (i:=15) (v:=?_) (some 54) rfl rfl rfl (by kernel_rfl) (by kernel_rfl) (by kernel_rfl) (fun _ _ _ h=>h) ⟨Or.inl ⟨by rfl,?_⟩,fun _=>rfl⟩ ?_; rotate_left; focus (intro w; go_simp; try with_reducible rfl)); simp only [Act.put,List.setIfInBounds_toArray,List.set_cons_zero,List.set_cons_succ]
     refine' by_key (fun key2=>_) _
     rotate_left
     ·refine wpAnyIn_ready (rs:=[12,16]) (by kernel_rfl) (by simp) ?_
      refine AllReadyIn.cons rfl (fun K hK=>?_) (AllReadyIn.cons rfl (fun K hK=>?_) AllReadyIn.nil)
      ·go_simp
       refine hK _ _ ?_
       clear hK K
       refine wpAnyIn_ready (rs:=[16]) (by kernel_rfl) (by simp) ?_
       refine AllReadyIn.cons rfl (fun K hK=>?_) AllReadyIn.nil
       go_simp
       refine hK _ _ ?_
       clear hK K
       exact key2
      ·go_simp
       refine hK _ _ ?_
       clear hK K
       refine wpAnyIn_ready (rs:=[12]) (by kernel_rfl) (by simp) ?_
       refine AllReadyIn.cons rfl (fun K hK=>?_) AllReadyIn.nil
       go_simp
       refine hK _ _ ?_
       clear hK K
       exact wpAnyIn_listed (by kernel_rfl) key2
     refine wpAnyIn_ready (rs:=[17]) (by kernel_rfl) (by simp) ?_
     refine AllReadyIn.cons rfl (fun K hK=>?_) AllReadyIn.nil
     go_simp
     refine hR.mono ?_
     rintro e w6 (⟨rfl,j6,k6⟩ | ⟨rfl,jx6⟩)
     ·dsimp only
      refine hK _ _ ?_
      clear hK K
      have u3:=kpo_cell k6 ZC.out.2.1 (LV5.out.apart _ (.inl HB.out))
      have b0:=kpo_cell k6 ZC.out.2.2.1 (LV5.out.apart _ (.inr rfl))
      have b1:=kpo_cell k6 ZC.out.2.2.2.1 (LV5.out.apart _ (.inr rfl))
      have b2:=kpo_cell k6 ZC.out.2.2.2.2 (LV5.out.apart _ (.inr rfl))
      have lx4:=HLV.out.qt HG.out Q0D.out
      have lx5:=lx4.kp HJK.out.2
      have IH6:=IHR.out pr (pre ++ Tb.sel lo.data.toList hi.data.toList ends l.list ++ [r]) w6 (IsT.kpo k6 lx5.apart (IsT.kpo HJK.out.2 lx4.apart (HR.out.qt Q0D.out))) SR.out HMR.out (lx5.kp k6) j6 (by have h:=HN.out; simp only [List.length_append,List.length_cons,List.length_nil] at h ⊢; omega)
      have K6:=Lib.hid k6
      clear lx4 lx5 k6 j6 hR hy z0 z1
      (refine wpAnyIn_takeD (i:=18) (v:=?_) (some 57) rfl rfl rfl (by kernel_rfl) (by kernel_rfl) (by kernel_rfl) (fun _ _ _ h=>h) ⟨Or.inl ⟨by rfl,?_⟩,fun _=>rfl⟩ ?_; rotate_left; focus (intro w; go_simp; try with_reducible rfl)); simp only [Act.put,List.setIfInBounds_toArray,List.set_cons_zero,List.set_cons_succ]
      (refine wpAnyIn_takeD (i:=19) (v:=?_) (some 58) rfl rfl rfl (by kernel_rfl) (by kernel_rfl) (by kernel_rfl) (fun _ _ _ h=>h) ⟨Or.inl ⟨by rfl,?_⟩,fun _=>rfl⟩ ?_; rotate_left; focus (intro w; go_simp; try with_reducible rfl)); simp only [Act.put,List.setIfInBounds_toArray,List.set_cons_zero,List.set_cons_succ]
      (refine wpAnyIn_takeD (i:=20) (v:=?_) (some 59) rfl rfl rfl (by kernel_rfl) (by kernel_rfl) (by kernel_rfl) (fun _ _ _ h=>h) ⟨Or.inl ⟨by rfl,?_⟩,fun _=>rfl⟩ ?_; rotate_left; focus (intro w; go_simp; try with_reducible rfl)); simp only [Act.put,List.setIfInBounds_toArray,List.set_cons_zero,List.set_cons_succ]
      (refine wpAnyIn_takeD (i:=21) (v:=?_) (some 60) rfl rfl rfl (by kernel_rfl) (by kernel_rfl) (by kernel_rfl) (fun _ _ _ h=>h) ⟨Or.inl ⟨by rfl,?_⟩,fun _=>rfl⟩ ?_; rotate_left; focus (intro w; go_simp; try with_reducible rfl)); simp only [Act.put,List.setIfInBounds_toArray,List.set_cons_zero,List.set_cons_succ]
      (refine wpAnyIn_takeD (i:=22) (v:=?_) (some 61) rfl rfl rfl (by kernel_rfl) (by kernel_rfl) (by kernel_rfl) (fun _ _ _ h=>h) ⟨Or.inl ⟨by rfl,?_⟩,fun _=>rfl⟩ ?_; rotate_left; focus (intro w; go_simp; try with_reducible rfl)); simp only [Act.put,List.setIfInBounds_toArray,List.set_cons_zero,List.set_cons_succ]
      (refine wpAnyIn_takeD (i:=25) (v:=?_) (some 64) rfl rfl rfl (by kernel_rfl) (by kernel_rfl) (by kernel_rfl) (fun _ _ _ h=>h) ⟨Or.inl ⟨by rfl,?_⟩,fun _=>rfl⟩ ?_; rotate_left; focus (intro w; go_simp; try with_reducible rfl)); simp only [Act.put,List.setIfInBounds_toArray,List.set_cons_zero,List.set_cons_succ]
      refine' by_key (fun key3=>_) _
      rotate_left
      ·refine wpAnyIn_ready (rs:=[23,24]) (by kernel_rfl) (by simp) ?_
       refine AllReadyIn.cons rfl (fun K hK=>?_) (AllReadyIn.cons rfl (fun K hK=>?_) AllReadyIn.nil)
       ·go_simp
        refine hK _ _ ?_
        clear hK K
        refine wpAnyIn_ready (rs:=[24]) (by kernel_rfl) (by simp) ?_
        refine AllReadyIn.cons rfl (fun K hK=>?_) AllReadyIn.nil
        go_simp
        refine hK _ _ ?_
        clear hK K
        exact key3
       ·go_simp
        refine hK _ _ ?_
        clear hK K
        refine wpAnyIn_ready (rs:=[23]) (by kernel_rfl) (by simp) ?_
        refine AllReadyIn.cons rfl (fun K hK=>?_) AllReadyIn.nil
        go_simp
        refine hK _ _ ?_
        clear hK K
        exact wpAnyIn_listed (by kernel_rfl) key3
      refine wpAnyIn_ready (rs:=[26]) (by kernel_rfl) (by simp) ?_
      refine AllReadyIn.cons rfl (fun K hK=>?_) AllReadyIn.nil
      go_simp
      refine ⟨trivial,?_⟩
      refine (callsIn_wide.2 IH6).mono ?_
      clear IH6
      rintro e w7 ⟨ok2,rfl,h7⟩
      dsimp only
      refine hK _ _ ?_
      clear hK K
      have FIN:=Lib.hid (show RiseP Ow J Jx pre (Tb.sel lo.data.toList hi.data.toList ends l.list ++ r :: Tb.sel lo.data.toList hi.data.toList ends t.list) W (.returned (.bool ok2)) w7 from ⟨ok2,rfl,h7.imp (fun h=>⟨h.1,by simpa [List.append_assoc] using h.2.1,KpO.trans (KpO.qt HG.out HLV.out.base Q0D.out) (KpO.trans HJK.out.2 (KpO.trans K6.out h.2.2))⟩) (fun h=>by
       obtain ⟨e,q,⟨s,hs⟩,jx⟩:=h
       exact ⟨e,Tb.sel lo.data.toList hi.data.toList ends l.list ++ r :: q,⟨s,by rw [<- hs]; simp⟩,by simpa [List.append_assoc] using jx⟩)⟩)
      clear h7
      (refine wpAnyIn_takeD (i:=27) (v:=?_) (some 66) rfl rfl rfl (by kernel_rfl) (by kernel_rfl) (by kernel_rfl) (fun _ _ _ h=>h) ⟨Or.inl ⟨by rfl,?_⟩,fun _=>rfl⟩ ?_; rotate_left; focus (intro w; go_simp; try with_reducible rfl)); simp only [Act.put,List.setIfInBounds_toArray,List.set_cons_zero,List.set_cons_succ]
      (refine wpAnyIn_takeD (i:=28) (v:=?_) (some 6) rfl rfl rfl (by kernel_rfl) (by kernel_rfl) (by kernel_rfl) (fun _ _ _ h=>h) ⟨Or.inl ⟨by rfl,?_⟩,fun _=>rfl⟩ ?_; rotate_left; focus (intro w; go_simp; try with_reducible rfl)); simp only [Act.put,List.setIfInBounds_toArray,List.set_cons_zero,List.set_cons_succ]
      refine wpAnyIn_done (by kernel_rfl) ?_ _
      go_wp2
      go_ret
      exact FIN.out
     ·dsimp only
      refine hK _ _ ?_
      clear hK K
      have FIN:=Lib.hid (show RiseP Ow J Jx pre (Tb.sel lo.data.toList hi.data.toList ends l.list ++ r :: Tb.sel lo.data.toList hi.data.toList ends t.list) W (.returned (.bool false)) w6 from ⟨false,rfl,.inr ⟨rfl,Tb.sel lo.data.toList hi.data.toList ends l.list ++ [r],⟨Tb.sel lo.data.toList hi.data.toList ends t.list,by simp⟩,by simpa [List.append_assoc] using jx6⟩⟩)
      clear jx6 hR hy z0 z1
      (refine wpAnyIn_takeD (i:=18) (v:=?_) (some 57) rfl rfl rfl (by kernel_rfl) (by kernel_rfl) (by kernel_rfl) (fun _ _ _ h=>h) ⟨Or.inl ⟨by rfl,?_⟩,fun _=>rfl⟩ ?_; rotate_left; focus (intro w; go_simp; try with_reducible rfl)); simp only [Act.put,List.setIfInBounds_toArray,List.set_cons_zero,List.set_cons_succ]
      (refine wpAnyIn_takeD (i:=19) (v:=?_) (some 58) rfl rfl rfl (by kernel_rfl) (by kernel_rfl) (by kernel_rfl) (fun _ _ _ h=>h) ⟨Or.inl ⟨by rfl,?_⟩,fun _=>rfl⟩ ?_; rotate_left; focus (intro w; go_simp; try with_reducible rfl)); simp only [Act.put,List.setIfInBounds_toArray,List.set_cons_zero,List.set_cons_succ]
      refine wpAnyIn_takeD (i:=20) (v:=undef) (some 59) rfl rfl rfl (by kernel_rfl) (by kernel_rfl) (by kernel_rfl) (fun _ _ _ h=>h) ⟨Or.inr ⟨by rfl,rfl⟩,fun _=>rfl⟩ ?_; simp only [Act.put,List.setIfInBounds_toArray,List.set_cons_zero,List.set_cons_succ]
      refine wpAnyIn_takeD (i:=21) (v:=undef) (some 60) rfl rfl rfl (by kernel_rfl) (by kernel_rfl) (by kernel_rfl) (fun _ _ _ h=>h) ⟨Or.inr ⟨by rfl,rfl⟩,fun _=>rfl⟩ ?_; simp only [Act.put,List.setIfInBounds_toArray,List.set_cons_zero,List.set_cons_succ]
      refine wpAnyIn_takeD (i:=22) (v:=undef) (some 61) rfl rfl rfl (by kernel_rfl) (by kernel_rfl) (by kernel_rfl) (fun _ _ _ h=>h) ⟨Or.inr ⟨by rfl,rfl⟩,fun _=>rfl⟩ ?_; simp only [Act.put,List.setIfInBounds_toArray,List.set_cons_zero,List.set_cons_succ]
      refine wpAnyIn_takeD (i:=23) (v:=undef) (some 62) rfl rfl rfl (by kernel_rfl) (by kernel_rfl) (by kernel_rfl) (fun _ _ _ h=>h) ⟨Or.inr ⟨by rfl,rfl⟩,fun _=>rfl⟩ ?_; simp only [Act.put,List.setIfInBounds_toArray,List.set_cons_zero,List.set_cons_succ]
      refine wpAnyIn_takeD (i:=24) (v:=undef) (some 63) rfl rfl rfl (by kernel_rfl) (by kernel_rfl) (by kernel_rfl) (fun _ _ _ h=>h) ⟨Or.inr ⟨by rfl,rfl⟩,fun _=>rfl⟩ ?_; simp only [Act.put,List.setIfInBounds_toArray,List.set_cons_zero,List.set_cons_succ]
      refine wpAnyIn_takeD (i:=25) (v:=undef) (some 64) rfl rfl rfl (by kernel_rfl) (by kernel_rfl) (by kernel_rfl) (fun _ _ _ h=>h) ⟨Or.inr ⟨by rfl,rfl⟩,fun _=>rfl⟩ ?_; simp only [Act.put,List.setIfInBounds_toArray,List.set_cons_zero,List.set_cons_succ]
      refine wpAnyIn_ready (rs:=[26]) (by kernel_rfl) (by simp) ?_
      refine AllReadyIn.cons rfl (fun K hK=>?_) AllReadyIn.nil
      go_simp
      refine ⟨trivial,?_⟩
      refine hK _ _ ?_
      clear hK K
      (refine wpAnyIn_takeD (i:=27) (v:=?_) (some 66) rfl rfl rfl (by kernel_rfl) (by kernel_rfl) (by kernel_rfl) (fun _ _ _ h=>h) ⟨Or.inl ⟨by rfl,?_⟩,fun _=>rfl⟩ ?_; rotate_left; focus (intro w; go_simp; try with_reducible rfl)); simp only [Act.put,List.setIfInBounds_toArray,List.set_cons_zero,List.set_cons_succ]
      (refine wpAnyIn_takeD (i:=28) (v:=?_) (some 6) rfl rfl rfl (by kernel_rfl) (by kernel_rfl) (by kernel_rfl) (fun _ _ _ h=>h) ⟨Or.inl ⟨by rfl,?_⟩,fun _=>rfl⟩ ?_; rotate_left; focus (intro w; go_simp; try with_reducible rfl)); simp only [Act.put,List.setIfInBounds_toArray,List.set_cons_zero,List.set_cons_succ]
      refine wpAnyIn_done (by kernel_rfl) ?_ _
      go_wp2
      go_ret
      exact FIN.out
end Go.Proofs.YthjjfjhajadimaaGreatDoor
