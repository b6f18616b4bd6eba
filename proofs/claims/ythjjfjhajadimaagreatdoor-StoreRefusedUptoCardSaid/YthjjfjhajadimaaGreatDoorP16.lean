/-
  Joined: TNode, TTurn, TFind, TSlice, TWith.
-/
import Derived.Test.YthjjfjhajadimaaGreatDoorP15
import Derived.Laws.Cover1
namespace Go.Proofs.YthjjfjhajadimaaGreatDoor
open Go.RowKit Go.WideShapes
set_option maxRecDepth 100000
theorem node_cells {W W1:World} {c:Array Value} (h:W1 = W.alloc (.cells c 280)) {k:Nat} {v:Value} (hv:c[k]? = some v):W1.cell? ⟨W.heap.size,k,none⟩ = some v:=by
 rw [h,cell_of_row _ _ _ _ _ _ (heap_alloc_new W _)]
 exact hv
theorem wrapI {x:Int} (h1:-9223372036854775808<=x) (h2:x<=9223372036854775807):IntKind.i64.wrap x = x:=by
 rw [IntKind.wrap_i64]
 omega
def Made (X:Nat->Prop) (W:World) (l:List Tb.R) (e:Ending) (W':World):Prop:=∃ (p:Option Addr) (T:Tb.Tr),e = .returned (.pointer p)/\T.list = l/\IsT X W' p T/\Qt W W'
set_option maxHeartbeats 1600000 in
theorem between_any {X:Nat->Prop} {W:World} {nb:Nat} {r:Tb.R} {pl pr:Option Addr} {L R:Tb.Tr} (hn:NodeR W nb r) (hl:IsT X W pl L) (hr:IsT X W pr R) (hb:L.list.length + (R.list.length + 1)<=17592186044416) (hX:∀ k,W.heap.size<=k->X k) :
  Calls Tryz.prog 271 #[.pointer (some ⟨nb,0,none⟩),.pointer pl,.pointer pr] W fun e W'=>∃ p,e = .returned (.pointer p)/\IsT X W' p (.node L r R)/\Qt W W':=by
 have c0:=hn.key
 have c1:=hn.value
 have CN:=Lib.hid (fun (n:Nat)=>(count_any (hr.qt (Keeps.drewN (Qt.refl W) n))))
 have WT:=Lib.hid (fun (n:Nat)=>(weight_any (hl.qt (Keeps.drewN (Qt.refl W) n)) (by omega)))
 obtain ⟨K,hK⟩:∃ K:ByteArray,strV r.1 = .string K:=⟨_,rfl⟩
 obtain ⟨V,hV⟩:∃ V:ByteArray,strV r.2 = .string V:=⟨_,rfl⟩
 rw [hK] at c0
 rw [hV] at c1
 have ws:=Lib.hid (show IntKind.i64.wrap ((L.list.length:Int) + 1 + (R.list.length:Int)) = ((L.list.length + (R.list.length + 1):Nat):Int) from by rw [wrapI (by omega) (by omega)]; push_cast; omega)
 have HL:=Lib.hid hl
 have HR:=Lib.hid hr
 have HN:=Lib.hid hn
 have HB:=Lib.hid hb
 have HX:=Lib.hid hX
 clear hl hr hn hb hX
 go_enter Tryz.func271,Tryz.ntmps271
 go_wp2_with fail
 go_region_held3 (fun W'=>W'.cell? ⟨nb,0,none⟩ = some (.string K)/\W'.cell? ⟨nb,1,none⟩ = some (.string V))
  (go_keep)
  (first
   | (go_at_call 268; refine (WT.out _).mono ?_; rintro e w' ⟨rfl,rfl⟩)
   | (go_at_call 167; refine (CN.out _).mono ?_; rintro e w' ⟨rfl,rfl⟩))
 rw [ws.out]
 have NC:=fun {k:Nat} {v:Value} (hv:(#[Value.string K,Value.string V,Value.pointer pl,Value.pointer pr,Value.int .i64 ((L.list.length + (R.list.length + 1):Nat):Int)]:Array Value)[k]? = some v)=>node_cells (W:=W.drewN 1) rfl hv
 generalize hW1:(W.drewN 1).alloc (.cells #[Value.string K,Value.string V,Value.pointer pl,Value.pointer pr,Value.int .i64 ((L.list.length + (R.list.length + 1):Nat):Int)] 280) = W1 at *
 have Q1:Qt W W1:=hW1 ▸ (Keeps.drewN (Qt.refl W) 1).alloc _
 have FIN:=Lib.hid (show IsT X W1 (some ⟨W.heap.size,0,none⟩) (.node L r R) from
  ⟨W.heap.size,pl,pr,rfl,HX.out _ (Nat.le_refl _),by rw [hK]; exact NC (k:=0) rfl,by rw [hV]; exact NC (k:=1) rfl,NC (k:=2) rfl,NC (k:=3) rfl,NC (k:=4) rfl,HL.out.qt Q1,HR.out.qt Q1⟩)
 have Q1:=Lib.hid Q1
 clear NC hW1
 go_wp2
 go_ret
 exact ⟨_,rfl,FIN.out,Q1.out⟩
set_option maxHeartbeats 3200000 in
theorem turnedLeft_any {X:Nat->Prop} {W:World} {nb:Nat} {r:Tb.R} {pl pr:Option Addr} {L R:Tb.Tr} (hn:NodeR W nb r) (hl:IsT X W pl L) (hr:IsT X W pr R) (hb:L.list.length + (R.list.length + 1)<=17592186044416) (hX:∀ k,W.heap.size<=k->X k) (hw:3 * (L.list.length + 1) < R.list.length + 1) :
  Calls Tryz.prog 269 #[.pointer (some ⟨nb,0,none⟩),.pointer pl,.pointer pr] W (Made X W (L.list ++ r :: R.list)):=by
 cases R with
 | leaf=>exact absurd hw (by simp [Tb.Tr.list])
 | node A rr B =>
  obtain ⟨rb,pa,pq,rfl,_,k0,k1,k2,k3,_,hA,hB⟩:=hr
  have hlen:(Tb.Tr.node A rr B).list.length = A.list.length + (B.list.length + 1):=by rw [Tb.Tr.list,List.length_append,List.length_cons]
  rw [hlen] at hb hw
  clear hlen
  have NR:NodeR W rb rr:=⟨k0,k1⟩
  have WI:=Lib.hid (fun (n:Nat)=>weight_any (hA.qt (Keeps.drewN (Qt.refl W) n)) (by omega))
  have WQ:=Lib.hid (fun (n:Nat)=>weight_any (hB.qt (Keeps.drewN (Qt.refl W) n)) (by omega))
  by_cases hs:A.list.length + 1 < 2 * (B.list.length + 1)
  ·have GO:=Lib.hid (fun (w:World) (q:Qt W w)=>between_any (hn.qt q) (hl.qt q) (hA.qt q) (by omega) (fun k hk=>hX k (Nat.le_trans q.size hk)))
   have GH:=Lib.hid (fun (w:World) (p:Option Addr) (q:Qt W w) (i:IsT X w p (.node L r A))=>between_any (NR.qt q) i (hB.qt q) (by simp only [Tb.Tr.list,List.length_append,List.length_cons]; omega) (fun k hk=>hX k (Nat.le_trans q.size hk)))
   have KC:=Lib.hid (fun (w:World) (q:Qt W w)=>(show w.cell? ⟨rb,3,none⟩ = some (.pointer pq) from q.cellv k3))
   have hs':((A.list.length:Int) + 1 < 2 * ((B.list.length:Int) + 1)):=by omega
   have hb1:(A.list.length:Int)<=17592186044416:=by omega
   have hb2:(B.list.length:Int)<=17592186044416:=by omega
   have EQ:=Lib.hid (show (.node (.node L r A) rr B:Tb.Tr).list = L.list ++ r :: (Tb.Tr.node A rr B).list from by simp [Tb.Tr.list])
   clear hn hl hA hB k0 k1 NR hb hX hw hs
   generalize A.list.length = n at *
   generalize B.list.length = m at *
   go_enter Tryz.func269,Tryz.ntmps269
   go_wp2_with fail
   go_quiet ((first | (go_at_call 268; with_reducible exact Calls.quiet_of_same (WI.out _)) | (go_at_call 268; with_reducible exact Calls.quiet_of_same (WQ.out _))))
   generalize hw2:W.drewN nq = w2 at *
   have Q2:=Lib.hid (show Qt W w2 from hw2 ▸ Keeps.drewN (Qt.refl W) nq)
   have QD:=Lib.hid (show Qt W w2.drew from Keeps.drew Q2.out)
   have kk:=KC.out _ Q2.out
   clear hw2 k2 k3
   go_wp2_with fail
   go_region_held3 (fun W'=>W'.cell? ⟨rb,3,none⟩ = some (.pointer pq))
    (first | exact KC.out _ QD.out | exact KC.out _ (Hid.out (by assumption)))
    (first
     | (go_at_call 271; refine (GO.out _ QD.out).mono ?_; rintro e w3 ⟨p3,rfl,i3,q3⟩; have Q3:=Lib.hid (Qt.trans QD.out q3); have I3:=Lib.hid i3; clear GO i3 q3)
     | (go_at_call 271; refine (GH.out _ _ Q3.out I3.out).mono ?_; rintro e w4 ⟨p4,rfl,i4,q4⟩; have Q4:=Lib.hid (Qt.trans Q3.out q4); have I4:=Lib.hid i4; clear GH i4 q4))
   go_wp2
   go_ret
   exact ⟨_,_,rfl,EQ.out,I4.out,Q4.out⟩
  ·cases A with
   | leaf=>exact absurd (show (0:Nat) + 1 < 2 * (B.list.length + 1) by omega) hs
   | node C ir D =>
    obtain ⟨ib,pc,pd,rfl,_,m0,m1,m2,m3,_,hC,hD⟩:=hA
    have hlen:(Tb.Tr.node C ir D).list.length = C.list.length + (D.list.length + 1):=by rw [Tb.Tr.list,List.length_append,List.length_cons]
    have IR:NodeR W ib ir:=⟨m0,m1⟩
    have G1:=Lib.hid (fun (w:World) (q:Qt W w)=>between_any (hn.qt q) (hl.qt q) (hC.qt q) (by omega) (fun k hk=>hX k (Nat.le_trans q.size hk)))
    have G2:=Lib.hid (fun (w:World) (q:Qt W w)=>between_any (NR.qt q) (hD.qt q) (hB.qt q) (by omega) (fun k hk=>hX k (Nat.le_trans q.size hk)))
    have G3:=Lib.hid (fun (w:World) (p1 p2:Option Addr) (q:Qt W w) (i1:IsT X w p1 (.node L r C)) (i2:IsT X w p2 (.node D rr B))=>between_any (IR.qt q) i1 i2 (by simp only [Tb.Tr.list,List.length_append,List.length_cons]; omega) (fun k hk=>hX k (Nat.le_trans q.size hk)))
    have KC:=Lib.hid (fun (w:World) (q:Qt W w)=>(show w.cell? ⟨rb,3,none⟩ = some (.pointer pq)/\w.cell? ⟨ib,2,none⟩ = some (.pointer pc)/\w.cell? ⟨ib,3,none⟩ = some (.pointer pd) from ⟨q.cellv k3,q.cellv m2,q.cellv m3⟩))
    rw [hlen] at WI hs
    have hs':¬ (((C.list.length + (D.list.length + 1):Nat):Int) + 1 < 2 * ((B.list.length:Int) + 1)):=by omega
    have hb1:((C.list.length + (D.list.length + 1):Nat):Int)<=17592186044416:=by omega
    have hb2:(B.list.length:Int)<=17592186044416:=by omega
    have EQ:=Lib.hid (show (Tb.Tr.node (.node L r C) ir (.node D rr B)).list = L.list ++ r :: (Tb.Tr.node (.node C ir D) rr B).list from by simp [Tb.Tr.list])
    clear hn hl hC hD hB k0 k1 m0 m1 NR IR hb hX hw hs hlen
    generalize C.list.length + (D.list.length + 1) = n at *
    generalize B.list.length = m at *
    go_enter Tryz.func269,Tryz.ntmps269
    go_wp2_with fail
    go_quiet ((first | (go_at_call 268; with_reducible exact Calls.quiet_of_same (WI.out _)) | (go_at_call 268; with_reducible exact Calls.quiet_of_same (WQ.out _))))
    generalize hw2:W.drewN nq = w2 at *
    have Q2:=Lib.hid (show Qt W w2 from hw2 ▸ Keeps.drewN (Qt.refl W) nq)
    have QD:=Lib.hid (show Qt W w2.drew from Keeps.drew Q2.out)
    have kk:=KC.out _ Q2.out
    clear hw2 k2 k3 m2 m3
    go_wp2_with fail
    go_region_held3 (fun W'=>W'.cell? ⟨rb,3,none⟩ = some (.pointer pq)/\W'.cell? ⟨ib,2,none⟩ = some (.pointer pc)/\W'.cell? ⟨ib,3,none⟩ = some (.pointer pd))
     (first | exact KC.out _ QD.out | exact KC.out _ (Hid.out (by assumption)))
     (first
      | (go_at_call 271; refine (G1.out _ QD.out).mono ?_; rintro e w3 ⟨p3,rfl,i3,q3⟩; have Q3:=Lib.hid (Qt.trans QD.out q3); have I3:=Lib.hid i3; clear G1 i3 q3)
      | (go_at_call 271; refine (G2.out _ Q3.out).mono ?_; rintro e w4 ⟨p4,rfl,i4,q4⟩; have Q4:=Lib.hid (Qt.trans Q3.out q4); have I4:=Lib.hid i4; have J3:=Lib.hid (I3.out.qt q4); clear G2 i4 q4)
      | (go_at_call 271; refine (G3.out _ _ _ Q4.out J3.out I4.out).mono ?_; rintro e w5 ⟨p5,rfl,i5,q5⟩; have Q5:=Lib.hid (Qt.trans Q4.out q5); have I5:=Lib.hid i5; clear G3 i5 q5))
    go_wp2
    go_ret
    exact ⟨_,_,rfl,EQ.out,I5.out,Q5.out⟩
set_option maxHeartbeats 3200000 in
theorem turnedRight_any {X:Nat->Prop} {W:World} {nb:Nat} {r:Tb.R} {pl pr:Option Addr} {L R:Tb.Tr} (hn:NodeR W nb r) (hl:IsT X W pl L) (hr:IsT X W pr R) (hb:L.list.length + (R.list.length + 1)<=17592186044416) (hX:∀ k,W.heap.size<=k->X k) (hw:3 * (R.list.length + 1) < L.list.length + 1) :
  Calls Tryz.prog 270 #[.pointer (some ⟨nb,0,none⟩),.pointer pl,.pointer pr] W (Made X W (L.list ++ r :: R.list)):=by
 cases L with
 | leaf=>exact absurd hw (by simp [Tb.Tr.list])
 | node A rr B =>
  obtain ⟨rb,pa,pq,rfl,_,k0,k1,k2,k3,_,hA,hB⟩:=hl
  have hlen:(Tb.Tr.node A rr B).list.length = A.list.length + (B.list.length + 1):=by rw [Tb.Tr.list,List.length_append,List.length_cons]
  rw [hlen] at hb hw
  clear hlen
  have NR:NodeR W rb rr:=⟨k0,k1⟩
  have WI:=Lib.hid (fun (n:Nat)=>weight_any (hB.qt (Keeps.drewN (Qt.refl W) n)) (by omega))
  have WQ:=Lib.hid (fun (n:Nat)=>weight_any (hA.qt (Keeps.drewN (Qt.refl W) n)) (by omega))
  by_cases hs:B.list.length + 1 < 2 * (A.list.length + 1)
  ·have GO:=Lib.hid (fun (w:World) (q:Qt W w)=>between_any (hn.qt q) (hB.qt q) (hr.qt q) (by omega) (fun k hk=>hX k (Nat.le_trans q.size hk)))
   have GH:=Lib.hid (fun (w:World) (p:Option Addr) (q:Qt W w) (i:IsT X w p (.node B r R))=>between_any (NR.qt q) (hA.qt q) i (by simp only [Tb.Tr.list,List.length_append,List.length_cons]; omega) (fun k hk=>hX k (Nat.le_trans q.size hk)))
   have KC:=Lib.hid (fun (w:World) (q:Qt W w)=>(show w.cell? ⟨rb,2,none⟩ = some (.pointer pa) from q.cellv k2))
   have hs':((B.list.length:Int) + 1 < 2 * ((A.list.length:Int) + 1)):=by omega
   have hb1:(B.list.length:Int)<=17592186044416:=by omega
   have hb2:(A.list.length:Int)<=17592186044416:=by omega
   have EQ:=Lib.hid (show (.node A rr (.node B r R):Tb.Tr).list = (Tb.Tr.node A rr B).list ++ r :: R.list from by simp [Tb.Tr.list])
   clear hn hr hA hB k0 k1 NR hb hX hw hs
   generalize B.list.length = n at *
   generalize A.list.length = m at *
   go_enter Tryz.func270,Tryz.ntmps270
   go_wp2_with fail
   go_quiet ((first | (go_at_call 268; with_reducible exact Calls.quiet_of_same (WI.out _)) | (go_at_call 268; with_reducible exact Calls.quiet_of_same (WQ.out _))))
   generalize hw2:W.drewN nq = w2 at *
   have Q2:=Lib.hid (show Qt W w2 from hw2 ▸ Keeps.drewN (Qt.refl W) nq)
   have QD:=Lib.hid (show Qt W w2.drew from Keeps.drew Q2.out)
   have kk:=KC.out _ Q2.out
   clear hw2 k2 k3
   go_wp2_with fail
   go_region_held3 (fun W'=>W'.cell? ⟨rb,2,none⟩ = some (.pointer pa))
    (first | exact KC.out _ QD.out | exact KC.out _ (Hid.out (by assumption)))
    (first
     | (go_at_call 271; refine (GO.out _ QD.out).mono ?_; rintro e w3 ⟨p3,rfl,i3,q3⟩; have Q3:=Lib.hid (Qt.trans QD.out q3); have I3:=Lib.hid i3; clear GO i3 q3)
     | (go_at_call 271; refine (GH.out _ _ Q3.out I3.out).mono ?_; rintro e w4 ⟨p4,rfl,i4,q4⟩; have Q4:=Lib.hid (Qt.trans Q3.out q4); have I4:=Lib.hid i4; clear GH i4 q4))
   go_wp2
   go_ret
   exact ⟨_,_,rfl,EQ.out,I4.out,Q4.out⟩
  ·cases B with
   | leaf=>exact absurd (show (0:Nat) + 1 < 2 * (A.list.length + 1) by omega) hs
   | node C ir D =>
    obtain ⟨ib,pc,pd,rfl,_,m0,m1,m2,m3,_,hC,hD⟩:=hB
    have hlen:(Tb.Tr.node C ir D).list.length = C.list.length + (D.list.length + 1):=by rw [Tb.Tr.list,List.length_append,List.length_cons]
    have IR:NodeR W ib ir:=⟨m0,m1⟩
    have G1:=Lib.hid (fun (w:World) (q:Qt W w)=>between_any (NR.qt q) (hA.qt q) (hC.qt q) (by omega) (fun k hk=>hX k (Nat.le_trans q.size hk)))
    have G2:=Lib.hid (fun (w:World) (q:Qt W w)=>between_any (hn.qt q) (hD.qt q) (hr.qt q) (by omega) (fun k hk=>hX k (Nat.le_trans q.size hk)))
    have G3:=Lib.hid (fun (w:World) (p1 p2:Option Addr) (q:Qt W w) (i1:IsT X w p1 (.node A rr C)) (i2:IsT X w p2 (.node D r R))=>between_any (IR.qt q) i1 i2 (by simp only [Tb.Tr.list,List.length_append,List.length_cons]; omega) (fun k hk=>hX k (Nat.le_trans q.size hk)))
    have KC:=Lib.hid (fun (w:World) (q:Qt W w)=>(show w.cell? ⟨rb,2,none⟩ = some (.pointer pa)/\w.cell? ⟨ib,2,none⟩ = some (.pointer pc)/\w.cell? ⟨ib,3,none⟩ = some (.pointer pd) from ⟨q.cellv k2,q.cellv m2,q.cellv m3⟩))
    rw [hlen] at WI hs
    have hs':¬ (((C.list.length + (D.list.length + 1):Nat):Int) + 1 < 2 * ((A.list.length:Int) + 1)):=by omega
    have hb1:((C.list.length + (D.list.length + 1):Nat):Int)<=17592186044416:=by omega
    have hb2:(A.list.length:Int)<=17592186044416:=by omega
    have EQ:=Lib.hid (show (Tb.Tr.node (.node A rr C) ir (.node D r R)).list = (Tb.Tr.node A rr (.node C ir D)).list ++ r :: R.list from by simp [Tb.Tr.list])
    clear hn hr hC hD hA k0 k1 m0 m1 NR IR hb hX hw hs hlen
    generalize C.list.length + (D.list.length + 1) = n at *
    generalize A.list.length = m at *
    go_enter Tryz.func270,Tryz.ntmps270
    go_wp2_with fail
    go_quiet ((first | (go_at_call 268; with_reducible exact Calls.quiet_of_same (WI.out _)) | (go_at_call 268; with_reducible exact Calls.quiet_of_same (WQ.out _))))
    generalize hw2:W.drewN nq = w2 at *
    have Q2:=Lib.hid (show Qt W w2 from hw2 ▸ Keeps.drewN (Qt.refl W) nq)
    have QD:=Lib.hid (show Qt W w2.drew from Keeps.drew Q2.out)
    have kk:=KC.out _ Q2.out
    clear hw2 k2 k3 m2 m3
    go_wp2_with fail
    go_region_held3 (fun W'=>W'.cell? ⟨rb,2,none⟩ = some (.pointer pa)/\W'.cell? ⟨ib,2,none⟩ = some (.pointer pc)/\W'.cell? ⟨ib,3,none⟩ = some (.pointer pd))
     (first | exact KC.out _ QD.out | exact KC.out _ (Hid.out (by assumption)))
     (first
      | (go_at_call 271; refine (G1.out _ QD.out).mono ?_; rintro e w3 ⟨p3,rfl,i3,q3⟩; have Q3:=Lib.hid (Qt.trans QD.out q3); have I3:=Lib.hid i3; clear G1 i3 q3)
      | (go_at_call 271; refine (G2.out _ Q3.out).mono ?_; rintro e w4 ⟨p4,rfl,i4,q4⟩; have Q4:=Lib.hid (Qt.trans Q3.out q4); have I4:=Lib.hid i4; have J3:=Lib.hid (I3.out.qt q4); clear G2 i4 q4)
      | (go_at_call 271; refine (G3.out _ _ _ Q4.out J3.out I4.out).mono ?_; rintro e w5 ⟨p5,rfl,i5,q5⟩; have Q5:=Lib.hid (Qt.trans Q4.out q5); have I5:=Lib.hid i5; clear G3 i5 q5))
    go_wp2
    go_ret
    exact ⟨_,_,rfl,EQ.out,I5.out,Q5.out⟩
set_option maxHeartbeats 1600000 in
theorem balanced_any {X:Nat->Prop} {W:World} {nb:Nat} {r:Tb.R} {pl pr:Option Addr} {L R:Tb.Tr} (hn:NodeR W nb r) (hl:IsT X W pl L) (hr:IsT X W pr R) (hb:L.list.length + (R.list.length + 1)<=17592186044416) (hX:∀ k,W.heap.size<=k->X k) :
  Calls Tryz.prog 248 #[.pointer (some ⟨nb,0,none⟩),.pointer pl,.pointer pr] W (Made X W (L.list ++ r :: R.list)):=by
 have WL:=weight_any hl (by omega)
 have WR:=weight_any hr (by omega)
 have BT:=Lib.hid (between_any hn hl hr hb hX)
 have TL:=Lib.hid (turnedLeft_any hn hl hr hb hX)
 have TR:=Lib.hid (turnedRight_any hn hl hr hb hX)
 clear hn hl hr hX
 generalize L.list.length = n at *
 generalize R.list.length = m at *
 go_enter Tryz.func248,Tryz.ntmps248
 go_wp2_with fail
 refine WR.mono ?_
 rintro e w' ⟨rfl,rfl⟩
 go_wp2_with fail
 refine WL.mono ?_
 rintro e w' ⟨rfl,rfl⟩
 go_wp2_with fail
 ·refine (TL.out (by omega)).mono ?_
  rintro e w1 ⟨p,T,rfl,h1,h2,h3⟩
  have FIN:=Lib.hid (And.intro h1 (And.intro h2 h3))
  clear h1 h2 h3 TL TR BT WL WR
  go_wp2
  go_ret
  exact ⟨_,_,rfl,FIN.out⟩
 ·refine WL.mono ?_
  rintro e w2 ⟨rfl,rfl⟩
  go_wp2_with fail
  refine WR.mono ?_
  rintro e w2 ⟨rfl,rfl⟩
  go_wp2_with fail
  ·refine (TR.out (by omega)).mono ?_
   rintro e w1 ⟨p,T,rfl,h1,h2,h3⟩
   have FIN:=Lib.hid (And.intro h1 (And.intro h2 h3))
   clear h1 h2 h3 TL TR BT WL WR
   go_wp2
   go_ret
   exact ⟨_,_,rfl,FIN.out⟩
  ·refine BT.out.mono ?_
   rintro e w1 ⟨p,rfl,h2,h3⟩
   have FIN:=Lib.hid (And.intro h2 h3)
   clear h2 h3 TL TR BT WL WR
   go_wp2
   go_ret
   exact ⟨_,_,rfl,rfl,FIN.out⟩
def szOf (v:Value) (W:World):Nat :=
 match v with
 | .pointer (some a)=>match W.cell? ⟨a.block,4,none⟩ with
  | some (.int _ n)=>n.toNat
  | _=>0
 | _=>0
theorem szOf_eq {X:Nat->Prop} {W:World}:∀ {p:Option Addr} {T:Tb.Tr},IsT X W p T->szOf (.pointer p) W = T.list.length
 | _,.leaf,e=>by obtain rfl:_ = none:=e; rfl
 | _,.node l r t,⟨b,pl,pr,rfl,_,_,_,_,_,c4,_,_⟩=>by
  unfold szOf
  simp only
  rw [c4]
  simp only [Tb.Tr.list,List.length_append,List.length_cons]
  omega
theorem len_node (l:Tb.Tr) (r:Tb.R) (t:Tb.Tr):(Tb.Tr.node l r t).list.length = l.list.length + (t.list.length + 1):=by rw [Tb.Tr.list,List.length_append,List.length_cons]
def GotV (o:Option Tb.Txt):Value:=.tuple #[strV (o.getD []),.bool o.isSome]
def FdAt (X:Nat->Prop) (W:World) (G:Option Tb.Txt) (k:Tb.Txt) (pv:Value) (wr:World):Prop :=
 ∃ (p:Option Addr) (T:Tb.Tr),pv = .pointer p/\wr = W/\IsT X W p T/\Tb.Sorted T.list/\Tb.get T.list k = G
set_option maxHeartbeats 1600000 in
theorem find_any {X:Nat->Prop} {W:World} {p:Option Addr} {T:Tb.Tr} (h:IsT X W p T) (hs:Tb.Sorted T.list) (k:ByteArray) :
  Calls Tryz.prog 153 #[.pointer p,.string k] W fun e w'=>e = .returned (GotV (Tb.get T.list k.data.toList))/\w' = W:=by
 have ST:=Lib.hid (show FdAt X W (Tb.get T.list k.data.toList) k.data.toList (.pointer p) W from ⟨p,T,rfl,rfl,h,hs,rfl⟩)
 generalize Tb.get T.list k.data.toList = G at *
 clear h hs
 go_enter Tryz.func153,Tryz.ntmps153
 go_wp2
 go_loopw [0] (fun pv wr=>FdAt X W G k.data.toList pv wr) (fun pv wr=>szOf pv wr)
 case atStart=>exact ST.out
 case round =>
  obtain ⟨q,U,rfl,rfl,hU,hS,hG⟩:=hrel
  cases U with
  | leaf =>
   obtain rfl:q = none:=hU
   obtain rfl:none = G:=hG
   clear hS
   go_wp2
   go_ret2
   exact ⟨rfl,rfl⟩
  | node l r t =>
   have SZ:=Lib.hid (szOf_eq hU)
   obtain ⟨b,pl,pr,rfl,_,x0,x1,x2,x3,_,hl,hr⟩:=hU
   have SL:=Lib.hid (szOf_eq hl)
   have SR:=Lib.hid (szOf_eq hr)
   rw [len_node] at SZ
   obtain ⟨K,hK,hKl⟩:∃ K:ByteArray,strV r.1 = .string K/\K.data.toList = r.1:=⟨⟨r.1.toArray⟩,rfl,rfl⟩
   obtain ⟨V,hV⟩:∃ V:ByteArray,strV r.2 = .string V:=⟨_,rfl⟩
   have hV2:strV (some r.2 |>.getD []) = .string V:=hV
   rw [hK] at x0
   rw [hV] at x1
   rw [Tb.Tr.list] at hS hG
   by_cases hlt:Tb.lt k.data.toList r.1 = true
   ·have zk:Op.bytesLess k.toList K.toList = true:=by rw [ByteArray.toList_eq,ByteArray.toList_eq,hKl]; exact hlt
    have zne:(K.toList == k.toList) = false:=by rw [ByteArray.toList_eq,ByteArray.toList_eq,hKl]; simpa using fun e=>Tb.lt_ne hlt e.symm
    have FN:=Lib.hid (show FdAt X wr G k.data.toList (.pointer pl) wr from ⟨pl,l,rfl,rfl,hl,Tb.sorted_left hS,by rw [<- hG,Tb.get_left hS hlt]⟩)
    have MS:=Lib.hid (show szOf (.pointer pl) wr < szOf (.pointer (some ⟨b,0,none⟩)) wr from by rw [SZ.out,SL.out]; omega)
    clear hK hKl hV hV2 hG hS hl hr hlt
    go_wp2
    exact ⟨FN.out,MS.out⟩
   ·by_cases hgt:Tb.lt r.1 k.data.toList = true
    ·have zk:Op.bytesLess k.toList K.toList = false:=by rw [ByteArray.toList_eq,ByteArray.toList_eq,hKl]; exact Bool.eq_false_iff.2 hlt
     have zne:(K.toList == k.toList) = false:=by rw [ByteArray.toList_eq,ByteArray.toList_eq,hKl]; simpa using Tb.lt_ne hgt
     have FN:=Lib.hid (show FdAt X wr G k.data.toList (.pointer pr) wr from ⟨pr,t,rfl,rfl,hr,Tb.sorted_right hS,by rw [<- hG,Tb.get_right hS hgt]⟩)
     have MS:=Lib.hid (show szOf (.pointer pr) wr < szOf (.pointer (some ⟨b,0,none⟩)) wr from by rw [SZ.out,SR.out]; omega)
     clear hK hKl hV hV2 hG hS hl hr hlt hgt
     go_wp2
     exact ⟨FN.out,MS.out⟩
    ·have hke:r.1 = k.data.toList:=(Tb.lt_total (by simpa using hlt) (by simpa using hgt)).symm
     have zne:(K.toList == k.toList) = true:=by rw [ByteArray.toList_eq,ByteArray.toList_eq,hKl]; simpa using hke
     have HG:=Lib.hid (show GotV G = .tuple #[.string V,.bool true] from by
      have e:=Tb.get_mid hS
      rw [hke,hG] at e
      rw [e]
      unfold GotV
      rw [hV2]
      rfl)
     clear hK hKl hV hV2 hG hS hl hr hlt hgt hke
     go_wp2
     go_ret2
     exact ⟨by rw [HG.out]; rfl,rfl⟩
def FsAt (X:Nat->Prop) (W:World) (l:List Tb.R) (pv:Value) (wr:World):Prop :=
 ∃ (p:Option Addr) (a:Tb.Tr) (r:Tb.R) (t:Tb.Tr) (suf:List Tb.R),pv = .pointer p/\wr = W/\IsT X W p (.node a r t)/\l = (Tb.Tr.node a r t).list ++ suf
set_option maxHeartbeats 1600000 in
theorem first_any {X:Nat->Prop} {W:World} {p:Option Addr} {a t:Tb.Tr} {r:Tb.R} (h:IsT X W p (.node a r t)) :
  Calls Tryz.prog 249 #[.pointer p] W fun e w'=>(∃ (b:Nat) (x:Tb.R) (rest:List Tb.R),e = .returned (.pointer (some ⟨b,0,none⟩))/\NodeR W b x/\(Tb.Tr.node a r t).list = x :: rest)/\w' = W:=by
 have ST:=Lib.hid (show FsAt X W (Tb.Tr.node a r t).list (.pointer p) W from ⟨p,a,r,t,[],rfl,rfl,h,by simp⟩)
 generalize (Tb.Tr.node a r t).list = L at *
 clear h
 go_enter Tryz.func249,Tryz.ntmps249
 go_wp2
 go_loopw [0] (fun pv wr=>FsAt X W L pv wr) (fun pv wr=>szOf pv wr)
 case atStart=>exact ST.out
 case round =>
  obtain ⟨q,a,r,t,suf,rfl,rfl,hU,hL⟩:=hrel
  have SZ:=Lib.hid (szOf_eq hU)
  obtain ⟨b,pl,pr,rfl,_,x0,x1,x2,x3,_,hl,hr⟩:=hU
  rw [len_node] at SZ
  cases a with
  | leaf =>
   obtain rfl:pl = none:=hl
   have FIN:=Lib.hid (show ∃ (x:Tb.R) (rest:List Tb.R),NodeR wr b x/\L = x :: rest from ⟨r,_,⟨x0,x1⟩,by rw [hL]; simp [Tb.Tr.list]; rfl⟩)
   clear hL hr
   go_wp2
   go_ret
   obtain ⟨x,rest,h1,h2⟩:=FIN.out
   exact ⟨⟨b,x,rest,rfl,h1,h2⟩,rfl⟩
  | node a2 r2 t2 =>
   have SL:=Lib.hid (szOf_eq hl)
   have FN:=Lib.hid (show FsAt X wr L (.pointer pl) wr from ⟨pl,a2,r2,t2,r :: t.list ++ suf,rfl,rfl,hl,by rw [hL]; simp [Tb.Tr.list]⟩)
   have MS:=Lib.hid (show szOf (.pointer pl) wr < szOf (.pointer (some ⟨b,0,none⟩)) wr from by rw [SZ.out,SL.out]; omega)
   obtain ⟨lb,_,_,rfl,_⟩:=hl
   clear hL hr
   go_wp2
   exact ⟨FN.out,MS.out⟩
theorem strV_str (k:ByteArray):strV k.data.toList = .string k:=by
 obtain ⟨⟨k⟩⟩:=k
 rfl
set_option maxHeartbeats 3200000 in
theorem with_any {X:Nat->Prop} (k v:ByteArray) (T:Tb.Tr):∀ (p:Option Addr) (W:World),IsT X W p T->Tb.Sorted T.list->(Tb.put T.list k.data.toList v.data.toList).length<=17592186044416->(∀ k,W.heap.size<=k->X k) ->
  Calls Tryz.prog 220 #[.pointer p,.string k,.string v] W (Made X W (Tb.put T.list k.data.toList v.data.toList)):=by
 induction T with
 | leaf =>
  rintro p W h _ _ hX
  obtain rfl:p = none:=h
  have HX:=Lib.hid hX
  clear hX
  go_enter Tryz.func220,Tryz.ntmps220
  go_wp2
  have NC:=fun {j:Nat} {u:Value} (hv:(#[Value.string k,Value.string v,Value.pointer none,Value.pointer none,Value.int .i64 1]:Array Value)[j]? = some u)=>node_cells (W:=W) rfl hv
  generalize hW1:W.alloc (.cells #[Value.string k,Value.string v,Value.pointer none,Value.pointer none,Value.int .i64 1] 280) = W1 at *
  have Q1:Qt W W1:=hW1 ▸ (Qt.refl W).alloc _
  have FIN:=Lib.hid (show IsT X W1 (some ⟨W.heap.size,0,none⟩) (.node .leaf (k.data.toList,v.data.toList) .leaf) from
   ⟨W.heap.size,none,none,rfl,HX.out _ (Nat.le_refl _),by rw [strV_str]; exact NC (j:=0) rfl,by rw [strV_str]; exact NC (j:=1) rfl,NC (j:=2) rfl,NC (j:=3) rfl,NC (j:=4) rfl,rfl,rfl⟩)
  have Q1:=Lib.hid Q1
  clear NC hW1
  go_ret
  exact ⟨_,_,rfl,rfl,FIN.out,Q1.out⟩
 | node l r t ihl ihr =>
  rintro p W h hS hlen hX
  obtain ⟨b,pl,pr,rfl,_,x0,x1,x2,x3,x4,hl,hr⟩:=h
  have x0':=x0
  have x1':=x1
  obtain ⟨K,hK,hKl⟩:∃ K:ByteArray,strV r.1 = .string K/\K.data.toList = r.1:=⟨⟨r.1.toArray⟩,rfl,rfl⟩
  rw [hK] at x0
  rw [Tb.Tr.list] at hS hlen ⊢
  by_cases hlt:Tb.lt k.data.toList r.1 = true
  ·have zk:Op.bytesLess k.toList K.toList = true:=by rw [ByteArray.toList_eq,ByteArray.toList_eq,hKl]; exact hlt
   have EQ:=Lib.hid (show Tb.put (l.list ++ r :: t.list) k.data.toList v.data.toList = Tb.put l.list k.data.toList v.data.toList ++ r :: t.list from Tb.put_left hS hlt)
   have HS:=Lib.hid (Tb.sorted_left hS)
   have HL:=Lib.hid (show (Tb.put l.list k.data.toList v.data.toList).length<=17592186044416 from by have h:=hlen; rw [EQ.out,List.length_append,List.length_cons] at h; omega)
   have LB:=Lib.hid (show (Tb.put l.list k.data.toList v.data.toList).length + (t.list.length + 1)<=17592186044416 from by have h:=hlen; rw [EQ.out,List.length_append,List.length_cons] at h; omega)
   have NR:=Lib.hid (show NodeR W b r from ⟨x0',x1'⟩)
   have HO:=Lib.hid hr
   have IH:=Lib.hid (fun (w:World) (q:Qt W w)=>ihl pl w (hl.qt q) HS.out HL.out (fun k hk=>hX k (Nat.le_trans q.size hk)))
   have BL:=Lib.hid (fun (w:World) (p1:Option Addr) (T1:Tb.Tr) (q:Qt W w) (e1:T1.list = Tb.put l.list k.data.toList v.data.toList) (i:IsT X w p1 T1)=>balanced_any (NR.out.qt q) i (HO.out.qt q) (by have h:=LB.out; rw [<- e1] at h; omega) (fun k hk=>hX k (Nat.le_trans q.size hk)))
   have KC:=Lib.hid (fun (w:World) (q:Qt W w)=>(show w.cell? ⟨b,2,none⟩ = some (.pointer pl)/\w.cell? ⟨b,3,none⟩ = some (.pointer pr) from ⟨q.cellv x2,q.cellv x3⟩))
   have QD:=Lib.hid (show Qt W W.drew from Keeps.drew (Qt.refl W))
   clear hK hKl hS hlen hl hr hX ihl ihr x0' x1' hlt
   go_enter Tryz.func220,Tryz.ntmps220
   go_wp2_with fail
   go_region_held3 (fun W'=>W'.cell? ⟨b,2,none⟩ = some (.pointer pl)/\W'.cell? ⟨b,3,none⟩ = some (.pointer pr))
    (first | exact KC.out _ QD.out | exact KC.out _ (Hid.out (by assumption)))
    (first
     | (go_at_call 220; refine (IH.out _ QD.out).mono ?_; rintro e w3 ⟨p3,T3,rfl,e3,i3,q3⟩; have Q3:=Lib.hid (Qt.trans QD.out q3); have I3:=Lib.hid i3; have E3:=Lib.hid e3; clear IH i3 q3 e3)
     | (go_at_call 248; refine (BL.out _ _ _ Q3.out E3.out I3.out).mono ?_; rintro e w4 ⟨p4,T4,rfl,e4,i4,q4⟩; have Q4:=Lib.hid (Qt.trans Q3.out q4); have I4:=Lib.hid i4; have E4:=Lib.hid e4; clear BL i4 q4 e4))
   go_wp2
   go_ret
   exact ⟨_,_,rfl,by rw [E4.out,E3.out,EQ.out],I4.out,Q4.out⟩
  ·by_cases hgt:Tb.lt r.1 k.data.toList = true
   ·have zk:Op.bytesLess k.toList K.toList = false:=by rw [ByteArray.toList_eq,ByteArray.toList_eq,hKl]; exact Bool.eq_false_iff.2 hlt
    have zg:(k.toList == K.toList) = false:=by rw [ByteArray.toList_eq,ByteArray.toList_eq,hKl]; simpa using fun e=>Tb.lt_ne hgt e.symm
    have EQ:=Lib.hid (show Tb.put (l.list ++ r :: t.list) k.data.toList v.data.toList = l.list ++ r :: Tb.put t.list k.data.toList v.data.toList from Tb.put_right hS hgt)
    have HS:=Lib.hid (Tb.sorted_right hS)
    have HL:=Lib.hid (show (Tb.put t.list k.data.toList v.data.toList).length<=17592186044416 from by have h:=hlen; rw [EQ.out,List.length_append,List.length_cons] at h; omega)
    have LB:=Lib.hid (show (Tb.put t.list k.data.toList v.data.toList).length + (l.list.length + 1)<=17592186044416 from by have h:=hlen; rw [EQ.out,List.length_append,List.length_cons] at h; omega)
    have NR:=Lib.hid (show NodeR W b r from ⟨x0',x1'⟩)
    have HO:=Lib.hid hl
    have IH:=Lib.hid (fun (w:World) (q:Qt W w)=>ihr pr w (hr.qt q) HS.out HL.out (fun k hk=>hX k (Nat.le_trans q.size hk)))
    have BL:=Lib.hid (fun (w:World) (p1:Option Addr) (T1:Tb.Tr) (q:Qt W w) (e1:T1.list = Tb.put t.list k.data.toList v.data.toList) (i:IsT X w p1 T1)=>balanced_any (NR.out.qt q) (HO.out.qt q) i (by have h:=LB.out; rw [<- e1] at h; omega) (fun k hk=>hX k (Nat.le_trans q.size hk)))
    have KC:=Lib.hid (fun (w:World) (q:Qt W w)=>(show w.cell? ⟨b,2,none⟩ = some (.pointer pl)/\w.cell? ⟨b,3,none⟩ = some (.pointer pr) from ⟨q.cellv x2,q.cellv x3⟩))
    have QD:=Lib.hid (show Qt W W.drew from Keeps.drew (Qt.refl W))
    clear hK hKl hS hlen hl hr hX ihl ihr x0' x1' hlt hgt
    go_enter Tryz.func220,Tryz.ntmps220
    go_wp2_with fail
    go_region_held3 (fun W'=>W'.cell? ⟨b,2,none⟩ = some (.pointer pl)/\W'.cell? ⟨b,3,none⟩ = some (.pointer pr))
     (first | exact KC.out _ QD.out | exact KC.out _ (Hid.out (by assumption)))
     (first
      | (go_at_call 220; refine (IH.out _ QD.out).mono ?_; rintro e w3 ⟨p3,T3,rfl,e3,i3,q3⟩; have Q3:=Lib.hid (Qt.trans QD.out q3); have I3:=Lib.hid i3; have E3:=Lib.hid e3; clear IH i3 q3 e3)
      | (go_at_call 248; refine (BL.out _ _ _ Q3.out E3.out I3.out).mono ?_; rintro e w4 ⟨p4,T4,rfl,e4,i4,q4⟩; have Q4:=Lib.hid (Qt.trans Q3.out q4); have I4:=Lib.hid i4; have E4:=Lib.hid e4; clear BL i4 q4 e4))
    go_wp2
    go_ret
    exact ⟨_,_,rfl,by rw [E4.out,E3.out,EQ.out],I4.out,Q4.out⟩
   ·have hke:r.1 = k.data.toList:=(Tb.lt_total (Bool.eq_false_iff.2 hlt) (Bool.eq_false_iff.2 hgt)).symm
    have zk:Op.bytesLess k.toList K.toList = false:=by rw [ByteArray.toList_eq,ByteArray.toList_eq,hKl]; exact Bool.eq_false_iff.2 hlt
    have zg:(k.toList == K.toList) = true:=by rw [ByteArray.toList_eq,ByteArray.toList_eq,hKl]; simpa using hke.symm
    have EQ:=Lib.hid (show (Tb.Tr.node l (k.data.toList,v.data.toList) t).list = Tb.put (l.list ++ r :: t.list) k.data.toList v.data.toList from by rw [Tb.Tr.list,<- hke]; exact (Tb.put_mid hS).symm)
    have HL:=Lib.hid hl
    have HR:=Lib.hid hr
    have HX:=Lib.hid hX
    have QD:=Lib.hid (show Qt W W.drew from Keeps.drew (Qt.refl W))
    generalize hn:l.list.length + (t.list.length + 1) = n at *
    have HN:=Lib.hid hn
    clear hn
    have KC:=Lib.hid (fun (w:World) (q:Qt W w)=>(show w.cell? ⟨b,2,none⟩ = some (.pointer pl)/\w.cell? ⟨b,3,none⟩ = some (.pointer pr)/\w.cell? ⟨b,4,none⟩ = some (.int .i64 (n:Int)) from ⟨q.cellv x2,q.cellv x3,q.cellv x4⟩))
    clear hK hKl hS hlen hl hr hX ihl ihr x0' x1' hlt hgt hke
    go_enter Tryz.func220,Tryz.ntmps220
    go_wp2_with fail
    go_region_held3 (fun W'=>W'.cell? ⟨b,2,none⟩ = some (.pointer pl)/\W'.cell? ⟨b,3,none⟩ = some (.pointer pr)/\W'.cell? ⟨b,4,none⟩ = some (.int .i64 (n:Int)))
     (first | exact KC.out _ QD.out | go_keep) (fail)
    have NC:=fun {j:Nat} {u:Value} (hv:(#[Value.string k,Value.string v,Value.pointer pl,Value.pointer pr,Value.int .i64 (n:Int)]:Array Value)[j]? = some u)=>node_cells (W:=W) rfl hv
    generalize hW1:W.alloc (.cells #[Value.string k,Value.string v,Value.pointer pl,Value.pointer pr,Value.int .i64 (n:Int)] 280) = W1 at *
    have Q1:Qt W W1:=hW1 ▸ (Qt.refl W).alloc _
    have FIN:=Lib.hid (show IsT X W1.drew (some ⟨W.heap.size,0,none⟩) (.node l (k.data.toList,v.data.toList) t) from
     ⟨W.heap.size,pl,pr,rfl,HX.out _ (Nat.le_refl _),by rw [strV_str]; exact NC (j:=0) rfl,by rw [strV_str]; exact NC (j:=1) rfl,NC (j:=2) rfl,NC (j:=3) rfl,by rw [HN.out]; exact NC (j:=4) rfl,HL.out.qt (Keeps.drew Q1),HR.out.qt (Keeps.drew Q1)⟩)
    have Q1:=Lib.hid (show Qt W W1.drew from Keeps.drew Q1)
    clear NC hW1
    go_wp2
    go_ret
    exact ⟨_,_,rfl,EQ.out,FIN.out,Q1.out⟩
end Go.Proofs.YthjjfjhajadimaaGreatDoor
