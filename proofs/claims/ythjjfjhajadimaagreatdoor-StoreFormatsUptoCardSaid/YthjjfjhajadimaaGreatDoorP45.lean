/-
  Joined: OBehind, OFmtLaw, RecsO, ReachA, TLift, BLift.
-/
import Derived.Test.YthjjfjhajadimaaGreatDoorP44
import Derived.BigQuiet
import Derived.ChangeSlices
import Derived.SizedLaws
import Derived.Deep.Slices
import Derived.OpenShut
import Derived.ChangeAt
import Derived.WideShapes
import Derived.Test.YthjjfjhajadimaaGreatDoorRows
namespace Go.Proofs.YthjjfjhajadimaaGreatDoor
open Go.RowKit Go.WideShapes
set_option maxRecDepth 100000
set_option maxHeartbeats 1600000 in
theorem copied13_any {v:Value} {g off:Nat} {ops:List Bt.O} (w:World) (hr:OpsIn w v g off ops) (hl:ops.length<=8388608) :
  Calls Tryz.prog 27 #[v] w fun e w'=>∃ v',e = .returned v'/\NewO w w' v' ops:=by
 have HR:=Lib.hid hr
 have HL:=Lib.hid hl
 obtain ⟨a,cap,rfl,ha⟩:=hr.val
 clear hr ha hl
 obtain ⟨i0,hi0,hz0,hz1,hz2⟩:=info_parts infoOp12
 obtain ⟨W0,hW0⟩:∃ W,w.alloc (.cells #[] 87) = W:=⟨_,rfl⟩
 have Q0:=Lib.hid (show Qt w W0 from hW0 ▸ (Qt.refl w).alloc _)
 have OW:=Lib.hid (show W0.ownsRow 0 87 3 (.slice (some ⟨w.heap.size,0,none⟩) 0 0) 0 (opsC []) from hW0 ▸ op_new0 w)
 have NW:=Lib.hid (recs_news opC_len (by decide) (recs_turn HR.out Q0.out))
 go_enter Tryz.func27,Tryz.ntmps27
 go_wp2_with (at_builtin; refine wpList_append_rows _ rfl _ _ 38 rfl 87 i0 (.agg #[.bool false,.string ⟨#[]⟩,.string ⟨#[]⟩]) 3 40 Tryz.underlying38 hi0 hz0 hz1 hz2 rfl (by decide) _ 0 (opsC []) rfl OW.out a ops.length cap (opsC ops) rfl (opsC_length ops) NW.out (opsC_one' ops) (by have:=HL.out; unfold maxLen; omega) (by have:=HL.out; omega) ?_)
 intro v2 w2 own2 gr2 la2
 have FIN:=Lib.hid (show NewO w w2 v2 ops from by
  have K2:Keeps (fun x=>(Value.slice (some ⟨w.heap.size,0,none⟩) 0 0).ownBlock = some x) W0 w2:=Keeps.grown (Keeps.refl _ W0) gr2 (fun j _ ej=>ej.symm)
  refine ⟨?_,fun x hx=>?_,Keeps.trans Q0.out K2 (fun j hj e=>?_)⟩
  ·exact own2
  ·rcases la2 with q | ⟨y,q,hy⟩
   ·rw [hx] at q
    injection q with q
    exact Nat.le_of_eq q.symm
   ·rw [hx] at q
    injection q with q
    have:=Q0.out.size
    omega
  ·injection e with e
   have e2:w.heap.size = j:=e
   omega)
 obtain ⟨a2,c2,rfl⟩:∃ a c,v2 = .slice a ops.length c:=by
  rcases FIN.out.own.2 with ⟨rfl,h0⟩ | ⟨g,cap,cur,e,_⟩
  ·rw [h0]; exact ⟨_,_,rfl⟩
  ·exact ⟨_,_,e⟩
 clear own2 gr2 la2
 go_wp2
 go_ret
 exact ⟨_,rfl,FIN.out⟩
def BhAt (w:World) (l:List Tb.R) (ops:List Bt.O) (ov iv:Value) (wr:World):Prop :=
 ∃ i:Nat,i<=ops.length/\iv = .int .i64 i/\NewR w wr ov (Bt.apply l (ops.take i))
set_option maxHeartbeats 3200000 in
theorem behind13_rows {v ov:Value} {g off g2 off2:Nat} {l:List Tb.R} {ops:List Bt.O} (w:World) (hr:RowsIn w v g off l) (hi:OpsIn w ov g2 off2 ops) (hl:l.length<=6291456) (hn:ops.length<=1048576) (hs:Tb.Sorted l) :
  Calls Tryz.prog 32 #[v,ov] w fun e w'=>∃ v',e = .returned v'/\NewR w w' v' (Bt.apply l ops):=by
 have HR:=Lib.hid hr
 have HI:=Lib.hid hi
 have HL:=Lib.hid hl
 have HN:=Lib.hid hn
 have HS:=Lib.hid hs
 obtain ⟨a,cap,rfl,ha⟩:=hr.val
 obtain ⟨b,bcap,rfl,hb⟩:=hi.val
 clear hr ha hl hi hb hn hs
 obtain ⟨i0,hi0,hz0,hz1,hz2⟩:=info_parts infoRow
 obtain ⟨W0,hW0⟩:∃ W,w.alloc (.cells #[] 101) = W:=⟨_,rfl⟩
 have Q0:=Lib.hid (show Qt w W0 from hW0 ▸ (Qt.refl w).alloc _)
 have OW:=Lib.hid (show W0.ownsRow 0 101 2 (.slice (some ⟨w.heap.size,0,none⟩) 0 0) 0 (rowsC []) from hW0 ▸ row_new0 w)
 have NW:=Lib.hid (recs_news rowC_len (by decide) (recs_turn HR.out Q0.out))
 go_enter Tryz.func32,Tryz.ntmps32
 go_wp2_with (at_builtin; refine wpList_append_rows _ rfl _ _ 58 rfl 101 i0 (.agg #[.string ⟨#[]⟩,.string ⟨#[]⟩]) 2 32 Tryz.underlying58 hi0 hz0 hz1 hz2 rfl (by decide) _ 0 (rowsC []) rfl OW.out a l.length cap (rowsC l) rfl (rowsC_length l) NW.out (rowsC_one' l) (by have:=HL.out; unfold maxLen; omega) (by have:=HL.out; omega) ?_)
 intro v2 w2 own2 gr2 la2
 have N2:=Lib.hid (show NewR w w2 v2 l from by
  have K2:Keeps (fun x=>(Value.slice (some ⟨w.heap.size,0,none⟩) 0 0).ownBlock = some x) W0 w2:=Keeps.grown (Keeps.refl _ W0) gr2 (fun j _ ej=>ej.symm)
  refine ⟨?_,fun x hx=>?_,Keeps.trans Q0.out K2 (fun j hj e=>?_)⟩
  ·exact own2
  ·rcases la2 with q | ⟨y,q,hy⟩
   ·rw [hx] at q
    injection q with q
    exact Nat.le_of_eq q.symm
   ·rw [hx] at q
    injection q with q
    have:=Q0.out.size
    omega
  ·injection e with e
   have e2:w.heap.size = j:=e
   omega)
 obtain ⟨a2,c2,rfl⟩:=rowN_shape N2.out.own
 have START:=Lib.hid (show BhAt w l ops (.slice a2 l.length c2) (.int .i64 0) w2 from ⟨0,Nat.zero_le _,rfl,N2.out⟩)
 clear own2 gr2 la2 hW0
 go_wp2
 go_loopw [5,13] (fun ov iv wr=>BhAt w l ops ov iv wr) (fun _ iv _=>ops.length - (intOf iv).toNat)
 case atStart=>exact START.out
 case round =>
  obtain ⟨i,hi,rfl,hN⟩:=hrel
  have HNW:=Lib.hid hN
  have QW:=Lib.hid hN.qt
  obtain ⟨va,vc,hva⟩:=rowN_shape hN.own
  subst hva
  by_cases hlt:i < ops.length
  ·have zlt:decide ((i:Int) < (ops.length:Int)) = true:=decide_eq_true (by omega)
   have zlt':decide (i < ops.length) = true:=decide_eq_true hlt
   obtain ⟨o,c1,hri,e0⟩:=HI.out.elem hlt
   injection e0 with e0 q1 q2
   clear q1 q2
   subst e0
   obtain ⟨x1,x2,x3⟩:=HI.out.cell hri
   have x1:=QW.out.cellv x1
   have x2:=QW.out.cellv x2
   have x3:=QW.out.cellv x3
   obtain ⟨K,hK⟩:∃ K:ByteArray,strV o.key = .string K:=⟨⟨o.key.toArray⟩,rfl⟩
   obtain ⟨V,hV⟩:∃ V:ByteArray,strV o.val = .string V:=⟨⟨o.val.toArray⟩,rfl⟩
   rw [hK] at x2
   rw [hV] at x3
   have k0:(0:Int)<=(i:Int):=by omega
   have k1:(i:Int) < (ops.length:Int):=by omega
   have hw1:=pl_w1 (k:=i) (by have:=HN.out; omega)
   have HM:=Lib.hid (pl_meas hlt)
   have HT:=Lib.hid (So.apply_succ (l:=l) hri)
   have HLT:=Lib.hid hlt
   obtain ⟨wb,hwb,qb,bb,hzb⟩:=box_own wr 87 #[.bool o.del,.string K,.string V]
   have hln:(Bt.apply l (ops.take i)).length<=8388608:=by
    have:=So.apply_len l ops i (by omega)
    have:=HL.out
    have:=HN.out
    omega
   obtain ⟨gb,hgb,_⟩:=newR_in (HNW.out.quiet qb) (by omega)
   have PU:=Lib.hid (put13_any o wb hgb hln (Bt.apply_sorted _ HS.out))
   have PU2:Calls Tryz.prog 78 #[.slice va (Bt.apply l (ops.take i)).length vc,.agg #[.bool o.del,.string K,.string V]] wb fun e w'=>∃ v',e = .returned v'/\NewR wb w' v' (Bt.doOp (Bt.apply l (ops.take i)) o):=by
    have k:=PU.out
    unfold opV at k
    rwa [hK,hV] at k
   have HPU:=Lib.hid PU2
   have QB:=Lib.hid (Qt.trans QW.out qb)
   have c1:=bb.cell 0 _ rfl
   have c2:=bb.cell 1 _ rfl
   have c3:=bb.cell 2 _ rfl
   obtain ⟨od,hod⟩:∃ x,o.del = x:=⟨_,rfl⟩
   rw [hod] at x1 c1 HPU hwb
   obtain ⟨m,hm⟩:∃ x,(Bt.apply l (ops.take i)).length = x:=⟨_,rfl⟩
   rw [hm] at HPU ⊢
   clear hK hV hri hlt hi hN qb bb hzb hgb hln PU PU2 hod hm
   go_wp2_with fail
   refine HPU.out.mono ?_
   rintro e w7 ⟨v7,rfl,N7⟩
   obtain ⟨a7,c7,rfl⟩:=rowN_shape N7.own
   have FN:=Lib.hid (show BhAt w l ops (.slice a7 (Bt.doOp (Bt.apply l (ops.take i)) o).length c7) (.int .i64 ((i:Int) + 1)) w7 from ⟨i + 1,HLT.out,by push_cast; rfl,by rw [HT.out]; exact ⟨N7.own,fun x hx=>by have:=N7.new x hx; have:=QB.out.size; omega,Qt.trans QB.out N7.qt⟩⟩)
   clear N7 c1 c2 c3 x1 x2 x3 HPU
   go_wp2
   first | exact ⟨FN.out,HM.out⟩ | (rw [hw1]; exact ⟨FN.out,HM.out⟩)
  ·obtain rfl:i = ops.length:=by omega
   have zlt:decide ((ops.length:Int) < (ops.length:Int)) = false:=decide_eq_false (by omega)
   have zlt':decide (ops.length < ops.length) = false:=decide_eq_false (by omega)
   have FIN:=Lib.hid (show NewR w wr (.slice va (Bt.apply l (ops.take ops.length)).length vc) (Bt.apply l ops) from by
    have k:=HNW.out
    rw [List.take_length] at k ⊢
    exact k)
   clear hN hlt hi
   go_wp2
   go_ret
   exact ⟨_,rfl,FIN.out⟩
theorem dk_turn {n0:Nat} {ad:Nat->Addr} {w w':World} {b:Nat} {d d2:DS} {S:Nat->Prop} (h:Dk n0 ad w b d S) (hD:DiskAt w' b d2 (Grow S w w')) (hK:Keeps S w w'):DkTo n0 ad w b d2 S w' (Grow S w w') :=
 h.step (hD.mono (fun k e=>by
  rcases e with e | e
  ·exact .inl e
  ·exact .inr e.1)) (hK.mono (fun _ _ e=>.inl e))
theorem DS.FewC.few {d:DS} (h:d.FewC):d.Few:=⟨by have:=h.ways; omega,by have:=h.wr; omega,by have:=h.fl; omega,by have:=h.cr; omega⟩
abbrev Ov (n:Nat) (w w':World):Prop:=Keeps (fun k=>n<=k) w w'
theorem ov_qt {n:Nat} {w w1 w2:World} (h:Ov n w w1) (q:Qt w1 w2):Ov n w w2:=Keeps.trans h (q.mono (fun _ _ e=>e.elim)) (fun _ _ e=>e)
theorem ov_to {n:Nat} {w w1 w2:World} {S:Nat->Prop} (h:Ov n w w1) (k:Keeps S w1 w2) (hS:∀ k,S k->n<=k):Ov n w w2:=Keeps.trans h k (fun i _ e=>hS i e)
theorem ov_end {w w1:World} {n:Nat} (hn:w.heap.size<=n) (h:Ov n w w1):Qt w w1:=h.mono (fun _ hk e=>absurd hk (Nat.not_lt.2 (Nat.le_trans hn e)))
theorem ops_ov {n:Nat} {w w1:World} {v:Value} {g o:Nat} {l:List Bt.O} (hn:w.heap.size<=n) (h:OpsIn w v g o l) (k:Ov n w w1):OpsIn w1 v g o l:=recs_turn h (ov_end hn k)
theorem bool_neq (a b:Bool) (w:World):(binOp .neq 4 (.bool a) (.bool b)).run Tryz.prog w = .ok (.bool (a != b)) w:=by
 cases a <;> cases b <;> kernel_rfl
set_option maxHeartbeats 16000000 in
theorem formats13_any (ad:Nat->Addr) {fv sv kv:Value} {g1 o1 g2 o2:Nat} {A B:List Bt.O} {f:FT} (a:Int) (w:World) (h0:-9223372036854775808<=a) (h1:a<=9223372036854775807) (hE:Errs ad w) (hT:Tab w)
  (hA:OpsIn w fv g1 o1 A) (hlA:A.length<=262144) (htA:∀ z ∈ A,z.key.length<=1048576/\z.val.length<=1048576) (hB:OpsIn w sv g2 o2 B) (hlB:B.length<=262144) (htB:∀ z ∈ B,z.key.length<=1048576/\z.val.length<=1048576) (hK:Bools w kv f.kept) :
  Calls Tryz.prog 8 #[fv,.int .i64 a,fateV kv f,sv] w fun e w'=>e = .returned (.bool true)/\Qt w w':=by
 have PL:=Lib.hid (So.formats_plain (max a 0) f A B)
 obtain ⟨W0,hW0,q0,b0,hz0⟩:=box_own w 41 #[kv,.int .i64 f.torn,.int .i64 f.bytes]
 have Q0:=Lib.hid q0
 have B0:=Lib.hid b0
 have Z0:=Lib.hid (show w.heap.size<=W0.heap.size from q0.size)
 have HE:=Lib.hid (hE.qt q0)
 have HT:=Lib.hid (hT.qt q0)
 have HA:=Lib.hid (recs_turn hA q0)
 have HB:=Lib.hid (recs_turn hB q0)
 have HK:=Lib.hid (hK.qt q0)
 have LA:=Lib.hid hlA
 have LB:=Lib.hid hlB
 have TA:=Lib.hid htA
 have TB:=Lib.hid htB
 have FX:=fixed13_any ad W0 HE.out HT.out
 clear hE hT hA hlA htA hB hlB htB hK q0 b0 hz0
 show Calls Tryz.prog 8 #[fv,.int .i64 a,.agg #[kv,.int .i64 f.torn,.int .i64 f.bytes],sv] w _
 go_enter Tryz.func8,Tryz.ntmps8
 go_wp2_with fail
 refine FX.mono ?_
 rintro e w1 ⟨rfl,q1⟩
 have Q1:=Lib.hid q1
 have NW:=Lib.hid (new_any ad 64 w1 (HE.out.qt q1))
 have Z1:=Lib.hid (show W0.heap.size<=w1.heap.size from q1.size)
 clear q1 FX
 go_wp2_with fail
 refine NW.out.mono ?_
 rintro e w2 (⟨hno,rfl,q2⟩ | ⟨n1,n2,b,rfl,hD,q2⟩)
 ·exact absurd ⟨by decide,by decide⟩ hno
 have D2:=Lib.hid (show Dk w1.heap.size ad w2 b (DS.newD 64) (Grow (fun _=>False) w1 w2) from dk_start (HE.out.qt Q1.out) (HT.out.qt Q1.out) hD q2)
 have V2:=Lib.hid (show Ov w1.heap.size W0 w2 from ov_qt (Q1.out.mono (fun _ _ e=>e.elim)) q2)
 have AR:=Lib.hid (arm_any D2.out.disk (max a 0) (by omega))
 clear hD q2 n1 n2 NW
 go_wp2_with fail
 refine AR.out.mono ?_
 rintro e w3 ⟨rfl,hD3,hK3⟩
 have T3:=dk_turn D2.out hD3 hK3
 have D3:=Lib.hid T3.dk
 have V3:=Lib.hid (ov_to V2.out T3.keeps (fun k e=>D2.out.low k e))
 have CP:=Lib.hid (copied13_any w3 (ops_ov Z1.out HA.out V3.out) (by have:=LA.out; omega))
 clear hD3 hK3 T3 AR
 go_wp2_with fail
 refine CP.out.mono ?_
 rintro e w4 ⟨cv,rfl,N4⟩
 obtain ⟨g4,hi4,_⟩:=newO_in N4 (by have:=LA.out; omega)
 have D4:=Lib.hid (D3.out.qt N4.qt)
 have V4:=Lib.hid (ov_qt V3.out N4.qt)
 have FM:=Lib.hid (format13_any D4.out ⟨show (0:Nat)<=1072000000 by decide,show (0:Nat)<=288230376151711744 by decide,show (0:Nat)<=288230376151711744 by decide,show (0:Nat)<=288230376151711744 by decide⟩ hi4 (small_of LA.out TA.out))
 clear N4 hi4 CP
 rcases PL.out with ⟨_,ef⟩ | ⟨d1,s2,d2,ef,oo,f1,f2,eo,er⟩ | ⟨d1,ef,oo,f1,f2,eo⟩
 ·rw [ef] at FM
  clear ef
  go_wp2_with fail
  refine FM.out.mono ?_
  rintro e w5 ⟨S5,he,hd5⟩
  obtain rfl:e = .returned (.iface 335 (.pointer (some (ad 17)))):=he
  have D5:=Lib.hid hd5.dk
  have V5:=Lib.hid (ov_to V4.out hd5.keeps (fun k e=>D4.out.low k e))
  clear hd5 FM
  have NU:Calls Tryz.prog 21 #[.iface 335 (.pointer (some (ad 17)))] w5 fun e w'=>e = .returned (.int .i64 17)/\Qt w5 w':=num_any ad 17 w5 D5.out.errs (by decide)
  go_wp2_with fail
  refine NU.mono ?_
  rintro e w6 ⟨rfl,q6⟩
  have D6:=Lib.hid (D5.out.qt q6)
  have V6:=Lib.hid (ov_qt V5.out q6)
  clear NU q6
  have OF:Calls Tryz.prog 43 #[.pointer (some ⟨b,0,none⟩)] w6 fun e w'=>e = .returned (.bool false)/\w' = w6:=off_same D6.out.disk
  have PE:Calls Tryz.prog 18 #[.pointer (some ⟨b,0,none⟩)] w6 fun e w'=>e = .returned (.int .i64 0)/\w6 = w':=pending_any D6.out.disk
  go_wp2_with fail
  refine OF.mono ?_
  rintro e w7 ⟨rfl,rfl⟩
  go_wp2_with fail
  refine PE.mono ?_
  rintro e w8 ⟨rfl,rfl⟩
  clear OF PE
  have FIN:=Lib.hid (Qt.trans Q0.out (ov_end Z1.out V6.out))
  go_wp2
  go_ret
  exact ⟨rfl,FIN.out⟩
 ·rw [ef] at FM
  have ER:=Lib.hid er
  have EO:=Lib.hid eo
  have OO:=Lib.hid oo
  have F2:=Lib.hid f2
  have F1:=Lib.hid f1
  clear ef er eo oo f1 f2
  go_wp2_with fail
  refine FM.out.mono ?_
  rintro e w5 ⟨S5,he,hd5⟩
  obtain rfl:e = .returned .nilIface:=he
  have D5:=Lib.hid hd5.dk
  have V5:=Lib.hid (ov_to V4.out hd5.keeps (fun k e=>D4.out.low k e))
  clear hd5 FM
  have NU:Calls Tryz.prog 21 #[.nilIface] w5 fun e w'=>e = .returned (.int .i64 0)/\Qt w5 w':=num_any ad 0 w5 D5.out.errs (by decide)
  go_wp2_with fail
  refine NU.mono ?_
  rintro e w6 ⟨rfl,q6⟩
  have D6:=Lib.hid (D5.out.qt q6)
  have V6:=Lib.hid (ov_qt V5.out q6)
  clear NU q6
  have OF:=Lib.hid (fun W (x:Qt w6 W)=>(show Calls Tryz.prog 43 #[.pointer (some ⟨b,0,none⟩)] W fun e w'=>e = .returned (.bool false)/\w' = W from by
   have k:=off_same (D6.out.qt x).disk
   rwa [OO.out] at k))
  have hbn:=fun (w:World)=>bool_neq false false w
  go_wp2_with fail
  go_quiet ((go_at_call 43; with_reducible exact Calls.quiet_of_same (OF.out _ (Keeps.drewN (Qt.refl w6) _))))
  generalize hw7:World.drewN w6 _ = w7
  have q7:Qt w6 w7:=hw7 ▸ Keeps.drewN (Qt.refl w6) _
  have D7:=Lib.hid (D6.out.qt q7)
  have V7:=Lib.hid (ov_qt V6.out q7)
  clear q7 hw7 OF hbn
  have b7:=B0.out.kept V7.out (fun e=>by have:=B0.out.lt; have:=Z1.out; omega)
  have c0:=b7.cell 0 _ rfl
  have c1:=b7.cell 1 _ rfl
  have c2:=b7.cell 2 _ rfl
  have CR:=Lib.hid (crash_any w7 b _ _ D7.out.disk F1.out.few kv f (HK.out.qt (ov_end Z1.out V7.out)) (fun x n c e hn hs=>by
   have h1:=HK.out.block x n c e hn
   have h2:=D7.out.low _ hs
   have:=Z1.out
   omega))
  unfold fateV at CR
  clear b7
  go_wp2_with fail
  refine CR.out.mono ?_
  rintro e w8 ⟨rfl,hD8,hK8⟩
  have T8:=dk_turn D7.out hD8 hK8
  have D8:=Lib.hid T8.dk
  have V8:=Lib.hid (ov_to V7.out T8.keeps (fun k e=>D7.out.low k e))
  clear hD8 hK8 T8 CR c0 c1 c2
  have OP:=Lib.hid (open13_any D8.out F2.out.s)
  rw [EO.out] at OP
  go_wp2_with fail
  refine OP.out.mono ?_
  rintro e w9 ⟨p,O,H,rfl,st,_,_,kk⟩
  have ST:=Lib.hid st
  have RM:=Lib.hid (show (Bt.apply [] A).length<=5111574 from by rw [<- ER.out]; exact st.most.1)
  have VO:=Lib.hid (ov_to V8.out kk (fun k e=>D8.out.low k e))
  clear st kk OP
  have RW:=Lib.hid (rows_sto ST.out)
  rw [ER.out] at RW
  go_wp2_with fail
  refine RW.out.mono ?_
  rintro e wr1 ⟨rv,rfl,NR⟩
  obtain ⟨gr,hri,_⟩:=newR_in NR (by have:=RM.out; omega)
  have VR:=Lib.hid (ov_qt VO.out NR.qt)
  have BH:=Lib.hid (behind13_rows wr1 (recs_none (f:=rowC)) (ops_ov Z1.out HA.out VR.out) (Nat.zero_le _) (by have:=LA.out; omega) List.Pairwise.nil)
  have HRI:=Lib.hid hri
  clear NR hri RW
  go_wp2_with fail
  refine BH.out.mono ?_
  rintro e wr2 ⟨bv,rfl,NB⟩
  obtain ⟨gb,hbi,_⟩:=newR_in NB (by have:=RM.out; omega)
  have SM:=Lib.hid (sameR12_yes (recs_turn HRI.out NB.qt) hbi)
  have VB:=Lib.hid (ov_qt VR.out NB.qt)
  clear NB hbi BH
  go_wp2_with fail
  refine SM.out.mono ?_
  rintro e wr3 ⟨rfl,q9⟩
  have V9:=Lib.hid (ov_qt VB.out q9)
  clear q9 SM
  have FIN:=Lib.hid (Qt.trans Q0.out (ov_end Z1.out V9.out))
  go_wp2
  go_ret
  exact ⟨rfl,FIN.out⟩
 ·rw [ef] at FM
  have OO:=Lib.hid oo
  have F2:=Lib.hid f2
  have F1:=Lib.hid f1
  have EE:=Lib.hid eo
  clear ef eo oo f1 f2
  go_wp2_with fail
  refine FM.out.mono ?_
  rintro e w5 ⟨S5,he,hd5⟩
  obtain rfl:e = .returned (.iface 335 (.pointer (some (ad 12)))):=he
  have D5:=Lib.hid hd5.dk
  have V5:=Lib.hid (ov_to V4.out hd5.keeps (fun k e=>D4.out.low k e))
  clear hd5 FM
  have NU:Calls Tryz.prog 21 #[.iface 335 (.pointer (some (ad 12)))] w5 fun e w'=>e = .returned (.int .i64 12)/\Qt w5 w':=num_any ad 12 w5 D5.out.errs (by decide)
  go_wp2_with fail
  refine NU.mono ?_
  rintro e w6 ⟨rfl,q6⟩
  have D6:=Lib.hid (D5.out.qt q6)
  have V6:=Lib.hid (ov_qt V5.out q6)
  clear NU q6
  have OF:=Lib.hid (fun W (x:Qt w6 W)=>(show Calls Tryz.prog 43 #[.pointer (some ⟨b,0,none⟩)] W fun e w'=>e = .returned (.bool true)/\w' = W from by
   have k:=off_same (D6.out.qt x).disk
   rwa [OO.out] at k))
  have NR:=Lib.hid (fun W (x:Qt w6 W)=>(show Calls Tryz.prog 21 #[.iface 335 (.pointer (some (ad 12)))] W fun e w'=>e = .returned (.int .i64 12)/\Qt W w' from num_any ad 12 W (D6.out.qt x).errs (by decide)))
  have hbn:=fun (w:World)=>bool_neq true true w
  go_wp2_with fail
  go_region_held3 (fun _=>True) (exact trivial)
   (first
    | (go_at_call 43; refine (OF.out _ (Keeps.drew (Qt.refl w6))).mono ?_; rintro e wa ⟨rfl,rfl⟩)
    | (go_at_call 21; refine (NR.out _ (Keeps.drew (Qt.refl w6))).mono ?_; rintro e w7 ⟨rfl,q7'⟩; have q7:=Lib.hid (Qt.trans (Keeps.drew (Qt.refl w6)) q7'); clear q7'))
  have D7:=Lib.hid (D6.out.qt q7.out)
  have V7:=Lib.hid (ov_qt V6.out q7.out)
  clear OF hbn NR
  have b7:=B0.out.kept V7.out (fun e=>by have:=B0.out.lt; have:=Z1.out; omega)
  have c0:=b7.cell 0 _ rfl
  have c1:=b7.cell 1 _ rfl
  have c2:=b7.cell 2 _ rfl
  have CR:=Lib.hid (crash_any w7 b _ _ D7.out.disk F1.out.few kv f (HK.out.qt (ov_end Z1.out V7.out)) (fun x n c e hn hs=>by
   have h1:=HK.out.block x n c e hn
   have h2:=D7.out.low _ hs
   have:=Z1.out
   omega))
  unfold fateV at CR
  clear b7
  go_wp2_with fail
  refine CR.out.mono ?_
  rintro e w8 ⟨rfl,hD8,hK8⟩
  have T8:=dk_turn D7.out hD8 hK8
  have D8:=Lib.hid T8.dk
  have V8:=Lib.hid (ov_to V7.out T8.keeps (fun k e=>D7.out.low k e))
  clear hD8 hK8 T8 CR c0 c1 c2
  rcases EE.out with ⟨s2,d2,eo,er⟩ | ⟨eo,er⟩
  ·have ER:=Lib.hid er
   have EO:=Lib.hid eo
   clear er eo
   have OP:=Lib.hid (open13_any D8.out F2.out.s)
   rw [EO.out] at OP
   go_wp2_with fail
   refine OP.out.mono ?_
   rintro e w9 ⟨p,O,H,rfl,st,_,_,kk⟩
   have ST:=Lib.hid st
   have RM:=Lib.hid (show (Bt.apply [] A).length<=5111574 from by rw [<- ER.out]; exact st.most.1)
   have VO:=Lib.hid (ov_to V8.out kk (fun k e=>D8.out.low k e))
   clear st kk OP
   have RW:=Lib.hid (rows_sto ST.out)
   rw [ER.out] at RW
   go_wp2_with fail
   refine RW.out.mono ?_
   rintro e wr1 ⟨rv,rfl,NR⟩
   obtain ⟨gr,hri,_⟩:=newR_in NR (by have:=RM.out; omega)
   have VR:=Lib.hid (ov_qt VO.out NR.qt)
   have BH:=Lib.hid (behind13_rows wr1 (recs_none (f:=rowC)) (ops_ov Z1.out HA.out VR.out) (Nat.zero_le _) (by have:=LA.out; omega) List.Pairwise.nil)
   have HRI:=Lib.hid hri
   clear NR hri RW
   go_wp2_with fail
   refine BH.out.mono ?_
   rintro e wr2 ⟨bv,rfl,NB⟩
   obtain ⟨gb,hbi,_⟩:=newR_in NB (by have:=RM.out; omega)
   have SM:=Lib.hid (sameR12_yes (recs_turn HRI.out NB.qt) hbi)
   have VB:=Lib.hid (ov_qt VR.out NB.qt)
   clear NB hbi BH
   go_wp2_with fail
   refine SM.out.mono ?_
   rintro e wr3 ⟨rfl,q9⟩
   have V9:=Lib.hid (ov_qt VB.out q9)
   clear q9 SM
   have FIN:=Lib.hid (Qt.trans Q0.out (ov_end Z1.out V9.out))
   go_wp2
   go_ret
   exact ⟨rfl,FIN.out⟩
  ·have EO:=Lib.hid eo
   have EB:=Lib.hid er
   clear er eo
   have OP:=Lib.hid (open13_any D8.out F2.out.s)
   rw [EO.out] at OP
   go_wp2_with fail
   refine OP.out.mono ?_
   rintro e w9 ⟨S9,he,hd9⟩
   rw [errV_pos ad (by decide)] at he
   subst he
   have D9:=Lib.hid hd9.dk
   have V9:=Lib.hid (ov_to V8.out hd9.keeps (fun k e=>D8.out.low k e))
   clear hd9 OP
   have NU:Calls Tryz.prog 21 #[.iface 335 (.pointer (some (ad 14)))] w9 fun e w'=>e = .returned (.int .i64 14)/\Qt w9 w':=num_any ad 14 w9 D9.out.errs (by decide)
   go_wp2_with fail
   refine NU.mono ?_
   rintro e wa ⟨rfl,q6⟩
   have Da:=Lib.hid (D9.out.qt q6)
   have Va:=Lib.hid (ov_qt V9.out q6)
   clear NU q6
   have CQ:=Lib.hid (copied13_any wa (ops_ov Z1.out HB.out Va.out) (by have:=LB.out; omega))
   go_wp2_with fail
   refine CQ.out.mono ?_
   rintro e wb ⟨cw,rfl,Nb⟩
   obtain ⟨gb',hib,_⟩:=newO_in Nb (by have:=LB.out; omega)
   have Db:=Lib.hid (Da.out.qt Nb.qt)
   have Vb:=Lib.hid (ov_qt Va.out Nb.qt)
   have FN:=Lib.hid (format13_any Db.out F2.out.s hib (small_of LB.out TB.out))
   clear Nb hib CQ
   rcases EB.out with ef | ⟨d3,s4,d4,ef,f3,eo,er⟩
   ·rw [ef] at FN
    clear ef
    go_wp2_with fail
    refine FN.out.mono ?_
    rintro e wc ⟨Sc,he,hdc⟩
    obtain rfl:e = .returned (.iface 335 (.pointer (some (ad 17)))):=he
    have Dc:=Lib.hid hdc.dk
    have Vc:=Lib.hid (ov_to Vb.out hdc.keeps (fun k e=>Db.out.low k e))
    clear hdc FN
    have NU:Calls Tryz.prog 21 #[.iface 335 (.pointer (some (ad 17)))] wc fun e w'=>e = .returned (.int .i64 17)/\Qt wc w':=num_any ad 17 wc Dc.out.errs (by decide)
    go_wp2_with fail
    refine NU.mono ?_
    rintro e wd ⟨rfl,q6⟩
    have Dd:=Lib.hid (Dc.out.qt q6)
    have Vd:=Lib.hid (ov_qt Vc.out q6)
    clear NU q6
    have FIN:=Lib.hid (Qt.trans Q0.out (ov_end Z1.out Vd.out))
    go_wp2
    go_ret
    exact ⟨rfl,FIN.out⟩
   ·rw [ef] at FN
    have ER:=Lib.hid er
    have EO3:=Lib.hid eo
    have F3:=Lib.hid f3
    clear ef er eo f3
    go_wp2_with fail
    refine FN.out.mono ?_
    rintro e wc ⟨Sc,he,hdc⟩
    obtain rfl:e = .returned .nilIface:=he
    have Dc:=Lib.hid hdc.dk
    have Vc:=Lib.hid (ov_to Vb.out hdc.keeps (fun k e=>Db.out.low k e))
    clear hdc FN
    have OP:=Lib.hid (open13_any Dc.out F3.out.s)
    rw [EO3.out] at OP
    go_wp2_with fail
    refine OP.out.mono ?_
    rintro e wd ⟨p,O,H,rfl,st,_,_,kk⟩
    have ST:=Lib.hid st
    have RM:=Lib.hid (show (Bt.apply [] B).length<=5111574 from by rw [<- ER.out]; exact st.most.1)
    have VO:=Lib.hid (ov_to Vc.out kk (fun k e=>Dc.out.low k e))
    clear st kk OP
    have RW:=Lib.hid (rows_sto ST.out)
    rw [ER.out] at RW
    go_wp2_with fail
    refine RW.out.mono ?_
    rintro e wr1 ⟨rv,rfl,NR⟩
    obtain ⟨gr,hri,_⟩:=newR_in NR (by have:=RM.out; omega)
    have VR:=Lib.hid (ov_qt VO.out NR.qt)
    have BH:=Lib.hid (behind13_rows wr1 (recs_none (f:=rowC)) (ops_ov Z1.out HB.out VR.out) (Nat.zero_le _) (by have:=LB.out; omega) List.Pairwise.nil)
    have HRI:=Lib.hid hri
    clear NR hri RW
    go_wp2_with fail
    refine BH.out.mono ?_
    rintro e wr2 ⟨bv,rfl,NB⟩
    obtain ⟨gb,hbi,_⟩:=newR_in NB (by have:=RM.out; omega)
    have SM:=Lib.hid (sameR12_yes (recs_turn HRI.out NB.qt) hbi)
    have VB:=Lib.hid (ov_qt VR.out NB.qt)
    clear NB hbi BH
    go_wp2_with fail
    refine SM.out.mono ?_
    rintro e wr3 ⟨rfl,q9⟩
    have V9:=Lib.hid (ov_qt VB.out q9)
    clear q9 SM
    have FIN:=Lib.hid (Qt.trans Q0.out (ov_end Z1.out V9.out))
    go_wp2
    go_ret
    exact ⟨rfl,FIN.out⟩
end Go.Proofs.YthjjfjhajadimaaGreatDoor
namespace Go.Proofs.YthjjfjhajadimaaGreatDoor
open Go.ChangeShapes Go.WideShapes Go.ChangeAt Go.RowKit
set_option maxRecDepth 100000
theorem choose7 {α:Type} {Q:Nat->α->Prop}:∀ (n:Nat),(∀ k,k < n->∃ o,Q k o)->∃ os:List α,os.length = n/\∀ (k:Nat) (o:α),os[k]? = some o->Q k o
 | 0,_=>⟨[],rfl,fun k o h=>by simp at h⟩
 | n + 1,h=>by
  obtain ⟨os,hl,ho⟩:=choose7 n (fun k hk=>h k (by omega))
  obtain ⟨o,hq⟩:=h n (by omega)
  refine ⟨os ++ [o],by simp [hl],fun k o' hk=>?_⟩
  by_cases hkn:k < n
  ·rw [List.getElem?_append_left (by omega)] at hk
   exact ho k o' hk
  ·rw [List.getElem?_append_right (by omega)] at hk
   have hk0:k - os.length = 0:=by
    have:=(List.getElem?_eq_some_iff.1 hk).1
    simp at this
    omega
   rw [hk0] at hk
   simp at hk
   subst hk
   have:k = n:=by omega
   subst this
   exact hq
theorem open_recsQ {α H:Type} {Q:DataW H->Prop} {enc:TypeId × Value->H} {W:World} {T E:TypeId} {n:Nat} {f:α->List Value} {P:α->Prop} (hu:Tryz.prog.underlying T = some (.slice E)) (hn:Tryz.prog.cellsOf E = n) (hn0:0 < n) (hfl:∀ o,(f o).length = n)
  (hone:∀ (fuel:Nat) (cs:List Value) (x:DataW H × List MemPlace),DataW.trod enc Tryz.prog W 0 (fun _=>true) true fuel E cs = some x->Q x.1->∃ o,cs = f o/\P o)
  {fuel:Nat} {c:Value} {y:DataW H × List MemPlace} (h:DataW.trod enc Tryz.prog W 0 (fun _=>true) true fuel T [c] = some y) (hQ:∀ l spare,y.1 = .slice l spare->∀ d ∈ l,Q d) :
  ∃ (g off:Nat) (os:List α),(∀ (k:Nat) (o:α),os[k]? = some o->P o)/\(os.length<=17592186044416->Recs n f W c g off os)/\((y.1 = .nil/\os = [])\/∃ l spare,y.1 = .slice l spare/\l.length = os.length):=by
 rcases Go.Deep.open_slice hu h with ⟨hcs,hx⟩ | ⟨a,len,cap,m,n',D,Pl,hcs,_,hl,hm,hmc,hx,hel⟩
 ·simp at hcs
  subst hcs
  exact ⟨0,0,[],fun k o hk=>by simp at hk,fun _=>⟨⟨none,0,rfl,fun h=>absurd rfl h⟩,by simp,fun k o hk=>by simp at hk⟩,.inl ⟨by rw [hx],rfl⟩⟩
 ·simp at hcs
  subst hcs
  simp only [if_true] at hmc
  rw [hn] at hel
  obtain ⟨b,off,spot⟩:=a
  have hone':∀ k,k < len->∃ (p:α),W.cells? 0 ((⟨b,off,spot⟩:Addr).add (k * n)) n = some (f p)/\P p:=by
   intro k hk
   obtain ⟨cs',hcs',ht⟩:=hel k (by omega)
   obtain ⟨p,rfl,hP⟩:=hone _ _ _ ht (hQ _ _ (by rw [hx]) _ (List.mem_map.2 ⟨k,List.mem_range.2 hk,rfl⟩))
   exact ⟨p,hcs',hP⟩
  obtain ⟨ps,hol,hps⟩:=choose7 len hone'
  have hspot:ps ≠ []->spot = none:=by
   intro hne
   obtain ⟨p,r,rfl⟩:=List.exists_cons_of_ne_nil hne
   have h0:=(World.cells?_some (hps 0 p rfl).1).2.2 0 hn0
   obtain ⟨u,hu0⟩:∃ u,(f p)[0]? = some u:=⟨(f p)[0]'(by rw [hfl]; exact hn0),List.getElem?_eq_getElem _⟩
   rw [hu0] at h0
   simpa [Addr.add] using World.cell?_spot h0
  refine ⟨b,off,ps,fun k o hk=>(hps k o hk).2,fun hle=>⟨⟨some ⟨b,off,spot⟩,cap,by rw [hol],fun hne=>by rw [hspot hne]⟩,hle,fun k p hk j u hj=>?_⟩,.inr ⟨_,_,by rw [hx],by simp [hol]⟩⟩
  have hne:ps ≠ []:=by rintro rfl; simp at hk
  obtain rfl:=hspot hne
  have hj3:j < n:=by have:=(List.getElem?_eq_some_iff.1 hj).1; rw [hfl] at this; exact this
  have h0:=(World.cells?_some (hps k p hk).1).2.2 j hj3
  rw [add_plain,add_plain] at h0
  exact h0.trans hj
theorem open_recsD {α H:Type} {Q:DataW H->Prop} {R:α->DataW H->Prop} {enc:TypeId × Value->H} {W:World} {T E:TypeId} {n:Nat} {f:α->List Value} {P:α->Prop} (hu:Tryz.prog.underlying T = some (.slice E)) (hn:Tryz.prog.cellsOf E = n) (hn0:0 < n) (hfl:∀ o,(f o).length = n)
  (hone:∀ (fuel:Nat) (cs:List Value) (x:DataW H × List MemPlace),DataW.trod enc Tryz.prog W 0 (fun _=>true) true fuel E cs = some x->Q x.1->∃ o,cs = f o/\P o/\R o x.1)
  {fuel:Nat} {c:Value} {y:DataW H × List MemPlace} (h:DataW.trod enc Tryz.prog W 0 (fun _=>true) true fuel T [c] = some y) (hQ:∀ l spare,y.1 = .slice l spare->∀ d ∈ l,Q d) :
  ∃ (g off:Nat) (os:List α),(∀ (k:Nat) (o:α),os[k]? = some o->P o)/\(os.length<=17592186044416->Recs n f W c g off os)/\((y.1 = .nil/\os = [])\/∃ l spare,y.1 = .slice l spare/\l.length = os.length/\∀ (k:Nat) (o:α) (d:DataW H),os[k]? = some o->l[k]? = some d->R o d):=by
 rcases Go.Deep.open_slice hu h with ⟨hcs,hx⟩ | ⟨a,len,cap,m,n',D,Pl,hcs,_,hl,hm,hmc,hx,hel⟩
 ·simp at hcs
  subst hcs
  exact ⟨0,0,[],fun k o hk=>by simp at hk,fun _=>⟨⟨none,0,rfl,fun h=>absurd rfl h⟩,by simp,fun k o hk=>by simp at hk⟩,.inl ⟨by rw [hx],rfl⟩⟩
 ·simp at hcs
  subst hcs
  simp only [if_true] at hmc
  rw [hn] at hel
  obtain ⟨b,off,spot⟩:=a
  have hone':∀ k,k < len->∃ (p:α),W.cells? 0 ((⟨b,off,spot⟩:Addr).add (k * n)) n = some (f p)/\P p/\R p (D k):=by
   intro k hk
   obtain ⟨cs',hcs',ht⟩:=hel k (by omega)
   obtain ⟨p,rfl,hP,hR⟩:=hone _ _ _ ht (hQ _ _ (by rw [hx]) _ (List.mem_map.2 ⟨k,List.mem_range.2 hk,rfl⟩))
   exact ⟨p,hcs',hP,hR⟩
  obtain ⟨ps,hol,hps⟩:=choose7 len hone'
  have hspot:ps ≠ []->spot = none:=by
   intro hne
   obtain ⟨p,r,rfl⟩:=List.exists_cons_of_ne_nil hne
   have h0:=(World.cells?_some (hps 0 p rfl).1).2.2 0 hn0
   obtain ⟨u,hu0⟩:∃ u,(f p)[0]? = some u:=⟨(f p)[0]'(by rw [hfl]; exact hn0),List.getElem?_eq_getElem _⟩
   rw [hu0] at h0
   simpa [Addr.add] using World.cell?_spot h0
  refine ⟨b,off,ps,fun k o hk=>(hps k o hk).2.1,fun hle=>⟨⟨some ⟨b,off,spot⟩,cap,by rw [hol],fun hne=>by rw [hspot hne]⟩,hle,fun k p hk j u hj=>?_⟩,.inr ⟨_,_,by rw [hx],by simp [hol],fun k o d hk hd=>?_⟩⟩
  ·have hne:ps ≠ []:=by rintro rfl; simp at hk
   obtain rfl:=hspot hne
   have hj3:j < n:=by have:=(List.getElem?_eq_some_iff.1 hj).1; rw [hfl] at this; exact this
   have h0:=(World.cells?_some (hps k p hk).1).2.2 j hj3
   rw [add_plain,add_plain] at h0
   exact h0.trans hj
  ·have hk2:k < len:=by have:=(List.getElem?_eq_some_iff.1 hk).1; omega
   rw [List.getElem?_map,List.getElem?_range hk2] at hd
   have e:D k = d:=Option.some.inj hd
   exact e ▸ (hps k o hk).2.2
def Reach {H:Type} (t:TypeId) (d:DataW H):Prop:=∀ n ∈ d.weights Tryz.prog t,n<=reachBytes
theorem weights_all {H:Type} {P:Program} {e:TypeId}:∀ {l:List (DataW H)} {d:DataW H},d ∈ l->∀ n ∈ d.weights P e,n ∈ DataW.weightsAll P e l
 | [],_,h,_,_=>by cases h
 | x :: r,d,h,n,hn=>by
  simp only [DataW.weightsAll,List.mem_append]
  rcases List.mem_cons.1 h with rfl | h
  ·exact .inl hn
  ·exact .inr (weights_all h n hn)
theorem Reach.each {H:Type} {ts:List TypeId} {ds:List (DataW H)} (h:(DataW.weightsEach Tryz.prog ts ds).all (·<=reachBytes) = true) {j:Nat} {t:TypeId} {d:DataW H} (ht:ts[j]? = some t) (hd:ds[j]? = some d):Reach t d:=fun n hn=>by
 have:=List.all_eq_true.1 h _ (DataW.weights_mem_each ht hd n hn)
 simpa using this
theorem Reach.slice {H:Type} {t e:TypeId} {l spare:List (DataW H)} (hu:Tryz.prog.underlying t = some (.slice e)) (h:Reach t (.slice l spare)):l.length * Tryz.prog.bytesOf e<=reachBytes/\∀ d ∈ l,Reach e d:=by
 unfold Reach at h
 simp only [DataW.weights,hu,List.mem_cons,List.mem_append] at h
 refine ⟨?_,fun d hd n hn=>h n (.inr (.inl (weights_all hd n hn)))⟩
 have:=h _ (.inl rfl)
 have h2:=Nat.mul_le_mul_right (Tryz.prog.bytesOf e) (Nat.le_add_right l.length spare.length)
 omega
theorem cellsStrT:Tryz.prog.cellsOf 9 = 1:=by kernel_rfl
theorem cellsOpB:Tryz.prog.cellsOf 87 = 3:=by kernel_rfl
theorem bytesOpB:Tryz.prog.bytesOf 87 = 40:=by kernel_rfl
theorem cellsBoolB:Tryz.prog.cellsOf 4 = 1:=by kernel_rfl
theorem op_of_trod {H:Type} {enc:TypeId × Value->H} {W:World} (fuel:Nat) (cs:List Value) (x:DataW H × List MemPlace) (hf:DataW.trod enc Tryz.prog W 0 (fun _=>true) true fuel 87 cs = some x) (_:Reach 87 x.1) :
  ∃ r:Bt.O,cs = opC r/\True/\r.key.length + r.val.length + 4<=Rows.uptoBulk x.1:=by
 obtain ⟨xs,n,_,hx,hcl,hxl,hel⟩:=DataW.trod_struct Tryz.underlying87 hf
 have hl:cs.length = 3:=by rw [hcl,cellsOpB]
 match cs,hl with
 | [c0,c1,c2],_ =>
 have hx2:xs.length = 3:=hxl
 match xs,hx2 with
 | [y0,y1,y2],_ =>
 have t0:DataW.trod enc Tryz.prog W 0 (fun _=>true) true n 4 (([c0,c1,c2].drop 0).take (Tryz.prog.cellsOf 4)) = some y0:=hel 0 _ rfl
 have t1:DataW.trod enc Tryz.prog W 0 (fun _=>true) true n 9 (([c0,c1,c2].drop 1).take (Tryz.prog.cellsOf 9)) = some y1:=hel 1 _ rfl
 have t2:DataW.trod enc Tryz.prog W 0 (fun _=>true) true n 9 (([c0,c1,c2].drop 2).take (Tryz.prog.cellsOf 9)) = some y2:=hel 2 _ rfl
 rw [cellsStrT] at t1 t2
 rw [cellsBoolB] at t0
 simp only [List.drop_zero,List.drop_succ_cons,List.take_succ_cons,List.take_zero] at t0 t1 t2
 obtain ⟨z0,e0,rfl⟩:=DataW.trod_bool Tryz.underlying4 t0
 obtain ⟨z1,e1,rfl,_⟩:=DataW.trod_string Tryz.underlying9 t1
 obtain ⟨z2,e2,rfl,_⟩:=DataW.trod_string Tryz.underlying9 t2
 simp only [List.cons.injEq,and_true] at e0 e1 e2
 subst e0 e1 e2
 refine ⟨⟨z0,z1.data.toList,z2.data.toList⟩,by simp [opC,strV],trivial,?_⟩
 rw [hx]
 simp only [List.map_cons,List.map_nil,Rows.uptoBulk,Rows.uptoBulkAll]
 omega
theorem wt_bulk {H:Type}:∀ (ops:List Bt.O) (l:List (DataW H)),l.length = ops.length->(∀ (k:Nat) (o:Bt.O) (d:DataW H),ops[k]? = some o->l[k]? = some d->o.key.length + o.val.length + 4<=Rows.uptoBulk d)->Bt.wt ops<=Rows.uptoBulkAll l
 | [],_,_,_=>Nat.zero_le _
 | r :: ops,[],h,_=>by simp at h
 | r :: ops,d :: l,h,hk=>by
  have ih:=wt_bulk ops l (by simpa using h) (fun k o d h1 h2=>hk (k + 1) o d (by simpa using h1) (by simpa using h2))
  have h0:=hk 0 r d rfl rfl
  rw [Bt.wt_cons]
  simp only [Rows.uptoBulkAll]
  omega
theorem ops12_of_trod {H:Type} {enc:TypeId × Value->H} {W:World} {fuel:Nat} {c:Value} {y:DataW H × List MemPlace} (h:DataW.trod enc Tryz.prog W 0 (fun _=>true) true fuel 38 [c] = some y) (hw:Reach 38 y.1) :
  ∃ (g off:Nat) (ops:List Bt.O),OpsIn W c g off ops/\Bt.wt ops<=Rows.uptoBulk y.1:=by
 obtain ⟨g,off,os,h1,h2,h3⟩:=open_recsD (Q:=Reach 87) (f:=opC) (R:=fun o d=>o.key.length + o.val.length + 4<=Rows.uptoBulk d) (P:=fun _=>True) Tryz.underlying38 cellsOpB (by decide) (fun _=>rfl) op_of_trod h (fun l spare e=>by rw [e] at hw; exact (hw.slice Tryz.underlying38).2)
 refine ⟨g,off,os,h2 ?_,?_⟩
 ·rcases h3 with ⟨_,rfl⟩ | ⟨l,spare,e,hl,_⟩
  ·simp
  ·rw [e] at hw
   have:=(hw.slice Tryz.underlying38).1
   rw [bytesOpB,hl] at this
   unfold reachBytes at this
   omega
 ·rcases h3 with ⟨_,rfl⟩ | ⟨l,spare,e,hl,hR⟩
  ·exact Nat.zero_le _
  ·have:=wt_bulk os l hl hR
   rw [e]
   simp only [Rows.uptoBulk]
   omega
end Go.Proofs.YthjjfjhajadimaaGreatDoor
