/-
  Joined: OBeg, OBeh, BMix, BNewO, BSortP, BMap.
-/
import Derived.Test.YthjjfjhajadimaaGreatDoorP28
import Derived.Shelf.SlSortCmp.NoneTotal
import Derived.Lib.Bytealg
import Derived.Maps.RangeWalk
import Derived.Maps.OwnOps
import Derived.Maps.OwnSet
import Derived.Maps.Ext
namespace Go.Proofs.YthjjfjhajadimaaGreatDoor
open Go.RowKit Go.WideShapes
set_option maxRecDepth 100000
def BegTo (n0:Nat) (ad:Nat->Addr) (w:World) (b:Nat) (v:Nat) (r:Nat × DS) (S:Nat->Prop) (e:Ending) (w':World):Prop :=
 ∃ S',DkTo n0 ad w b r.2 S w' S'/\if r.1 = 0 then ∃ q,e = .returned (.tuple #[.agg #[.int .i64 (v:Int),.pointer (some ⟨q,0,none⟩)],.nilIface])/\CJ w' q b (So.logOf r.2 v)/\w.heap.size<=q/\¬ S' q
  else e = .returned (.tuple #[.agg #[.int .i64 0,.pointer none],errV ad r.1])
theorem most_room {l:List Tb.R} {n:Nat} (hn:n<=65536) (h:So.size l<=So.room n):(∀ x ∈ l,(So.rowB x).length * l.length<=35184372088832)/\(So.rowsB l).length<=5111574:=by
 have h1:=So.size_len l
 have h2:=So.size_eq l
 have h3:So.room n<=5111574:=by unfold So.room So.each; omega
 refine ⟨fun x hx=>?_,by omega⟩
 have h4:(So.rowB x).length<=5111574:=by
  have:=So.row_rowsB hx
  omega
 have h5:l.length<=5111574:=by omega
 exact Nat.le_trans (Nat.mul_le_mul h4 h5) (by decide)
theorem may_log {n v:Nat} {d:DS} (h64:64<=n) (hl:d.dur.length = n) (hm:n<=65536) (hv1:1<=v) (hv2:v<=1099511627776):J.may d (So.logAt n) (So.many n) v:=by
 have h1:=So.log_in h64
 exact ⟨by omega,by omega,by omega,by omega,by omega,by omega,by omega⟩
def LayS (L b ea lg mn:Nat) (W:World):Prop:=W.cell? ⟨L,0,none⟩ = some (.pointer (some ⟨b,0,none⟩))/\W.cell? ⟨L,1,none⟩ = some (.int .i64 2)/\W.cell? ⟨L,2,none⟩ = some (.int .i64 (2 + (ea:Int)))/\W.cell? ⟨L,3,none⟩ = some (.int .i64 (ea:Int))/\W.cell? ⟨L,4,none⟩ = some (.int .i64 (lg:Int))/\W.cell? ⟨L,5,none⟩ = some (.int .i64 (mn:Int))
theorem LayS.of {L b ea lg mn:Nat} {W:World} {ty:TypeId} (h:Bk W L ty [.pointer (some ⟨b,0,none⟩),.int .i64 2,.int .i64 (2 + (ea:Int)),.int .i64 (ea:Int),.int .i64 (lg:Int),.int .i64 (mn:Int)]):LayS L b ea lg mn W :=
 ⟨h.cell 0 _ rfl,h.cell 1 _ rfl,h.cell 2 _ rfl,h.cell 3 _ rfl,h.cell 4 _ rfl,h.cell 5 _ rfl⟩
theorem beg_err {n0:Nat} {ad:Nat->Addr} {w w':World} {b v:Nat} {r0 r:Nat × DS} {S S':Nat->Prop} {ev:Value} (hr:r0 = r) (hne:r.1 ≠ 0) (he:errV ad r.1 = ev) (h:DkTo n0 ad w b r.2 S w' S'):BegTo n0 ad w b v r0 S (.returned (.tuple #[.agg #[.int .i64 0,.pointer none],ev])) w':=by
 subst hr
 subst he
 exact ⟨S',h,by rw [if_neg hne]⟩
theorem beg_ok {n0:Nat} {ad:Nat->Addr} {w w':World} {b v q:Nat} {r0:Nat × DS} {d5:DS} {S S':Nat->Prop} (hr:r0 = (0,d5)) (h:DkTo n0 ad w b d5 S w' S') (hc:CJ w' q b (So.logOf d5 v)) (hq:w.heap.size<=q) (hs:¬ S' q):BegTo n0 ad w b v r0 S (.returned (.tuple #[.agg #[.int .i64 (v:Int),.pointer (some ⟨q,0,none⟩)],.nilIface])) w':=by
 subst hr
 exact ⟨S',h,by rw [if_pos rfl]; exact ⟨q,rfl,hc,hq,hs⟩⟩
set_option maxHeartbeats 8000000 in
theorem begin13_any {n0:Nat} {ad:Nat->Addr} {w:World} {b t v:Nat} {d:DS} {S A:Nat->Prop} {l:List Tb.R} (h:Dk n0 ad w b d S) (hf:d.FewS) (h64:64<=d.dur.length) (hT:Tbl w t l A) (hs:So.size l<=So.room d.dur.length) (hv1:1<=v) (hv2:v<=1099511627776) :
  Calls Tryz.prog 74 #[layV b d.dur.length,.int .i64 (v:Int),contV t (So.rowsB l).length] w (BegTo n0 ad w b v (So.make d l v) S):=by
 obtain ⟨n,hn⟩:∃ n,d.dur.length = n:=⟨_,rfl⟩
 have hmax:n<=65536:=hn ▸ h.len
 have HD:=Lib.hid h
 have HF:=Lib.hid hf
 have HN0:=Lib.hid (show n0<=w.heap.size + 1 + 1 from by have:=h.base; omega)
 have HM:=Lib.hid (So.make_ends (d:=d) (rows:=l) (v:=v) h64 h.len hs hv1 hv2)
 have HS:=Lib.hid hs
 obtain ⟨hm1,hm2⟩:=most_room h.len hs
 have SN:=Lib.hid (fun W (q:Qt w W)=>snap13_any (l:=l) (So.rowsB l).length W (hT.qt q) hm1)
 rw [hn] at h64 ⊢
 have h64':=h64
 obtain ⟨s,hsn⟩:∃ s:ByteArray,strV (So.snapB l) = .string s/\s.data.toList = So.snapB l:=⟨⟨(So.snapB l).toArray⟩,rfl,rfl⟩
 obtain ⟨hs1,hs2⟩:=hsn
 have hss:s.size = So.size l:=by have e:s.size = s.data.toList.length:=rfl; rw [e,hs2]; rfl
 rw [hs1] at SN
 have hea:So.each n<=65536:=by unfold So.each; omega
 have hsz:So.size l<=5111574:=by have h3:So.room n<=5111574:=(by unfold So.room So.each; omega); have:=HS.out; rw [hn] at this; omega
 have wv:IntKind.u64.wrap (v:Int) = (v:Int):=by rw [IntKind.wrap_u64]; omega
 obtain ⟨k0,hk0⟩:∃ k,(So.rowsB l).length = k:=⟨_,rfl⟩
 rw [hk0] at SN ⊢
 have AO:=Lib.hid (fun W=>areaOf13_any b n v hv2 W)
 -- the boxes
 obtain ⟨W,hW,q0,bL,bC,bR,hz⟩:∃ W,((w.alloc (.cells (layCells b n) 135)).alloc (.cells #[ptrV t,.int .i64 (k0:Int)] 132)).alloc (.cells #[.int .i64 0,.pointer none] 138) = W/\Qt w W/\Bk W w.heap.size 135 (layCells b n).toList/\Bk W (w.heap.size + 1) 132 [ptrV t,.int .i64 (k0:Int)]/\Bk W (w.heap.size + 1 + 1) 138 [.int .i64 0,.pointer none]/\W.heap.size = w.heap.size + 3 :=
  ⟨_,rfl,(((Qt.refl w).alloc _).alloc _).alloc _,((Bk.new w _ _).alloc _).alloc _,
   by have h:=(Bk.new (w.alloc (.cells (layCells b n) 135)) 132 #[ptrV t,.int .i64 (k0:Int)]).alloc (.cells #[.int .i64 0,.pointer none] 138); rwa [World.size_alloc] at h,
   by have h:=Bk.new ((w.alloc (.cells (layCells b n) 135)).alloc (.cells #[ptrV t,.int .i64 (k0:Int)] 132)) 138 #[.int .i64 0,.pointer none]; rwa [World.size_alloc,World.size_alloc] at h,by simp⟩
 have Q0:=Lib.hid q0
 have BL:=Lib.hid bL
 have BC:=Lib.hid bC
 have BR:=Lib.hid bR
 have HZ:=Lib.hid hz
 have p0:=bC.cell 0 _ rfl
 have p1:=bC.cell 1 _ rfl
 unfold contV
 unfold layV at *
 unfold layCells at *
 have HSS:=Lib.hid hss
 clear hT h bL bC bR q0 hz hsz hk0 hm1 hm2 hs hf hss
 generalize hE:So.each n = ea at *
 generalize hLg:So.logAt n = lg at *
 generalize hMn:So.many n = mn at *
 go_enter Tryz.func74,Tryz.ntmps74
 go_wp2_with fail
 refine (SN.out _ Q0.out).mono ?_
 rintro e w1 ⟨rfl,q1⟩
 have D1:=HD.out.qt (Qt.trans Q0.out q1)
 have bL1:=BL.out.qt q1
 have bR1:=BR.out.qt q1
 have hz1:=q1.size
 have hz0:=HZ.out
 have hout:∀ (B:Nat),w.heap.size<=B->¬ S B:=fun B hB e=>by have:=HD.out.lt B e; omega
 obtain ⟨a,ha⟩:∃ a,d.areaW ((So.areaAt n v:Nat):Int) (ea:Int) v (So.snapB l) = a:=⟨_,rfl⟩
 have AW:=Lib.hid (fun W' (q:Qt w1 W')=>by
  have k:=dk_awrite (D1.qt q) (So.Ran.fewA (So.Ran.refl d) HF.out (by omega) (by omega)) ((So.areaAt n v:Nat):Int) (ea:Int) v s (by omega) (by omega)
  rw [hs2,ha] at k
  exact k)
 have MK:=Lib.hid (show So.make d l v = if a.1 ≠ 0 then a else (a.2.slotsE 0 v (So.slotVal n (So.size l)),a.2.slotsD 0 v (So.slotVal n (So.size l))) by
  unfold So.make
  simp only
  rw [hn,hE,ha])
 have RA:=Lib.hid (show So.Ran 65536 1 d a.2 from ha ▸ So.Ran.areaW d _ _ _ _)
 have BL1:=Lib.hid bL1
 have BR1:=Lib.hid bR1
 have HO:=Lib.hid hout
 have L0:=bL1.cell 0 _ rfl
 have L1:=bL1.cell 1 _ rfl
 have L2:=bL1.cell 2 _ rfl
 have L3:=bL1.cell 3 _ rfl
 have L4:=bL1.cell 4 _ rfl
 have L5:=bL1.cell 5 _ rfl
 have KP2:=Lib.hid (fun W' (q:Qt w1 W')=>LayS.of ((BL1.out).qt q))
 have KW2:=Lib.hid (fun W0 W' S' (q:Qt w1 W0) (k:DkTo n0 ad W0 b a.2 S W' S')=>LayS.of ((BL1.out.qt q).kept k.keeps (HO.out _ (Nat.le_refl _))))
 have Q1:=Lib.hid q1
 clear q1 bL1 bR1 hz1 hz0 hout D1 ha hW
 by_cases z1:a.1 = 0
 ·rw [z1] at AW
  rw [errV_zero] at AW
  have Z1:=Lib.hid z1
  clear z1
  go_wp2_with fail
  go_region_held3 (fun W=>W.cell? ⟨w.heap.size,0,none⟩ = some (.pointer (some ⟨b,0,none⟩))/\W.cell? ⟨w.heap.size,1,none⟩ = some (.int .i64 2)/\W.cell? ⟨w.heap.size,2,none⟩ = some (.int .i64 (2 + (ea:Int)))/\W.cell? ⟨w.heap.size,3,none⟩ = some (.int .i64 (ea:Int))/\W.cell? ⟨w.heap.size,4,none⟩ = some (.int .i64 (lg:Int))/\W.cell? ⟨w.heap.size,5,none⟩ = some (.int .i64 (mn:Int)))
   (first | exact KP2.out _ (Keeps.drew (Qt.refl w1)) | exact KP2.out _ q2 | exact KW2.out _ _ _ q2 d3)
   (first
    | (go_at_call 122; refine (AO.out _).mono ?_; rintro e w2 ⟨rfl,hw2⟩; have q2:Qt w1 w2:=hw2 ▸ (Keeps.drew (Qt.refl w1)).alloc _; clear hw2)
    | (go_at_call 121; refine (AW.out _ q2).mono ?_; rintro e w3 ⟨rfl,d3⟩))
  have D3:=d3.dk
  have bL3:=(BL1.out.qt q2).kept d3.keeps (HO.out _ (Nat.le_refl _))
  have bR3:=(BR1.out.qt q2).kept d3.keeps (HO.out _ (by omega))
  have T3:=Lib.hid (DkTo.trans (HD.out.quiet (Qt.trans (Qt.trans Q0.out Q1.out) q2)) d3)
  have hlen:a.2.dur.length = n:=RA.out.len.trans hn
  have hS3:∀ k,Grow S w2 w3 k->S k\/w2.heap.size<=k:=d3.all
  have z2s:=q2.size
  have z1s:=Q1.out.size
  have z0s:=HZ.out
  have N3:=Lib.hid (show ¬ Grow S w2 w3 w.heap.size/\¬ Grow S w2 w3 (w.heap.size + 1 + 1) from ⟨fun e=>by rcases hS3 _ e with e | e; exact HO.out _ (Nat.le_refl _) e; omega,fun e=>by rcases hS3 _ e with e | e; exact HO.out _ (by omega) e; omega⟩)
  generalize hS3e:Grow S w2 w3 = S3 at *
  have SV:=Lib.hid (fun W (q:Qt w3 W)=>by
   have k:=slotValue13_any (So.size l) (by have h3:So.room n<=5111574:=(by unfold So.room So.each; omega); have:=HS.out; rw [hn] at this; omega) W (D3.qt q).disk
   unfold layV at k
   rw [hlen,hE,hLg,hMn,<- HSS.out] at k
   exact k)
  obtain ⟨p,hp,hpl⟩:∃ p:ByteArray,(⟨(So.slotVal n s.size).toArray⟩:ByteArray) = p/\p.data.toList = So.slotVal n (So.size l):=⟨_,rfl,by rw [HSS.out]⟩
  rw [hp] at SV
  obtain ⟨x2,hx2⟩:∃ x,a.2.slotsE 0 v (So.slotVal n (So.size l)) = x:=⟨_,rfl⟩
  obtain ⟨d5,hd5⟩:∃ x,a.2.slotsD 0 v (So.slotVal n (So.size l)) = x:=⟨_,rfl⟩
  have SW:=Lib.hid (fun W (q:Qt w3 W)=>by
   have k:=dk_swrite (D3.qt q) (DS.FewA.fewer (So.Ran.fewA RA.out HF.out (by omega) (by omega))) 0 (v:Int) (by omega) (by omega) p
   rw [hpl,hx2,hd5] at k
   exact k)
  have R5:=Lib.hid (show So.Ran 1 1 a.2 d5 from hd5 ▸ So.Ran.slotsD a.2 0 v _)
  have MK2:=Lib.hid (show So.make d l v = (x2,d5) by rw [MK.out,if_neg (by rw [Z1.out]; simp),hx2,hd5])
  have BL3:=Lib.hid bL3
  have BR3:=Lib.hid bR3
  have M0:=bL3.cell 0 _ rfl
  have M1:=bL3.cell 1 _ rfl
  have M2:=bL3.cell 2 _ rfl
  have M3:=bL3.cell 3 _ rfl
  have M4:=bL3.cell 4 _ rfl
  have M5:=bL3.cell 5 _ rfl
  have KP5:=Lib.hid (fun W' (q:Qt w3 W')=>LayS.of (BL3.out.qt q))
  have KW5:=Lib.hid (fun W0 W' S' (q:Qt w3 W0) (k:DkTo n0 ad W0 b d5 S3 W' S')=>LayS.of ((BL3.out.qt q).kept k.keeps N3.out.1))
  have HLEN:=Lib.hid hlen
  have D3H:=Lib.hid D3
  clear d3 D3 bL3 bR3 hS3 z2s z1s z0s hS3e hp hpl hx2 hd5 hlen L0 L1 L2 L3 L4 L5 q2
  cases x2 with
  | zero =>
   rw [errV_zero] at SW
   go_wp2_with fail
   go_region_held3 (fun W=>W.cell? ⟨w.heap.size,0,none⟩ = some (.pointer (some ⟨b,0,none⟩))/\W.cell? ⟨w.heap.size,1,none⟩ = some (.int .i64 2)/\W.cell? ⟨w.heap.size,2,none⟩ = some (.int .i64 (2 + (ea:Int)))/\W.cell? ⟨w.heap.size,3,none⟩ = some (.int .i64 (ea:Int))/\W.cell? ⟨w.heap.size,4,none⟩ = some (.int .i64 (lg:Int))/\W.cell? ⟨w.heap.size,5,none⟩ = some (.int .i64 (mn:Int)))
    (first | exact KP5.out _ (Keeps.drew (Qt.refl w3)) | exact KP5.out _ q4 | exact KW5.out _ _ _ q4 d5k)
    (first
     | (go_at_call 124; refine (SV.out _ (Keeps.drew (Qt.refl w3))).mono ?_; rintro e w4 ⟨rfl,q⟩; have q4:Qt w3 w4:=Qt.trans (Keeps.drew (Qt.refl w3)) q; clear q)
     | (go_at_call 123; refine (SW.out _ q4).mono ?_; rintro e w5 ⟨rfl,d5k⟩))
   have T5:=Lib.hid (DkTo.trans (T3.out.trans (D3H.out.quiet q4)) d5k)
   have bL5:=(BL3.out.qt q4).kept d5k.keeps N3.out.1
   have bR5:=(BR3.out.qt q4).kept d5k.keeps N3.out.2
   have hlR:=(BR3.out.qt q4).lt
   have N5:=Lib.hid (show ¬ Grow S3 w4 w5 (w.heap.size + 1 + 1) from fun e=>by
    rcases e with e | e
    ·exact N3.out.2 e
    ·omega)
   generalize hS5e:Grow S3 w4 w5 = S5 at *
   have O0:=bL5.cell 0 _ rfl
   have O4:=bL5.cell 4 _ rfl
   have O5:=bL5.cell 5 _ rfl
   have hl5:d5.dur.length = n:=R5.out.len.trans HLEN.out
   have hoff:d5.off = false:=by
    rcases HM.out with h | h
    ·have h2:=h.2
     rw [MK2.out] at h2
     exact h2
    ·have h1:=h.1
     rw [MK2.out] at h1
     cases h1
   have hmay:J.refE d5 (lg:Int) (mn:Int) (v:Int) = 0:=refE_yes (by rw [<- hLg,<- hMn]; exact may_log h64' hl5 (by have:=hl5; have:=T5.out.dk.len; omega) hv1 hv2) hoff
   have JB:=dk_jbegin T5.out.dk (lg:Int) (mn:Int) (v:Int) (by rw [<- hMn]; unfold So.many; omega)
   have HMAY:=Lib.hid hmay
   have HJL:=Lib.hid (show (⟨(lg:Int).toNat,(mn:Int).toNat,(v:Int).toNat,0,false,d5.cr⟩:J.JS) = So.logOf d5 v by unfold So.logOf; rw [hl5,hLg,hMn]; simp)
   have BR5:=Lib.hid bR5
   have HSZ5:=Lib.hid (show w.heap.size + 1 + 1 < w5.heap.size from bR5.lt)
   clear d5k bL5 bR5 hl5 hoff hmay q4 SV SW hlR hS5e
   go_wp2_with fail
   refine JB.mono ?_
   rintro e w6 ⟨q6,hif⟩
   rw [if_pos HMAY.out] at hif
   obtain ⟨q,hq,rfl,cj⟩:=hif
   rw [HJL.out] at cj
   have b6:=BR5.out.qt q6
   have r0:=b6.cell 0 _ rfl
   have r1:=b6.cell 1 _ rfl
   have s0:=b6.frozen 0
   have s1:=b6.frozen 1
   have B6:=Lib.hid b6
   have NEQ:=Lib.hid (show ¬ q = w.heap.size + 1 + 1 from fun e=>by have:=HSZ5.out; omega)
   have NRX:=N5
   have TX:=Lib.hid (T5.out.qt q6)
   have CQ:=Lib.hid (CJ.kept (CJ.kept cj (keeps_set w6 (w.heap.size + 1 + 1) 0 (.int .i64 (v:Int))) NEQ.out) (keeps_set _ (w.heap.size + 1 + 1) 1 (.pointer (some ⟨q,0,none⟩))) NEQ.out)
   have HQW:=Lib.hid (show w.heap.size<=q from by have:=HSZ5.out; omega)
   have HQS:=Lib.hid (show ¬ S5 q from fun e=>by have:=T5.out.dk.lt q e; omega)
   clear b6 cj hq q6 JB
   go_wp2
   exact bodyPost_ret (results_log (p:=6) (u:=7) (by kernel_rfl) _ _ (w.heap.size + 1 + 1) _ _ rfl ((B6.out.set 0 (.int .i64 (v:Int))).set 1 (.pointer (some ⟨q,0,none⟩)))) rfl (beg_ok MK2.out ((TX.out.box HN0.out (by omega) NRX.out 0 (.int .i64 (v:Int))).box HN0.out (by omega) NRX.out 1 (.pointer (some ⟨q,0,none⟩))) CQ.out HQW.out HQS.out)
  | succ x =>
   rw [errV_pos ad (Nat.succ_pos x)] at SW
   go_wp2_with fail
   go_region_held3 (fun W=>W.cell? ⟨w.heap.size,0,none⟩ = some (.pointer (some ⟨b,0,none⟩))/\W.cell? ⟨w.heap.size,1,none⟩ = some (.int .i64 2)/\W.cell? ⟨w.heap.size,2,none⟩ = some (.int .i64 (2 + (ea:Int)))/\W.cell? ⟨w.heap.size,3,none⟩ = some (.int .i64 (ea:Int))/\W.cell? ⟨w.heap.size,4,none⟩ = some (.int .i64 (lg:Int))/\W.cell? ⟨w.heap.size,5,none⟩ = some (.int .i64 (mn:Int)))
    (first | exact KP5.out _ (Keeps.drew (Qt.refl w3)) | exact KP5.out _ q4 | exact KW5.out _ _ _ q4 d5k)
    (first
     | (go_at_call 124; refine (SV.out _ (Keeps.drew (Qt.refl w3))).mono ?_; rintro e w4 ⟨rfl,q⟩; have q4:Qt w3 w4:=Qt.trans (Keeps.drew (Qt.refl w3)) q; clear q)
     | (go_at_call 123; refine (SW.out _ q4).mono ?_; rintro e w5 ⟨rfl,d5k⟩))
   have T5:=Lib.hid (DkTo.trans (T3.out.trans (D3H.out.quiet q4)) d5k)
   have bL5:=(BL3.out.qt q4).kept d5k.keeps N3.out.1
   have bR5:=(BR3.out.qt q4).kept d5k.keeps N3.out.2
   have hlR:=(BR3.out.qt q4).lt
   have N5:=Lib.hid (show ¬ Grow S3 w4 w5 (w.heap.size + 1 + 1) from fun e=>by
    rcases e with e | e
    ·exact N3.out.2 e
    ·omega)
   generalize hS5e:Grow S3 w4 w5 = S5 at *
   have bRx:=bR5
   have TX:=T5
   have NRX:=N5
   have HMX:=MK2
   have HNZ:=Lib.hid (show (x + 1,d5).1 ≠ 0 from Nat.succ_ne_zero x)
   have EVX:=Lib.hid (show errV ad (x + 1,d5).1 = .iface 335 (.pointer (some (ad (x + 1)))) from errV_pos ad (Nat.succ_pos x))
   clear d5k bL5 bR5 q4 SV SW hlR hS5e
   have B6:=Lib.hid bRx
   have r0:=bRx.cell 0 _ rfl
   have r1:=bRx.cell 1 _ rfl
   have s0:=bRx.frozen 0
   have s1:=bRx.frozen 1
   clear bRx
   go_wp2
   exact bodyPost_ret (results_log (p:=6) (u:=7) (by kernel_rfl) _ _ (w.heap.size + 1 + 1) _ _ rfl ((B6.out.set 0 (.int .i64 0)).set 1 (.pointer none))) rfl (beg_err HMX.out HNZ.out EVX.out ((TX.out.box HN0.out (by omega) NRX.out 0 (.int .i64 0)).box HN0.out (by omega) NRX.out 1 (.pointer none)))
 ·have AW2:=AW
  rw [errV_pos ad (Nat.pos_of_ne_zero z1)] at AW
  clear AW2
  have HNZ:=Lib.hid z1
  have EVX:=Lib.hid (errV_pos ad (Nat.pos_of_ne_zero z1))
  have HMX:=Lib.hid (show So.make d l v = a by rw [MK.out,if_pos z1])
  clear z1
  go_wp2_with fail
  go_region_held3 (fun W=>W.cell? ⟨w.heap.size,0,none⟩ = some (.pointer (some ⟨b,0,none⟩))/\W.cell? ⟨w.heap.size,1,none⟩ = some (.int .i64 2)/\W.cell? ⟨w.heap.size,2,none⟩ = some (.int .i64 (2 + (ea:Int)))/\W.cell? ⟨w.heap.size,3,none⟩ = some (.int .i64 (ea:Int))/\W.cell? ⟨w.heap.size,4,none⟩ = some (.int .i64 (lg:Int))/\W.cell? ⟨w.heap.size,5,none⟩ = some (.int .i64 (mn:Int)))
   (first | exact KP2.out _ (Keeps.drew (Qt.refl w1)) | exact KP2.out _ q2 | exact KW2.out _ _ _ q2 d3)
   (first
    | (go_at_call 122; refine (AO.out _).mono ?_; rintro e w2 ⟨rfl,hw2⟩; have q2:Qt w1 w2:=hw2 ▸ (Keeps.drew (Qt.refl w1)).alloc _; clear hw2)
    | (go_at_call 121; refine (AW.out _ q2).mono ?_; rintro e w3 ⟨rfl,d3⟩))
  have bRx:=(BR1.out.qt q2).kept d3.keeps (HO.out _ (by omega))
  have hlR:=(BR1.out.qt q2).lt
  have TX:=Lib.hid (DkTo.trans (HD.out.quiet (Qt.trans (Qt.trans Q0.out Q1.out) q2)) d3)
  have NRX:=Lib.hid (show ¬ Grow S w2 w3 (w.heap.size + 1 + 1) from fun e=>by
   rcases e with e | e
   ·exact HO.out _ (by omega) e
   ·omega)
  clear d3 q2 hlR
  have B6:=Lib.hid bRx
  have r0:=bRx.cell 0 _ rfl
  have r1:=bRx.cell 1 _ rfl
  have s0:=bRx.frozen 0
  have s1:=bRx.frozen 1
  clear bRx
  go_wp2
  exact bodyPost_ret (results_log (p:=6) (u:=7) (by kernel_rfl) _ _ (w.heap.size + 1 + 1) _ _ rfl ((B6.out.set 0 (.int .i64 0)).set 1 (.pointer none))) rfl (beg_err HMX.out HNZ.out EVX.out ((TX.out.box HN0.out (by omega) NRX.out 0 (.int .i64 0)).box HN0.out (by omega) NRX.out 1 (.pointer none)))
def So.nextR (d:DS) (l:List Tb.R) (v:Nat):Nat × DS:=if 1099511627776<=v then (16,d) else So.make d l (v + 1)
set_option maxHeartbeats 8000000 in
theorem behind13_any {n0:Nat} {ad:Nat->Addr} {w:World} {b t v:Nat} {d:DS} {S A:Nat->Prop} {l:List Tb.R} (h:Dk n0 ad w b d S) (hf:d.FewS) (h64:64<=d.dur.length) (hT:Tbl w t l A) (hs:So.size l<=So.room d.dur.length) (hv2:v<=1099511627776) :
  Calls Tryz.prog 85 #[layV b d.dur.length,.int .i64 (v:Int),contV t (So.rowsB l).length] w (BegTo n0 ad w b (v + 1) (So.nextR d l v) S):=by
 have HD:=Lib.hid h
 have HN0:=Lib.hid (show n0<=w.heap.size + 1 + 1 from by have:=h.base; omega)
 have HO:=Lib.hid (show ∀ (B:Nat),w.heap.size<=B->¬ S B from fun B hB e=>by have:=h.lt B e; omega)
 obtain ⟨k0,hk0⟩:∃ k,(So.rowsB l).length = k:=⟨_,rfl⟩
 have BG:=Lib.hid (fun W (q:Qt w W) (hv:v + 1<=1099511627776)=>begin13_any (v:=v + 1) (h.qt q) hf h64 (hT.qt q) hs (by omega) hv)
 rw [hk0] at BG ⊢
 obtain ⟨n,hn⟩:∃ n,d.dur.length = n:=⟨_,rfl⟩
 rw [hn] at BG ⊢
 obtain ⟨W,hW,q0,bL,bC,bR,hz⟩:∃ W,((w.alloc (.cells (layCells b n) 135)).alloc (.cells #[ptrV t,.int .i64 (k0:Int)] 132)).alloc (.cells #[.int .i64 0,.pointer none] 138) = W/\Qt w W/\Bk W w.heap.size 135 (layCells b n).toList/\Bk W (w.heap.size + 1) 132 [ptrV t,.int .i64 (k0:Int)]/\Bk W (w.heap.size + 1 + 1) 138 [.int .i64 0,.pointer none]/\W.heap.size = w.heap.size + 3 :=
  ⟨_,rfl,(((Qt.refl w).alloc _).alloc _).alloc _,((Bk.new w _ _).alloc _).alloc _,
   by have h:=(Bk.new (w.alloc (.cells (layCells b n) 135)) 132 #[ptrV t,.int .i64 (k0:Int)]).alloc (.cells #[.int .i64 0,.pointer none] 138); rwa [World.size_alloc] at h,
   by have h:=Bk.new ((w.alloc (.cells (layCells b n) 135)).alloc (.cells #[ptrV t,.int .i64 (k0:Int)] 132)) 138 #[.int .i64 0,.pointer none]; rwa [World.size_alloc,World.size_alloc] at h,by simp⟩
 have Q0:=Lib.hid q0
 have BR:=Lib.hid bR
 have HZ:=Lib.hid hz
 have p0:=bC.cell 0 _ rfl
 have p1:=bC.cell 1 _ rfl
 have L0:=bL.cell 0 _ rfl
 have L1:=bL.cell 1 _ rfl
 have L2:=bL.cell 2 _ rfl
 have L3:=bL.cell 3 _ rfl
 have L4:=bL.cell 4 _ rfl
 have L5:=bL.cell 5 _ rfl
 have c16:W.cell? ⟨18,0,none⟩ = some (.iface 335 (.pointer (some (ad 16)))):=(h.qt q0).errs.cells 15 _ rfl
 have r0:=bR.cell 0 _ rfl
 have r1:=bR.cell 1 _ rfl
 have s0:=bR.frozen 0
 have s1:=bR.frozen 1
 unfold contV at *
 unfold layV at *
 unfold layCells at *
 clear hT h bL bC bR q0 hz hk0 hs hf
 generalize hE:So.each n = ea at *
 generalize hLg:So.logAt n = lg at *
 generalize hMn:So.many n = mn at *
 by_cases hv:1099511627776<=v
 ·have NX:=Lib.hid (show So.nextR d l v = (16,d) from if_pos hv)
  have y:decide ((1099511627776:Int)<=(v:Int)) = true:=decide_eq_true (by omega)
  have y':decide (1099511627776<=v) = true:=decide_eq_true hv
  clear hv hv2
  have c16d:W.drew.cell? ⟨18,0,none⟩ = some (.iface 335 (.pointer (some (ad 16)))):=c16
  have r0d:W.drew.cell? ⟨w.heap.size + 1 + 1,0,none⟩ = some (.int .i64 0):=r0
  have r1d:W.drew.cell? ⟨w.heap.size + 1 + 1,1,none⟩ = some (.pointer none):=r1
  have s0d:W.drew.frozen? ⟨w.heap.size + 1 + 1,0,none⟩ = false:=s0
  have s1d:W.drew.frozen? ⟨w.heap.size + 1 + 1,1,none⟩ = false:=s1
  go_enter Tryz.func85,Tryz.ntmps85
  have hcE:18 < n0:=HD.out.vars _ (by decide)
  have CE:=Lib.hid (fun W' (k:Keeps (fun k=>k = w.heap.size + 1 + 1) W W')=>(show W'.cell? ⟨18,0,none⟩ = some (.iface 335 (.pointer (some (ad 16)))) from k.cellv c16 (fun e=>by have h1:18 = w.heap.size + 1 + 1:=e; have:=HN0.out; omega)))
  have BRD:=Lib.hid (BR.out.drew)
  clear c16d hcE
  go_wp2_with fail
  go_region_held3 (fun W'=>W'.cell? ⟨18,0,none⟩ = some (.iface 335 (.pointer (some (ad 16)))))
   (first | exact CE.out _ (Keeps.drew (Keeps.refl _ W)) | exact CE.out _ (Keeps.trans (Keeps.drew (Keeps.refl _ W)) (Keeps.trans (keeps_set _ _ _ _) (keeps_set _ _ _ _) (fun _ _ e=>e)) (fun _ _ e=>e)))
   (fail)
  have FIN:=Lib.hid (((HD.out.quiet (Keeps.drew Q0.out)).box HN0.out (by omega) (HO.out _ (by omega)) 0 (.int .i64 0)).box HN0.out (by omega) (HO.out _ (by omega)) 1 (.pointer none))
  go_wp2
  exact bodyPost_ret (results_log (p:=6) (u:=7) (by kernel_rfl) _ _ (w.heap.size + 1 + 1) _ _ rfl ((BRD.out.set 0 (.int .i64 0)).set 1 (.pointer none))) rfl (beg_err NX.out (by simp) rfl FIN.out)
 ·have NX:=Lib.hid (show So.nextR d l v = So.make d l (v + 1) from if_neg hv)
  have y:decide ((1099511627776:Int)<=(v:Int)) = false:=decide_eq_false (by omega)
  have y':decide (1099511627776<=v) = false:=decide_eq_false hv
  have hwv:wrap64 ((v:Int) + 1) = ((v + 1:Nat):Int):=by unfold wrap64; omega
  have BG1:=BG.out W Q0.out (by omega)
  clear hv hv2 BG
  generalize So.make d l (v + 1) = r at *
  go_enter Tryz.func85,Tryz.ntmps85
  go_wp2_with fail
  refine BG1.mono ?_
  rintro e w' ⟨S',hd,hif⟩
  have hnR:¬ S' (w.heap.size + 1 + 1):=fun e=>by
   rcases hd.all _ e with h | h
   ·exact HO.out _ (by omega) h
   ·have:=HZ.out; omega
  have bR':=BR.out.kept hd.keeps (HO.out _ (by omega))
  have BRX:=Lib.hid bR'
  have t0:=bR'.cell 0 _ rfl
  have t1:=bR'.cell 1 _ rfl
  have u0:=bR'.frozen 0
  have u1:=bR'.frozen 1
  have TX:=Lib.hid ((HD.out.quiet Q0.out).trans hd)
  have NRX:=Lib.hid hnR
  by_cases hz:r.1 = 0
  ·rw [if_pos hz] at hif
   obtain ⟨q,rfl,cj,hq,hqs⟩:=hif
   have NEQ:=Lib.hid (show ¬ q = w.heap.size + 1 + 1 from fun e=>by have:=HZ.out; omega)
   have CQ:=Lib.hid (CJ.kept (CJ.kept cj (keeps_set w' (w.heap.size + 1 + 1) 0 (.int .i64 ((v + 1:Nat):Int))) NEQ.out) (keeps_set _ (w.heap.size + 1 + 1) 1 (.pointer (some ⟨q,0,none⟩))) NEQ.out)
   have HQW:=Lib.hid (show w.heap.size<=q from by have:=HZ.out; omega)
   have HQS:=Lib.hid hqs
   have NXZ:=Lib.hid (show So.nextR d l v = (0,r.2) by rw [NX.out,<- hz])
   obtain ⟨vi,hvi⟩:∃ x:Int,((v + 1:Nat):Int) = x:=⟨_,rfl⟩
   have HVI:=Lib.hid hvi
   rw [hvi] at CQ ⊢
   have FINB:=Lib.hid (show BegTo n0 ad w b (v + 1) (So.nextR d l v) S (.returned (.tuple #[.agg #[.int .i64 vi,.pointer (some ⟨q,0,none⟩)],.nilIface])) ((w'.setCell ⟨w.heap.size + 1 + 1,0,none⟩ (.int .i64 vi)).setCell ⟨w.heap.size + 1 + 1,1,none⟩ (.pointer (some ⟨q,0,none⟩))) from by
    have k:=beg_ok (v:=v + 1) NXZ.out ((TX.out.box HN0.out (by omega) NRX.out 0 (.int .i64 vi)).box HN0.out (by omega) NRX.out 1 (.pointer (some ⟨q,0,none⟩))) CQ.out HQW.out HQS.out
    rwa [HVI.out] at k)
   clear hd cj hq hqs bR' hnR BG1 hz hvi
   go_wp2
   exact bodyPost_ret (results_log (p:=6) (u:=7) (by kernel_rfl) _ _ (w.heap.size + 1 + 1) _ _ rfl ((BRX.out.set 0 (.int .i64 vi)).set 1 (.pointer (some ⟨q,0,none⟩)))) rfl FINB.out
  ·rw [if_neg hz] at hif
   subst hif
   have EVX:=Lib.hid (errV_pos ad (Nat.pos_of_ne_zero hz))
   have HNZ:=Lib.hid hz
   rw [errV_pos ad (Nat.pos_of_ne_zero hz)]
   clear hd bR' hnR BG1 hz
   go_wp2
   exact bodyPost_ret (results_log (p:=6) (u:=7) (by kernel_rfl) _ _ (w.heap.size + 1 + 1) _ _ rfl ((BRX.out.set 0 (.int .i64 0)).set 1 (.pointer none))) rfl (beg_err NX.out HNZ.out EVX.out ((TX.out.box HN0.out (by omega) NRX.out 0 (.int .i64 0)).box HN0.out (by omega) NRX.out 1 (.pointer none)))
theorem newO_in {w w':World} {v:Value} {l:List Bt.O} (h:NewO w w' v l) (hl:l.length<=17592186044416):∃ g,OpsIn w' v g 0 l/\(l ≠ []->w.heap.size<=g/\g < w'.heap.size):=by
 obtain ⟨g,h1,h2⟩:=ownG_in opC_len h.own hl
 refine ⟨g,h1,fun hne=>?_⟩
 rcases h.own.2 with ⟨e,h0⟩ | ⟨g',cap,cur,e,_⟩
 ·exact absurd (List.length_eq_zero_iff.1 h0) hne
 ·have e1:v.ownBlock = some g':=by rw [e]; rfl
  have e2:=h2 g' e1
  subst e2
  exact ⟨h.new _ e1,ownsRow_lt h.own e1⟩
end Go.Proofs.YthjjfjhajadimaaGreatDoor
namespace Go.Proofs.YthjjfjhajadimaaGreatDoor
open Go.RowKit Go.WideShapes Go.Sort Go.Shelf
set_option maxRecDepth 100000
namespace Bt
instance:Inhabited O:=⟨⟨false,[],[]⟩⟩
def cmpK (x y:O):Int:=Lib.compareBytes x.key y.key
theorem cmp_lt:∀ a b:Tb.Txt,decide (Lib.compareBytes a b < 0) = Tb.lt a b
 | [],[]=>rfl
 | [],_ :: _=>rfl
 | _ :: _,[]=>rfl
 | a :: x,b :: y=>by
  rw [Tb.lt_cons,<- cmp_lt x y]
  show decide ((if a < b then (-1:Int) else if b < a then 1 else Lib.compareBytes x y) < 0) = _
  by_cases h1:a < b
  ·simp [h1]
  ·by_cases h2:b < a
   ·have hne:¬ a = b:=fun e=>by subst e; exact h1 h2
    simp [h1,h2,hne]
   ·have he:a = b:=by
     have h1':¬ a.toNat < b.toNat:=h1
     have h2':¬ b.toNat < a.toNat:=h2
     exact UInt8.toNat_inj.1 (by omega)
    subst he
    simp [h1]
theorem ltOf_cmpK (x y:O):ltOf cmpK x y = Tb.lt x.key y.key:=cmp_lt x.key y.key
theorem swoK:SWO (ltOf cmpK) where
 irrefl x:=by rw [ltOf_cmpK]; exact Tb.lt_irrefl _
 trans x y z h1 h2:=by rw [ltOf_cmpK] at *; exact Tb.lt_trans h1 h2
 ntrans x y z h1 h2:=by
  rw [ltOf_cmpK] at *
  cases h:Tb.lt x.key z.key with
  | false=>rfl
  | true=>rw [Tb.lt_of_lt_ge h h2] at h1; cases h1
def Apart (l:List O):Prop:=l.Pairwise (fun a b=>a.key ≠ b.key)
theorem Apart.inj {l:List O} (h:Apart l) {a b:O} (ha:a ∈ l) (hb:b ∈ l) (e:a.key = b.key):a = b:=by
 induction l with
 | nil=>cases ha
 | cons x l ih =>
  obtain ⟨h1,h2⟩:=List.pairwise_cons.1 h
  rcases List.mem_cons.1 ha with e1 | ha2
  ·rcases List.mem_cons.1 hb with e2 | hb2
   ·rw [e1,e2]
   ·exact absurd (e1 ▸ e) (h1 b hb2)
  ·rcases List.mem_cons.1 hb with e2 | hb2
   ·exact absurd (e2 ▸ e.symm) (h1 a ha2)
   ·exact ih h2 ha2 hb2
theorem Apart.nodup {l:List O} (h:Apart l):l.Nodup:=h.imp (fun hne e=>hne (by rw [e]))
theorem Norm.apart {l:List O} (h:Norm l):Apart l:=by
 have h2:=List.pairwise_map.1 h.rise
 exact h2.imp (fun {a b} hl=>Tb.lt_ne hl)
theorem sorted_is {l m:List O} {d:Array O} (hl:Apart l) (hm:Norm m) (hmem:∀ o,o ∈ l ↔ o ∈ m) (hp:d.toList.Perm l) (hs:SortedIn (ltOf cmpK) 0 d.size d):d.toList = m:=by
 have p2:d.toList.Perm m:=hp.trans ((List.perm_ext_iff_of_nodup hl.nodup hm.apart.nodup).2 hmem)
 have w1:d.toList.Pairwise (fun a b=>Tb.lt b.key a.key = false):=by
  rw [List.pairwise_iff_getElem]
  intro i j hi hj hij
  have hj':j < d.size:=by simpa using hj
  have h:=hs i j (Nat.zero_le _) hij hj'
  rw [ltOf_cmpK,getElem!_pos d j hj',getElem!_pos d i (by omega)] at h
  simpa using h
 have w2:m.Pairwise (fun a b=>Tb.lt b.key a.key = false):=by
  have h2:=List.pairwise_map.1 hm.rise
  exact h2.imp (fun {a b} hl=>Tb.lt_asymm hl)
 refine List.Perm.eq_of_pairwise (fun a b ha hb h1 h2=>?_) w1 w2 p2
 exact hm.apart.inj (p2.mem_iff.1 ha) hb (Tb.lt_total h2 h1)
end Bt
section
variable {α:Type} [Inhabited α] {f:α->List Value} {n:Nat} {E:TypeId}
theorem flat_get (hf:∀ x,(f x).length = n) (hn:0 < n) (d:Array α) {t:Nat} (ht:t < d.size * n):(cellsG f d.toList)[t]? = some ((flatK f n d)[t]!):=by
 have hd:t / n < d.size:=Nat.div_lt_of_lt_mul (by rw [Nat.mul_comm]; exact ht)
 have hm:t % n < n:=Nat.mod_lt _ hn
 rw [get_flatK f n d t ht]
 have h1:d.toList[t / n]? = some (d[t / n]!):=by rw [Array.getElem?_toList,Array.getElem?_eq_getElem hd,getElem!_pos d _ hd]
 have h2:(f d[t / n]!)[t % n]? = some ((f d[t / n]!)[t % n]!):=by
  have hl:t % n < (f d[t / n]!).length:=by rw [hf]; exact hm
  rw [List.getElem?_eq_getElem hl,getElem!_pos (f d[t / n]!) (t % n) hl]
 have h:=cellsG_get hf h1 h2
 rwa [Nat.mul_comm,Nat.div_add_mod] at h
theorem sortK_holds (hf:∀ x,(f x).length = n) (hn:0 < n) {W:World} {g c:Nat} {d:Array α} (h:W.ownsRow 0 E n (.slice (some ⟨g,0,none⟩) d.size c) d.size (cellsG f d.toList)):HoldsK f n W g 0 d:=by
 intro j hj
 rw [size_flatK] at hj
 refine ⟨?_,ownG_frozen h _⟩
 have hc:=(World.ownsRowF_of h).cells (g:=g) rfl _ _ (flat_get hf hn d hj)
 rwa [add_plain] at hc
theorem sortK_keeps (W:World) (g m:Nat) (d:Array α) (os:Array Obj):Keeps (fun j=>j = g) W (sortWorldK f n W g 0 m d os):=by
 refine ⟨rfl,rfl,rfl,?_,fun j hj hn=>?_⟩
 ·simp [sortWorldK,putRowK,grow,putRow,mapBlock]
 ·simp only [sortWorldK,putRowK,grow,putRow,mapBlock]
  rw [Array.getElem?_append_left (by simpa using hj),Array.getElem?_modify,if_neg (fun e=>hn e.symm)]
  rfl
theorem sortK_own (hf:∀ x,(f x).length = n) (hn:0 < n) {W:World} {g c:Nat} {d d2:Array α} (h:W.ownsRow 0 E n (.slice (some ⟨g,0,none⟩) d.size c) d.size (cellsG f d.toList)) (hs:d2.size = d.size) (m:Nat) (os:Array Obj):(sortWorldK f n W g 0 m d2 os).ownsRow 0 E n (.slice (some ⟨g,0,none⟩) d.size c) d.size (cellsG f d2.toList):=by
 have hlen:(cellsG f d2.toList).length = d.size * n:=by rw [cellsG_length hf]; simp [hs]
 refine ⟨hlen,?_⟩
 rcases h.2 with ⟨e,_⟩ | ⟨g',c',cur,e,hb,hg,hnc,hcm,hsz,htk⟩
 ·cases e
 ·injection e with e1 e2 e3
  injection e1 with e1
  injection e1 with e1
  subst e1 e3
  have hlt:=lt_of_block hg
  have hle:d.size * n<=c * n:=Nat.mul_le_mul_right n hnc
  refine .inr ⟨g,c,putCells id 0 (flatK f n d2) cur,rfl,hb,?_,hnc,hcm,by simp [putCells,hsz],?_⟩
  ·simp only [sortWorldK,putRowK,grow,putRow,mapBlock]
   rw [Array.getElem?_append_left (by simpa using hlt),Array.getElem?_modify,if_pos rfl,show (Go.Sort.ahead W m).heap = W.heap from rfl,hg]
   rfl
  ·refine List.ext_getElem? (fun t=>?_)
   by_cases ht:t < d.size * n
   ·rw [List.getElem?_take_of_lt ht,flat_get hf hn d2 (by rw [hs]; exact ht),Array.getElem?_toList]
    unfold putCells
    rw [Array.getElem?_mapIdx,Array.getElem?_eq_getElem (by omega),Option.map_some,if_pos ⟨Nat.zero_le _,by rw [size_flatK,hs]; omega⟩]
    rfl
   ·rw [List.getElem?_eq_none (by rw [List.length_take]; omega),List.getElem?_eq_none (by rw [hlen]; omega)]
end
end Go.Proofs.YthjjfjhajadimaaGreatDoor
namespace Go.Proofs.YthjjfjhajadimaaGreatDoor
open Go.RowKit Go.WideShapes Go.Maps
set_option maxRecDepth 100000
def opDat (o:Bt.O):DataW Unit:=.slice [.lit (.bool o.del),.lit (.string o.key),.lit (.string o.val)] []
theorem opDat_inj {a b:Bt.O} (h:opDat a = opDat b):a = b:=by
 obtain ⟨d,k,v⟩:=a
 obtain ⟨d2,k2,v2⟩:=b
 simp only [opDat,DataW.slice.injEq,List.cons.injEq,DataW.lit.injEq,Lit.bool.injEq,Lit.string.injEq,and_true] at h
 obtain ⟨rfl,rfl,rfl⟩:=h
 rfl
def opR:Value->Option (DataW Unit × List MemPlace)
 | .agg ⟨[.bool d,.string k,.string v]⟩=>some (opDat ⟨d,k.data.toList,v.data.toList⟩,[])
 | _=>none
theorem opR_mk (o:Bt.O):opR (opV o) = some (opDat o,[]):=by
 obtain ⟨d,k,v⟩:=o
 rfl
theorem opR_inv {v:Value} {y:DataW Unit × List MemPlace} (h:opR v = some y):∃ o:Bt.O,v = opV o:=by
 unfold opR at h
 split at h
 ·rename_i d k v
  refine ⟨⟨d,k.data.toList,v.data.toList⟩,?_⟩
  obtain ⟨⟨k⟩⟩:=k
  obtain ⟨⟨v⟩⟩:=v
  rfl
 ·cases h
abbrev klit (k:Tb.Txt):Lit:=.string k
def mapD (ops:List Bt.O):DataW Unit:=ops.foldl (fun D o=>D.put (klit o.key) (opDat (Bt.clean o))) (.map [])
theorem mapD_snoc (ops:List Bt.O) (o:Bt.O):mapD (ops ++ [o]) = (mapD ops).put (klit o.key) (opDat (Bt.clean o)):=by simp [mapD]
theorem isMap_foldl:∀ (ops:List Bt.O) (D:DataW Unit),IsMap D->IsMap (ops.foldl (fun D o=>D.put (klit o.key) (opDat (Bt.clean o))) D)
 | [],_,h=>h
 | _ :: ops,_,h=>isMap_foldl ops _ (h.put _ _)
theorem mapD_isMap (ops:List Bt.O):IsMap (mapD ops):=isMap_foldl ops _ isMap_empty
theorem mapD_at:∀ (ops:List Bt.O) (k:Tb.Txt),has (mapD ops) (klit k) = (Tb.lastOf (Bt.codes ops) k).isSome/\∀ z,(mapD ops).atKey (klit k) z = match Tb.lastOf (Bt.codes ops) k with | none=>z | some c=>opDat (Bt.dec (k,c)):=by
 intro ops
 induction h:ops.length generalizing ops with
 | zero =>
  intro k
  obtain rfl:=List.length_eq_zero_iff.1 h
  exact ⟨rfl,fun z=>rfl⟩
 | succ n ih =>
  intro k
  obtain ⟨pre,o,rfl⟩:∃ pre o,ops = pre ++ [o]:=by
   have hne:ops ≠ []:=by rintro rfl; simp at h
   exact ⟨ops.dropLast,ops.getLast hne,(List.dropLast_concat_getLast hne).symm⟩
  have ih:=ih pre (by simpa using h) k
  rw [mapD_snoc,Bt.codes_append,show Bt.codes [o] = [Bt.code o] from rfl,Tb.lastOf_snoc]
  by_cases e:o.key = k
  ·subst e
   rw [if_pos (show (Bt.code o).1 = o.key from rfl)]
   refine ⟨by rw [has_put_same (k:=klit o.key) (mapD_isMap pre) trivial]; rfl,fun z=>?_⟩
   rw [atKey_put_same (k:=klit o.key) (mapD_isMap pre) trivial]
   show opDat (Bt.clean o) = opDat (Bt.dec (Bt.code o))
   rw [Bt.dec_code]
  ·have hne:klit k ≠ klit o.key:=fun h2=>e (by injection h2 with h2; exact h2.symm)
   rw [if_neg (show ¬ (Bt.code o).1 = k from e)]
   refine ⟨by rw [has_put_other hne]; exact ih.1,fun z=>?_⟩
   rw [atKey_put_other hne]
   exact ih.2 z
theorem normal_iff (ops:List Bt.O) (o:Bt.O):o ∈ Bt.normal ops ↔ Bt.clean o = o/\Tb.lastOf (Bt.codes ops) o.key = some (Bt.code o).2:=by
 constructor
 ·intro h
  have hc:=(Bt.normal_norm ops).clean o h
  refine ⟨hc,?_⟩
  rw [<- Tb.get_ofL,<- Bt.codes_normal,Tb.get_some (Bt.normal_norm ops).rise]
  exact List.mem_map.2 ⟨o,h,rfl⟩
 ·rintro ⟨hc,hl⟩
  rw [<- Tb.get_ofL,<- Bt.codes_normal,Tb.get_some (Bt.normal_norm ops).rise] at hl
  obtain ⟨p,hp,e⟩:=List.mem_map.1 hl
  have e2:Bt.clean p = Bt.clean o:=by rw [<- Bt.dec_code,<- Bt.dec_code,e]; rfl
  rw [(Bt.normal_norm ops).clean p hp,hc] at e2
  exact e2 ▸ hp
theorem mapD_has {ops:List Bt.O} {o:Bt.O} (h:o ∈ Bt.normal ops):has (mapD ops) (klit o.key) = true:=by
 rw [(mapD_at ops o.key).1,((normal_iff ops o).1 h).2]
 rfl
theorem mapD_entry {ops:List Bt.O} {k:Tb.Txt} {c:Bt.O} (h:∀ z,(mapD ops).atKey (klit k) z = opDat c):c ∈ Bt.normal ops/\c.key = k:=by
 cases hl:Tb.lastOf (Bt.codes ops) k with
 | none =>
  have h1:=h .nil
  rw [(mapD_at ops k).2,hl] at h1
  cases h1
 | some v =>
  have h1:=h .nil
  rw [(mapD_at ops k).2,hl] at h1
  have e:=opDat_inj h1
  subst e
  refine ⟨(normal_iff ops _).2 ⟨?_,?_⟩,rfl⟩
  ·have hm:(k,v) ∈ Tb.ofL (Bt.codes ops):=(Tb.get_some (Tb.ofL_sorted _)).1 (by rw [Tb.get_ofL]; exact hl)
   exact (Bt.normal_norm ops).clean _ (List.mem_map.2 ⟨_,hm,rfl⟩)
  ·have hm:(k,v) ∈ Tb.ofL (Bt.codes ops):=(Tb.get_some (Tb.ofL_sorted _)).1 (by rw [Tb.get_ofL]; exact hl)
   obtain ⟨p,_,e⟩:=List.mem_map.1 (Tb.ofL_sub _ _ hm)
   show Tb.lastOf (Bt.codes ops) k = _
   rw [hl,<- e,Bt.dec_code,Bt.code_clean,e]
theorem size_le {P:Program} {k:TypeId} {R:Value->Option (DataW Unit × List MemPlace)} {w:World} {b n:Nat} {D:DataW Unit} (h:w.ownsMap P k R b n D):size D<=n:=by
 obtain ⟨es,clock,_,_,hs,rfl⟩:=h
 rw [size_eq,length_sorted,List.length_map,Array.length_toList]
 exact hs
structure Came (ops:List Bt.O) (left:Lit->Bool) (xs:List Bt.O):Prop where
 apart:Bt.Apart xs
 mem:∀ o,o ∈ xs ↔ o ∈ Bt.normal ops/\left (klit o.key) = false
theorem came_start (ops:List Bt.O):Came ops (has (mapD ops)) []:=⟨List.Pairwise.nil,fun o=>by
 constructor
 ·intro h; cases h
 ·rintro ⟨h,e⟩; rw [mapD_has h] at e; cases e⟩
theorem came_step {ops:List Bt.O} {left:Lit->Bool} {xs:List Bt.O} {c:Bt.O} (h:Came ops left xs) (hc:c ∈ Bt.normal ops) (hl:left (klit c.key) = true):Came ops (fun z=>left z && !z.sameKey (klit c.key)) (xs ++ [c]):=by
 refine ⟨List.pairwise_append.2 ⟨h.apart,List.pairwise_singleton _ _,fun a ha b hb=>?_⟩,fun o=>?_⟩
 ·rw [List.mem_singleton] at hb
  subst hb
  intro e
  have:=((h.mem a).1 ha).2
  rw [e,hl] at this
  cases this
 ·rw [List.mem_append,List.mem_singleton,h.mem o]
  constructor
  ·rintro (⟨h1,h2⟩ | rfl)
   ·exact ⟨h1,by simp only [h2,Bool.false_and]⟩
   ·refine ⟨hc,?_⟩
    have:(klit o.key).sameKey (klit o.key) = true:=WideAt.sameKey_self trivial
    simp only [this,Bool.not_true,Bool.and_false]
  ·rintro ⟨h1,h2⟩
   by_cases e:o.key = c.key
   ·exact .inr ((Bt.normal_norm ops).apart.inj h1 hc e)
   ·left
    refine ⟨h1,?_⟩
    have hne:(klit o.key).sameKey (klit c.key) = false:=sameKey_ne (fun h3=>e (by injection h3))
    rw [hne] at h2
    simpa using h2
theorem came_end {ops:List Bt.O} {left:Lit->Bool} {xs:List Bt.O} (h:Came ops left xs) (hl:∀ k,left k = false):∀ o,o ∈ xs ↔ o ∈ Bt.normal ops:=fun o=>by
 rw [h.mem o]
 exact ⟨fun h=>h.1,fun h=>⟨h,hl _⟩⟩
end Go.Proofs.YthjjfjhajadimaaGreatDoor
