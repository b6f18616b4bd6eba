/-
  Joined: OCommB, OCommC.
-/
import Derived.Test.YthjjfjhajadimaaGreatDoorP34
namespace Go.Proofs.YthjjfjhajadimaaGreatDoor
open Go.RowKit Go.WideShapes
set_option maxRecDepth 100000
def DoneTo (n0:Nat) (ad:Nat->Addr) (w:World) (b p n life v q q0:Nat) (l:List Tb.R) (r:J.JS × DS) (S A:Nat->Prop) (e:Ending) (w':World):Prop :=
 ∃ S' t A',e = .returned .nilIface/\Dk n0 ad w' b r.2 S'/\(∀ k,S' k->S k\/w.heap.size<=k)/\¬ S' q/\¬ S' p/\CJ w' q b r.1/\Sm w' p b n life t (So.rowsB l).length v q/\Tbl w' t l A'/\(∀ k,A' k->A k\/w.heap.size<=k)/\(∀ k,A' k->¬ S' k/\k ≠ q/\k ≠ p)/\Keeps (fun k=>S k\/k = q0\/k = p) w w'
def CmtTo (n0:Nat) (ad:Nat->Addr) (w:World) (b p n life v q:Nat) (l:List Tb.R) (r:Nat × J.JS × DS) (S A:Nat->Prop) (e:Ending) (w':World):Prop :=
 if r.1 = 0 then DoneTo n0 ad w b p n life v q q l r.2 S A e w' else AddTo n0 ad w b q r S e w'
section
variable {n0:Nat} {ad:Nat->Addr} {w:World} {b p q t v life g o:Nat} {d:DS} {S A:Nat->Prop} {l:List Tb.R} {ov:Value} {ops:List Bt.O} {j:J.JS}
set_option maxHeartbeats 8000000 in
theorem commit_log (h:Dk n0 ad w b d S) (hT:Tbl w t l A) (hs:So.size l<=So.room d.dur.length) (hM:Sm w p b d.dur.length life t (So.rowsB l).length v q) (hi:OpsIn w ov g o ops) (hl:ops.length<=262144) (ht:∀ z ∈ ops,z.key.length<=1048576/\z.val.length<=1048576) (hdn:(d.off || decide (d.cr ≠ life)) = false) (hne:Bt.normal ops ≠ []) (hlg:¬ largestZ ((So.many d.dur.length:Nat):Int) < ((Bt.encB (Bt.normal ops)).length:Int)) (hfl:¬ So.room d.dur.length < So.size (Bt.apply l ops)) (hf:d.FewS) (h64:64<=d.dur.length) (hv:v<=1099511627776) (hpS:¬ S p) (hp0:n0<=p) (hq0:n0<=q) (hqS:¬ S q) (hC:CJ w q b j) (hF:J.Fine j d) (hfit:j.fits ((Bt.encB (Bt.normal ops)).length:Int) = true) (hAS:∀ k,A k->¬ S k/\k ≠ q/\k ≠ p) (hpq:p ≠ q) :
  Calls Tryz.prog 36 #[.pointer (some ⟨p,0,none⟩),ov] w (CmtTo n0 ad w b p d.dur.length life v q (Bt.apply l ops) (So.addJ j d (Bt.encB (Bt.normal ops))) S A):=by
 have hn6:=h.len
 have HD:=Lib.hid h
 have HT:=Lib.hid hT
 have HM:=Lib.hid hM
 have HI:=Lib.hid hi
 have HL:=Lib.hid hl
 have HTX:=Lib.hid ht
 have SML:=Lib.hid (small_of hl ht)
 have NSM:=Lib.hid (small_of hl ht).normal
 have RLE:=Lib.hid (rows_le hn6 hs)
 have ENL:=Lib.hid (normal_enc hl ht)
 have HN6:=Lib.hid hn6
 have HSZ:=Lib.hid hs
 have DN:=down_st h.disk hM
 rw [hdn] at DN
 have HNE:=Lib.hid hne
 have HLG:=Lib.hid hlg
 have HFL:=Lib.hid hfl
 have HPS:=Lib.hid hpS
 have HP0:=Lib.hid hp0
 have HQS:=Lib.hid hqS
 have HAS:=Lib.hid hAS
 have HPQ:=Lib.hid hpq
 have HPW:=Lib.hid hM.lt
 have HQW:=Lib.hid hC.lt
 have LF:=Lib.hid (fun W (x:Qt w W) (z:Int) (hz:z<=9223372036854775807)=>logFor13_any (h.qt x) hf h64 (hT.qt x) hs hv (hM.qt x) hpS (hC.kept x (fun e=>e)) hF.used (by have:=hF.fit; omega) z hz)
 have AD:=Lib.hid (fun W (x:Qt w W) (s:ByteArray) (hs:s.size<=1099511627776)=>add13_any (v:=v) (h.qt x) hq0 hqS hf (hC.kept x (fun e=>e)) hF s hs)
 have FIT:=Lib.hid hfit
 obtain ⟨r,hr⟩:∃ r,So.addJ j d (Bt.encB (Bt.normal ops)) = r:=⟨_,rfl⟩
 rw [hr]
 have HRR:=Lib.hid hr
 clear hr
 clear h hT hM hi hl ht hn6 hs hdn hne hlg hfl hf h64 hv hpS hp0 hq0 hqS hC hF hfit hAS hpq
 go_enter Tryz.func36,Tryz.ntmps36
 go_wp2_with fail
 refine DN.mono ?_
 rintro e w1 ⟨rfl,q1⟩
 have Q1:=Lib.hid q1
 clear DN q1
 have NM:=normal12_any w1 (recs_turn HI.out Q1.out) (by have:=HL.out; omega) (fun z hz=>by have:=(HTX.out z hz).1; unfold maxLen; omega)
 go_wp2_with fail
 refine NM.mono ?_
 rintro e w2 ⟨v2,rfl,N2⟩
 have Q2:=Lib.hid (Qt.trans Q1.out N2.qt)
 have HN2:=Lib.hid N2
 obtain ⟨g2,hi2,_⟩:=newO_in N2 (by have:=Bt.normal_length ops; have:=HL.out; omega)
 have HI2:=Lib.hid hi2
 have HCP:=Lib.hid (show ∀ a n c,v2 = .slice a n c->n<=c from fun a n c e=>by subst e; obtain ⟨x,y,ez⟩:=ownG_shape N2.own; injection ez with e1 e2 e3; subst e1 e2 e3; exact (ownG_cap N2.own).1)
 obtain ⟨oa,oc,rfl⟩:=ownG_shape N2.own
 clear NM N2 hi2
 have y0:(((Bt.normal ops).length:Int) == 0) = false:=beq_eq_false_iff_ne.2 (by have:=HNE.out; have:=List.length_pos_iff.2 this; omega)
 have y0':((Bt.normal ops).length == 0) = false:=beq_eq_false_iff_ne.2 (by have:=HNE.out; have:=List.length_pos_iff.2 this; omega)
 have y0n:¬ (Bt.normal ops = []):=HNE.out
 have EN:=encode12_any w2 HI2.out (HD.out.errs.e2.qt Q2.out) HCP.out (by have:=ENL.out; omega)
 rw [(Bt.normal_norm ops).enc,Bt.encT_ok (Bt.normal_norm ops).enc,errV_zero] at EN
 obtain ⟨sb,hsb,hsl⟩:∃ s:ByteArray,strV (Bt.encB (Bt.normal ops)) = .string s/\s.data.toList = Bt.encB (Bt.normal ops):=⟨⟨(Bt.encB (Bt.normal ops)).toArray⟩,rfl,rfl⟩
 rw [hsb] at EN
 have HSB:=Lib.hid hsl
 have HSS:=Lib.hid (show sb.size = (Bt.encB (Bt.normal ops)).length from by rw [<- hsl]; rfl)
 clear hsb hsl
 go_wp2_with fail
 refine EN.mono ?_
 rintro e w3 ⟨rfl,q3⟩
 have Q3:=Lib.hid (Qt.trans Q2.out q3)
 have HI3:=Lib.hid (recs_turn HI2.out q3)
 have LG:=largest_st HN6.out (HM.out.qt Q3.out)
 clear EN q3 y0 y0' y0n
 obtain ⟨lz,hlz⟩:∃ z,largestZ ((So.many d.dur.length:Nat):Int) = z:=⟨_,rfl⟩
 rw [hlz] at LG
 have y1:decide (lz < (sb.size:Int)) = false:=decide_eq_false (by have:=HLG.out; have:=HSS.out; omega)
 clear hlz
 go_wp2_with fail
 refine LG.mono ?_
 rintro e w4 ⟨rfl,rfl⟩
 clear LG
 have AF:=after13_any w4 (after_hyp (HT.out.qt Q3.out) RLE.out HI3.out (Bt.normal_norm ops) NSM.out)
 rw [show Bt.apply l (Bt.normal ops) = Bt.apply l ops from Bt.apply_normal HT.out.sorted ops] at AF
 have SB:=Lib.hid (show (So.rowsB (Bt.apply l ops)).length<=4611686018427387904 from by
  have h1:=So.apply_rowsB HT.out.sorted (Bt.normal ops)
  rw [Bt.apply_normal HT.out.sorted ops] at h1
  have h2:=NSM.out.opsN
  have h3:=RLE.out
  omega)
 have M4:=HM.out.qt Q3.out
 have c7:=Bk.cell M4 7 _ rfl
 have c8:=Bk.cell M4 8 _ rfl
 obtain ⟨k1,hk1⟩:∃ z,(So.rowsB l).length = z:=⟨_,rfl⟩
 have HK1:=Lib.hid hk1
 obtain ⟨k2,hk2⟩:∃ z,(So.rowsB (Bt.apply l ops)).length = z:=⟨_,rfl⟩
 have HK2:=Lib.hid hk2
 rw [hk1] at AF c8
 rw [hk2] at AF
 unfold contV at AF
 clear M4 hk1 hk2
 go_wp2_with fail
 refine AF.mono ?_
 rintro e w5 ⟨t2,A2,rfl,T5,ht5,hA5,q5⟩
 obtain ⟨W6,hW6,q6,bC,hz6⟩:=box_own w5 132 #[ptrV t2,.int .i64 (k2:Int)]
 obtain ⟨C,hC⟩:∃ C,w5.heap.size = C:=⟨_,rfl⟩
 have Q6:=Lib.hid (Qt.trans Q3.out (Qt.trans q5 q6))
 have HC:=Lib.hid (show w.heap.size<=C from by have:=Q3.out.size; have:=q5.size; omega)
 have HC6:=Lib.hid (show W6.heap.size = C + 1 from by omega)
 rw [hC] at bC
 have BC:=Lib.hid bC
 have T6:=Lib.hid (T5.qt q6)
 have LT2:=Lib.hid (show w.heap.size<=t2 from by have:=Q3.out.size; omega)
 have HA2:=Lib.hid (show ∀ k,A2 k->A k\/w.heap.size<=k from fun k hk=>by
  rcases hA5 k hk with x | x
  ·exact .inl x
  ·have:=Q3.out.size; exact .inr (by omega))
 have HAC:=Lib.hid (show ¬ A2 C from fun e=>by have:=T5.lt C e; omega)
 have SZ:=size13_any W6 T6.out SB.out
 have RM:=Lib.hid (fun W (x:Qt w W)=>room_st HN6.out (HM.out.qt x))
 rw [HK2.out] at SZ
 unfold contV at SZ
 have e0:=BC.out.cell 0 _ rfl
 have e1:=BC.out.cell 1 _ rfl
 clear AF T5 ht5 hA5 q5 q6 bC hz6 c7 c8
 go_wp2_with fail
 refine SZ.mono ?_
 rintro e w7 ⟨rfl,q7⟩
 have Q7:=Lib.hid (Qt.trans Q6.out q7)
 have BC7:=Lib.hid (BC.out.qt q7)
 have T7:=Lib.hid (T6.out.qt q7)
 have RM7:=RM.out w7 Q7.out
 clear SZ q7 RM e0 e1
 have y2:decide (((So.room d.dur.length:Nat):Int) < ((So.size (Bt.apply l ops):Nat):Int)) = false:=decide_eq_false (by have:=HFL.out; omega)
 have y2':decide (So.room d.dur.length < So.size (Bt.apply l ops)) = false:=decide_eq_false HFL.out
 go_wp2_with fail
 refine RM7.mono ?_
 rintro e w8 ⟨rfl,q8⟩
 have Q8:=Lib.hid (Qt.trans Q7.out q8)
 have BC8:=Lib.hid (BC7.out.qt q8)
 have T8:=Lib.hid (T7.out.qt q8)
 clear RM7 q8
 have LF8:=LF.out w8 Q8.out (sb.size:Int) (by have:=HSS.out; have:=ENL.out; omega)
 have FITs:j.fits (sb.size:Int) = true:=by rw [HSS.out]; exact FIT.out
 have LF9:=LF8.mono (fun e w' x=>(show e = .returned (.tuple #[.agg #[.int .i64 (v:Int),.pointer (some ⟨q,0,none⟩)],.nilIface])/\Qt w8 w' from by unfold LogTo at x; rwa [if_pos FITs] at x))
 clear LF LF8 FITs
 go_wp2_with fail
 refine LF9.mono ?_
 rintro e w9 ⟨rfl,q9⟩
 obtain ⟨W10,hW10,q10,bG,hz10⟩:=box_own w9 138 #[.int .i64 (v:Int),.pointer (some ⟨q,0,none⟩)]
 obtain ⟨G,hG⟩:∃ G,w9.heap.size = G:=⟨_,rfl⟩
 have Q10:=Lib.hid (Qt.trans Q8.out (Qt.trans q9 q10))
 have BC10:=Lib.hid (BC8.out.qt (Qt.trans q9 q10))
 have T10:=Lib.hid (T8.out.qt (Qt.trans q9 q10))
 rw [hG] at bG
 have BG:=Lib.hid bG
 have HG:=Lib.hid (show w.heap.size<=G from by have:=Q8.out.size; have:=q9.size; omega)
 have AD10:=AD.out W10 Q10.out sb (by have:=HSS.out; have:=ENL.out; omega)
 rw [HSB.out] at AD10
 have M10:=Lib.hid (HM.out.qt Q10.out)
 have g0:=bG.cell 0 _ rfl
 have g1:=bG.cell 1 _ rfl
 rw [HRR.out] at AD10
 clear LF9 q9 q10 bG hz10 AD
 by_cases hz:r.1 = 0
 ·have TO:=Lib.hid (fun e w' (y:DoneTo n0 ad w b p d.dur.length life v q q (Bt.apply l ops) r.2 S A e w')=>(show CmtTo n0 ad w b p d.dur.length life v q (Bt.apply l ops) r S A e w' from by unfold CmtTo; rw [if_pos hz]; exact y))
  have HZ:=Lib.hid hz
  clear hz
  go_wp2_with fail
  refine AD10.mono ?_
  rintro e w11 ⟨S',rfl,D11,hall,hSq,C11,K11⟩
  have KQ:=Lib.hid (show Keeps (fun k=>S k\/k = q) w w11 from Keeps.trans (Q10.out.mono (fun _ _ e=>e.elim)) K11 (fun _ _ e=>e))
  have PN:=Lib.hid (show ¬ (S p\/p = q) from fun e=>e.elim HPS.out HPQ.out)
  have CN:=Lib.hid (show ¬ (S C\/C = q) from fun e=>by rcases e with e | e; have:=HD.out.lt C e; have:=HC.out; omega; have:=HQW.out; have:=HC.out; omega)
  have GN:=Lib.hid (show ¬ (S G\/G = q) from fun e=>by rcases e with e | e; have:=HD.out.lt G e; have:=HG.out; omega; have:=HQW.out; have:=HG.out; omega)
  have M11:=M10.out.kept K11 PN.out
  have B11:=BC10.out.kept K11 CN.out
  have G11:=BG.out.kept K11 GN.out
  have u0:=B11.cell 0 _ rfl
  have u1:=B11.cell 1 _ rfl
  have u2:=G11.cell 0 _ rfl
  have u3:=G11.cell 1 _ rfl
  have x7:=Bk.cell M11 7 _ rfl
  have x8:=Bk.cell M11 8 _ rfl
  have x9:=Bk.cell M11 9 _ rfl
  have x10:=Bk.cell M11 10 _ rfl
  have y7:=Bk.frozen M11 7
  have y8:=Bk.frozen M11 8
  have y9:=Bk.frozen M11 9
  have y10:=Bk.frozen M11 10
  have T11:=T10.out.kept K11 (fun k hk e=>by
   rcases HA2.out k hk with x | x
   ·have h1:=HAS.out k x
    rcases e with e | e
    ·exact h1.1 e
    ·exact h1.2.1 e
   ·rcases e with e | e
    ·have:=HD.out.lt k e; omega
    ·have:=HQW.out; omega)
  have HM11:=Lib.hid M11
  have HB11:=Lib.hid B11
  have HG11:=Lib.hid G11
  have HT11:=Lib.hid T11
  have HD11:=Lib.hid D11
  have HC11:=Lib.hid C11
  have HALL:=Lib.hid hall
  have HSQ:=Lib.hid hSq
  have HPC:=Lib.hid (show ¬ p = C/\¬ p = G from ⟨fun e=>by have:=HPW.out; have:=HC.out; omega,fun e=>by have:=HPW.out; have:=HG.out; omega⟩)
  rw [HZ.out,errV_zero]
  clear AD10 D11 hall hSq C11 K11 M11 B11 G11 T11 g0 g1
  have KS:=Lib.hid (fun W' (x:Keeps (fun k=>k = p) w11 W')=>(show (W'.cell? ⟨C,0,none⟩ = some (ptrV t2)/\W'.cell? ⟨C,1,none⟩ = some (.int .i64 (k2:Int)))/\W'.cell? ⟨G,0,none⟩ = some (.int .i64 (v:Int))/\W'.cell? ⟨G,1,none⟩ = some (.pointer (some ⟨q,0,none⟩)) from ⟨⟨(HB11.out.kept x (fun e=>HPC.out.1 e.symm)).cell 0 _ rfl,(HB11.out.kept x (fun e=>HPC.out.1 e.symm)).cell 1 _ rfl⟩,(HG11.out.kept x (fun e=>HPC.out.2 e.symm)).cell 0 _ rfl,(HG11.out.kept x (fun e=>HPC.out.2 e.symm)).cell 1 _ rfl⟩))
  have K2:=Lib.hid (fun u v'=>(show Keeps (fun k=>k = p) w11 ((w11.drew.setCell ⟨p,9,none⟩ u).setCell ⟨p,10,none⟩ v') from Keeps.trans (Keeps.trans (Keeps.drew (Keeps.refl _ w11)) (keeps_set _ p 9 u) (fun _ _ e=>e)) (keeps_set _ p 10 v') (fun _ _ e=>e)))
  have K4:=Lib.hid (fun u v' x y=>(show Keeps (fun k=>k = p) w11 ((((w11.drew.setCell ⟨p,9,none⟩ u).setCell ⟨p,10,none⟩ v').setCell ⟨p,7,none⟩ x).setCell ⟨p,8,none⟩ y) from Keeps.trans (Keeps.trans (K2.out u v') (keeps_set _ p 7 x) (fun _ _ e=>e)) (keeps_set _ p 8 y) (fun _ _ e=>e)))
  go_wp2_with fail
  go_region_held3 (fun W'=>(W'.cell? ⟨C,0,none⟩ = some (ptrV t2)/\W'.cell? ⟨C,1,none⟩ = some (.int .i64 (k2:Int)))/\W'.cell? ⟨G,0,none⟩ = some (.int .i64 (v:Int))/\W'.cell? ⟨G,1,none⟩ = some (.pointer (some ⟨q,0,none⟩)))
   (first | exact KS.out _ (Keeps.drew (Keeps.refl _ w11)) | exact KS.out _ (K2.out _ _) | exact KS.out _ (K4.out _ _ _ _))
   (fail)
  have KF:=Lib.hid (K4.out (.int .i64 (v:Int)) (.pointer (some ⟨q,0,none⟩)) (ptrV t2) (.int .i64 (k2:Int)))
  have NSP:¬ S' p:=fun e=>by
   rcases HALL.out p e with x | x
   ·exact HPS.out x
   ·have:=HPW.out; have:=Q10.out.size; omega
  have FIN:=Lib.hid (TO.out (.returned .nilIface) ((((w11.drew.setCell ⟨p,9,none⟩ (.int .i64 (v:Int))).setCell ⟨p,10,none⟩ (.pointer (some ⟨q,0,none⟩))).setCell ⟨p,7,none⟩ (ptrV t2)).setCell ⟨p,8,none⟩ (.int .i64 (k2:Int))) ⟨S',t2,A2,rfl,
   HD11.out.kept KF.out (fun k e=>by have e:k = p:=e; have:=HP0.out; omega) (fun k e e2=>NSP (by have e2:k = p:=e2; rw [<- e2]; exact e)),
   fun k e=>by
    rcases HALL.out k e with x | x
    ·exact .inl x
    ·have:=Q10.out.size; exact .inr (by omega),
   HSQ.out,NSP,HC11.out.kept KF.out (fun e=>HPQ.out (show p = q from Eq.symm e)),
   by
    rw [HK2.out]
    exact (((Bk.set (Bk.drew HM11.out) 9 (.int .i64 (v:Int))).set 10 (.pointer (some ⟨q,0,none⟩))).set 7 (ptrV t2)).set 8 (.int .i64 (k2:Int)),
   HT11.out.kept KF.out (fun k hk e=>by
    have e:k = p:=e
    rcases HA2.out k hk with x | x
    ·exact (HAS.out k x).2.2 e
    ·have:=HPW.out; omega),
   HA2.out,
   fun k hk=>by
    have hk10:=T10.out.lt k hk
    rcases HA2.out k hk with x | x
    ·have h1:=HAS.out k x
     refine ⟨fun e=>?_,h1.2.1,h1.2.2⟩
     rcases HALL.out k e with y | y
     ·exact h1.1 y
     ·omega
    ·refine ⟨fun e=>?_,by have:=HQW.out; omega,by have:=HPW.out; omega⟩
     rcases HALL.out k e with y | y
     ·have:=HD.out.lt k y; omega
     ·omega,
   Keeps.trans (KQ.out.mono (fun _ _ e=>e.elim .inl (fun e=>.inr (.inl e)))) KF.out (fun _ _ e=>.inr (.inr e))⟩)
  go_wp2
  exact bodyPost_ret (results_tmp (t:=4) rfl _ _ _) rfl FIN.out
 ·have TO:=Lib.hid (fun e w' (y:AddTo n0 ad w b q r S e w')=>(show CmtTo n0 ad w b p d.dur.length life v q (Bt.apply l ops) r S A e w' from by unfold CmtTo; rw [if_neg hz]; exact y))
  have HZ:=Lib.hid (errV_pos ad (Nat.pos_of_ne_zero hz))
  clear hz
  go_wp2_with fail
  refine AD10.mono ?_
  rintro e w11 X
  have Y:=AddTo.from Q10.out X
  obtain ⟨S',rfl,_⟩:=X
  rw [HZ.out]
  have FIN:=Lib.hid (TO.out _ _ Y)
  rw [HZ.out] at FIN
  clear Y AD10
  go_wp2
  exact bodyPost_ret (results_tmp (t:=4) rfl _ _ _) rfl FIN.out
end
def SnpTo (n0:Nat) (ad:Nat->Addr) (w:World) (b p n life v:Nat) (l:List Tb.R) (m:Nat × DS) (r:Nat × J.JS × DS) (S A:Nat->Prop) (e:Ending) (w':World):Prop :=
 if m.1 ≠ 0 then ∃ S',e = .returned (errV ad m.1)/\DkTo n0 ad w b m.2 S w' S'
 else if r.1 ≠ 0 then ∃ S',e = .returned (errV ad r.1)/\DkTo n0 ad w b r.2.2 S w' S'
 else ∃ q',w.heap.size<=q'/\DoneTo n0 ad w b p n life (v + 1) q' p l r.2 S A e w'
section
variable {n0:Nat} {ad:Nat->Addr} {w:World} {b p q t v life g o:Nat} {d:DS} {S A:Nat->Prop} {l:List Tb.R} {ov:Value} {ops:List Bt.O} {j:J.JS}
set_option maxHeartbeats 8000000 in
theorem commit_snap (h:Dk n0 ad w b d S) (hT:Tbl w t l A) (hs:So.size l<=So.room d.dur.length) (hM:Sm w p b d.dur.length life t (So.rowsB l).length v q) (hi:OpsIn w ov g o ops) (hl:ops.length<=262144) (ht:∀ z ∈ ops,z.key.length<=1048576/\z.val.length<=1048576) (hdn:(d.off || decide (d.cr ≠ life)) = false) (hne:Bt.normal ops ≠ []) (hlg:¬ largestZ ((So.many d.dur.length:Nat):Int) < ((Bt.encB (Bt.normal ops)).length:Int)) (hfl:¬ So.room d.dur.length < So.size (Bt.apply l ops)) (hf:d.FewS) (h64:64<=d.dur.length) (hv:v<=1099511627776) (hpS:¬ S p) (hp0:n0<=p) (hC:CJ w q b j) (hF:J.Fine j d) (hfit:j.fits ((Bt.encB (Bt.normal ops)).length:Int) = false) (hf2:(So.nextR d l v).2.FewS) (hF2:(So.nextR d l v).1 = 0->J.Fine (So.logOf (So.nextR d l v).2 (v + 1)) (So.nextR d l v).2) (hAS:∀ k,A k->¬ S k/\k ≠ p) :
  Calls Tryz.prog 36 #[.pointer (some ⟨p,0,none⟩),ov] w (SnpTo n0 ad w b p d.dur.length life v (Bt.apply l ops) (So.nextR d l v) (So.addJ (So.logOf (So.nextR d l v).2 (v + 1)) (So.nextR d l v).2 (Bt.encB (Bt.normal ops))) S A):=by
 have hn6:=h.len
 have HD:=Lib.hid h
 have HT:=Lib.hid hT
 have HM:=Lib.hid hM
 have HI:=Lib.hid hi
 have HL:=Lib.hid hl
 have HTX:=Lib.hid ht
 have SML:=Lib.hid (small_of hl ht)
 have NSM:=Lib.hid (small_of hl ht).normal
 have RLE:=Lib.hid (rows_le hn6 hs)
 have ENL:=Lib.hid (normal_enc hl ht)
 have HN6:=Lib.hid hn6
 have HSZ:=Lib.hid hs
 have DN:=down_st h.disk hM
 rw [hdn] at DN
 have HNE:=Lib.hid hne
 have HLG:=Lib.hid hlg
 have HFL:=Lib.hid hfl
 have HPS:=Lib.hid hpS
 have HP0:=Lib.hid hp0
 have HAS:=Lib.hid hAS
 have HPW:=Lib.hid hM.lt
 have LF:=Lib.hid (fun W (x:Qt w W) (z:Int) (hz:z<=9223372036854775807)=>logFor13_any (h.qt x) hf h64 (hT.qt x) hs hv (hM.qt x) hpS (hC.kept x (fun e=>e)) hF.used (by have:=hF.fit; omega) z hz)
 have FIT:=Lib.hid hfit
 obtain ⟨m,hm⟩:∃ m,So.nextR d l v = m:=⟨_,rfl⟩
 rw [hm] at hf2 hF2 LF ⊢
 have AD:=Lib.hid (fun (hm0:m.1 = 0) (W:World) (q':Nat) (S1:Nat->Prop) (D:Dk n0 ad W b m.2 S1) (hq0:n0<=q') (hqS:¬ S1 q') (C:CJ W q' b (So.logOf m.2 (v + 1))) (s:ByteArray) (hs:s.size<=1099511627776)=>add13_any (v:=v + 1) D hq0 hqS hf2 C (hF2 hm0) s hs)
 obtain ⟨r,hr⟩:∃ r,So.addJ (So.logOf m.2 (v + 1)) m.2 (Bt.encB (Bt.normal ops)) = r:=⟨_,rfl⟩
 rw [hr]
 have HRR:=Lib.hid hr
 obtain ⟨vi,hvi⟩:∃ x:Int,((v + 1:Nat):Int) = x:=⟨_,rfl⟩
 have HVI:=Lib.hid hvi
 clear hr hm hvi
 clear h hT hM hi hl ht hn6 hs hdn hne hlg hfl hf h64 hv hpS hp0 hC hF hfit hAS hf2 hF2
 go_enter Tryz.func36,Tryz.ntmps36
 go_wp2_with fail
 refine DN.mono ?_
 rintro e w1 ⟨rfl,q1⟩
 have Q1:=Lib.hid q1
 clear DN q1
 have NM:=normal12_any w1 (recs_turn HI.out Q1.out) (by have:=HL.out; omega) (fun z hz=>by have:=(HTX.out z hz).1; unfold maxLen; omega)
 go_wp2_with fail
 refine NM.mono ?_
 rintro e w2 ⟨v2,rfl,N2⟩
 have Q2:=Lib.hid (Qt.trans Q1.out N2.qt)
 have HN2:=Lib.hid N2
 obtain ⟨g2,hi2,_⟩:=newO_in N2 (by have:=Bt.normal_length ops; have:=HL.out; omega)
 have HI2:=Lib.hid hi2
 have HCP:=Lib.hid (show ∀ a n c,v2 = .slice a n c->n<=c from fun a n c e=>by subst e; obtain ⟨x,y,ez⟩:=ownG_shape N2.own; injection ez with e1 e2 e3; subst e1 e2 e3; exact (ownG_cap N2.own).1)
 obtain ⟨oa,oc,rfl⟩:=ownG_shape N2.own
 clear NM N2 hi2
 have y0:(((Bt.normal ops).length:Int) == 0) = false:=beq_eq_false_iff_ne.2 (by have:=HNE.out; have:=List.length_pos_iff.2 this; omega)
 have y0':((Bt.normal ops).length == 0) = false:=beq_eq_false_iff_ne.2 (by have:=HNE.out; have:=List.length_pos_iff.2 this; omega)
 have y0n:¬ (Bt.normal ops = []):=HNE.out
 have EN:=encode12_any w2 HI2.out (HD.out.errs.e2.qt Q2.out) HCP.out (by have:=ENL.out; omega)
 rw [(Bt.normal_norm ops).enc,Bt.encT_ok (Bt.normal_norm ops).enc,errV_zero] at EN
 obtain ⟨sb,hsb,hsl⟩:∃ s:ByteArray,strV (Bt.encB (Bt.normal ops)) = .string s/\s.data.toList = Bt.encB (Bt.normal ops):=⟨⟨(Bt.encB (Bt.normal ops)).toArray⟩,rfl,rfl⟩
 rw [hsb] at EN
 have HSB:=Lib.hid hsl
 have HSS:=Lib.hid (show sb.size = (Bt.encB (Bt.normal ops)).length from by rw [<- hsl]; rfl)
 clear hsb hsl
 go_wp2_with fail
 refine EN.mono ?_
 rintro e w3 ⟨rfl,q3⟩
 have Q3:=Lib.hid (Qt.trans Q2.out q3)
 have HI3:=Lib.hid (recs_turn HI2.out q3)
 have LG:=largest_st HN6.out (HM.out.qt Q3.out)
 clear EN q3 y0 y0' y0n
 obtain ⟨lz,hlz⟩:∃ z,largestZ ((So.many d.dur.length:Nat):Int) = z:=⟨_,rfl⟩
 rw [hlz] at LG
 have y1:decide (lz < (sb.size:Int)) = false:=decide_eq_false (by have:=HLG.out; have:=HSS.out; omega)
 clear hlz
 go_wp2_with fail
 refine LG.mono ?_
 rintro e w4 ⟨rfl,rfl⟩
 clear LG
 have AF:=after13_any w4 (after_hyp (HT.out.qt Q3.out) RLE.out HI3.out (Bt.normal_norm ops) NSM.out)
 rw [show Bt.apply l (Bt.normal ops) = Bt.apply l ops from Bt.apply_normal HT.out.sorted ops] at AF
 have SB:=Lib.hid (show (So.rowsB (Bt.apply l ops)).length<=4611686018427387904 from by
  have h1:=So.apply_rowsB HT.out.sorted (Bt.normal ops)
  rw [Bt.apply_normal HT.out.sorted ops] at h1
  have h2:=NSM.out.opsN
  have h3:=RLE.out
  omega)
 have M4:=HM.out.qt Q3.out
 have c7:=Bk.cell M4 7 _ rfl
 have c8:=Bk.cell M4 8 _ rfl
 obtain ⟨k1,hk1⟩:∃ z,(So.rowsB l).length = z:=⟨_,rfl⟩
 have HK1:=Lib.hid hk1
 obtain ⟨k2,hk2⟩:∃ z,(So.rowsB (Bt.apply l ops)).length = z:=⟨_,rfl⟩
 have HK2:=Lib.hid hk2
 rw [hk1] at AF c8
 rw [hk2] at AF
 unfold contV at AF
 clear M4 hk1 hk2
 go_wp2_with fail
 refine AF.mono ?_
 rintro e w5 ⟨t2,A2,rfl,T5,ht5,hA5,q5⟩
 obtain ⟨W6,hW6,q6,bC,hz6⟩:=box_own w5 132 #[ptrV t2,.int .i64 (k2:Int)]
 obtain ⟨C,hC⟩:∃ C,w5.heap.size = C:=⟨_,rfl⟩
 have Q6:=Lib.hid (Qt.trans Q3.out (Qt.trans q5 q6))
 have HC:=Lib.hid (show w.heap.size<=C from by have:=Q3.out.size; have:=q5.size; omega)
 have HC6:=Lib.hid (show W6.heap.size = C + 1 from by omega)
 rw [hC] at bC
 have BC:=Lib.hid bC
 have T6:=Lib.hid (T5.qt q6)
 have LT2:=Lib.hid (show w.heap.size<=t2 from by have:=Q3.out.size; omega)
 have HA2:=Lib.hid (show ∀ k,A2 k->A k\/w.heap.size<=k from fun k hk=>by
  rcases hA5 k hk with x | x
  ·exact .inl x
  ·have:=Q3.out.size; exact .inr (by omega))
 have HAC:=Lib.hid (show ¬ A2 C from fun e=>by have:=T5.lt C e; omega)
 have SZ:=size13_any W6 T6.out SB.out
 have RM:=Lib.hid (fun W (x:Qt w W)=>room_st HN6.out (HM.out.qt x))
 rw [HK2.out] at SZ
 unfold contV at SZ
 have e0:=BC.out.cell 0 _ rfl
 have e1:=BC.out.cell 1 _ rfl
 clear AF T5 ht5 hA5 q5 q6 bC hz6 c7 c8
 go_wp2_with fail
 refine SZ.mono ?_
 rintro e w7 ⟨rfl,q7⟩
 have Q7:=Lib.hid (Qt.trans Q6.out q7)
 have BC7:=Lib.hid (BC.out.qt q7)
 have T7:=Lib.hid (T6.out.qt q7)
 have RM7:=RM.out w7 Q7.out
 clear SZ q7 RM e0 e1
 have y2:decide (((So.room d.dur.length:Nat):Int) < ((So.size (Bt.apply l ops):Nat):Int)) = false:=decide_eq_false (by have:=HFL.out; omega)
 have y2':decide (So.room d.dur.length < So.size (Bt.apply l ops)) = false:=decide_eq_false HFL.out
 go_wp2_with fail
 refine RM7.mono ?_
 rintro e w8 ⟨rfl,q8⟩
 have Q8:=Lib.hid (Qt.trans Q7.out q8)
 have BC8:=Lib.hid (BC7.out.qt q8)
 have T8:=Lib.hid (T7.out.qt q8)
 clear RM7 q8
 have LF8:=LF.out w8 Q8.out (sb.size:Int) (by have:=HSS.out; have:=ENL.out; omega)
 have FITs:j.fits (sb.size:Int) = false:=by rw [HSS.out]; exact FIT.out
 have LF9:=LF8.mono (fun e w' x=>(show BegTo n0 ad w8 b (v + 1) m S e w' from by unfold LogTo at x; rwa [if_neg (by rw [FITs]; simp)] at x))
 have SW8:=Lib.hid (show w.heap.size<=w8.heap.size from Q8.out.size)
 clear LF LF8 FITs
 by_cases hm0:m.1 = 0
 ·have LF10:=LF9.mono (fun e w' y=>y.okV hm0 HVI.out)
  have HM0:=Lib.hid hm0
  clear LF9 hm0
  go_wp2_with fail
  refine LF10.mono ?_
  rintro e w9 ⟨S1,q',rfl,hd,hc,hq,hqs⟩
  obtain ⟨W10,hW10,q10,bG,hz10⟩:=box_own w9 138 #[.int .i64 vi,.pointer (some ⟨q',0,none⟩)]
  obtain ⟨G,hG⟩:∃ G,w9.heap.size = G:=⟨_,rfl⟩
  have TD10:=Lib.hid (((HD.out.quiet Q8.out).trans hd).qt q10)
  have CN0:=Lib.hid (show ¬ S C from fun e=>by have:=HD.out.lt C e; have:=HC.out; omega)
  have SZ9:=Lib.hid (show w8.heap.size<=w9.heap.size from hd.keeps.size)
  have BC10:=Lib.hid ((BC8.out.kept hd.keeps CN0.out).qt q10)
  have A2S:=Lib.hid (show ∀ k,A2 k->¬ S k from fun k hk e=>by
   rcases HA2.out k hk with x | x
   ·exact (HAS.out k x).1 e
   ·have:=HD.out.lt k e; omega)
  have T10:=Lib.hid ((T8.out.kept hd.keeps A2S.out).qt q10)
  have M10:=Lib.hid (((HM.out.qt Q8.out).kept hd.keeps HPS.out).qt q10)
  have C10:=CJ.kept hc q10 (fun e=>e)
  rw [hG] at bG
  have BG:=Lib.hid bG
  have HG:=Lib.hid (show w.heap.size<=G from by have:=SW8.out; have:=SZ9.out; omega)
  have HQN:=Lib.hid (show w.heap.size<=q'/\q' < G from ⟨by have:=SW8.out; omega,by have:=hc.lt; omega⟩)
  have HQ8:=Lib.hid (show w8.heap.size<=q' from hq)
  have HGF:=Lib.hid (show ¬ S1 G from fun e=>by have:=hd.dk.lt G e; omega)
  have HS1:=Lib.hid (show ∀ k,S1 k->S k\/w8.heap.size<=k from hd.all)
  have S1P:=Lib.hid (show ¬ S1 p from fun e=>by
   rcases hd.all p e with x | x
   ·exact HPS.out x
   ·have:=HPW.out; have:=SW8.out; omega)
  have AD10:=AD.out HM0.out W10 q' S1 (hd.dk.qt q10) (by have:=HD.out.base; have:=SW8.out; omega) hqs C10 sb (by have:=HSS.out; have:=ENL.out; omega)
  rw [HSB.out,HRR.out,HVI.out] at AD10
  have g0:=bG.cell 0 _ rfl
  have g1:=bG.cell 1 _ rfl
  have HQS1:=Lib.hid hqs
  clear LF10 hd hc hq hqs q10 bG hz10 AD C10
  by_cases hz:r.1 = 0
  ·have TO:=Lib.hid (fun e w' (y:∃ q',w.heap.size<=q'/\DoneTo n0 ad w b p d.dur.length life (v + 1) q' p (Bt.apply l ops) r.2 S A e w')=>(show SnpTo n0 ad w b p d.dur.length life v (Bt.apply l ops) m r S A e w' from by unfold SnpTo; rw [if_neg (fun x=>x HM0.out),if_neg (fun x=>x hz)]; exact y))
   have HZ:=Lib.hid hz
   clear hz
   go_wp2_with fail
   refine AD10.mono ?_
   rintro e w11 ⟨S',rfl,D11,hall,hSq,C11,K11⟩
   have PN:=Lib.hid (show ¬ (S1 p\/p = q') from fun e=>e.elim S1P.out (fun e=>by have:=HPW.out; have:=HQN.out; omega))
   have CN:=Lib.hid (show ¬ (S1 C\/C = q') from fun e=>by
    have h1:=BC8.out.lt
    have h2:=HQ8.out
    rcases e with e | e
    ·rcases HS1.out C e with x | x
     ·exact CN0.out x
     ·omega
    ·omega)
   have GN:=Lib.hid (show ¬ (S1 G\/G = q') from fun e=>by
    have h2:=HQN.out
    rcases e with e | e
    ·exact HGF.out e
    ·omega)
   have M11:=M10.out.kept K11 PN.out
   have B11:=BC10.out.kept K11 CN.out
   have G11:=BG.out.kept K11 GN.out
   have u0:=B11.cell 0 _ rfl
   have u1:=B11.cell 1 _ rfl
   have u2:=G11.cell 0 _ rfl
   have u3:=G11.cell 1 _ rfl
   have x7:=Bk.cell M11 7 _ rfl
   have x8:=Bk.cell M11 8 _ rfl
   have x9:=Bk.cell M11 9 _ rfl
   have x10:=Bk.cell M11 10 _ rfl
   have y7:=Bk.frozen M11 7
   have y8:=Bk.frozen M11 8
   have y9:=Bk.frozen M11 9
   have y10:=Bk.frozen M11 10
   have A2N:=Lib.hid (show ∀ k,A2 k->k < w8.heap.size from fun k hk=>T8.out.lt k hk)
   have T11:=T10.out.kept K11 (fun k hk e=>by
    have h1:=A2N.out k hk
    rcases e with e | e
    ·rcases HS1.out k e with x | x
     ·exact A2S.out k hk x
     ·omega
    ·have:=HQ8.out; omega)
   have HM11:=Lib.hid M11
   have KK11:=Lib.hid K11
   have HB11:=Lib.hid B11
   have HG11:=Lib.hid G11
   have HT11:=Lib.hid T11
   have HD11:=Lib.hid D11
   have HC11:=Lib.hid C11
   have HALL:=Lib.hid hall
   have HSQ:=Lib.hid hSq
   have HPC:=Lib.hid (show ¬ p = C/\¬ p = G from ⟨fun e=>by have:=HPW.out; have:=HC.out; omega,fun e=>by have:=HPW.out; have:=HG.out; omega⟩)
   rw [HZ.out,errV_zero]
   clear AD10 D11 hall hSq C11 K11 M11 B11 G11 T11 g0 g1
   have KS:=Lib.hid (fun W' (x:Keeps (fun k=>k = p) w11 W')=>(show (W'.cell? ⟨C,0,none⟩ = some (ptrV t2)/\W'.cell? ⟨C,1,none⟩ = some (.int .i64 (k2:Int)))/\W'.cell? ⟨G,0,none⟩ = some (.int .i64 vi)/\W'.cell? ⟨G,1,none⟩ = some (.pointer (some ⟨q',0,none⟩)) from ⟨⟨(HB11.out.kept x (fun e=>HPC.out.1 e.symm)).cell 0 _ rfl,(HB11.out.kept x (fun e=>HPC.out.1 e.symm)).cell 1 _ rfl⟩,(HG11.out.kept x (fun e=>HPC.out.2 e.symm)).cell 0 _ rfl,(HG11.out.kept x (fun e=>HPC.out.2 e.symm)).cell 1 _ rfl⟩))
   have K2:=Lib.hid (fun u v'=>(show Keeps (fun k=>k = p) w11 ((w11.drew.setCell ⟨p,9,none⟩ u).setCell ⟨p,10,none⟩ v') from Keeps.trans (Keeps.trans (Keeps.drew (Keeps.refl _ w11)) (keeps_set _ p 9 u) (fun _ _ e=>e)) (keeps_set _ p 10 v') (fun _ _ e=>e)))
   have K4:=Lib.hid (fun u v' x y=>(show Keeps (fun k=>k = p) w11 ((((w11.drew.setCell ⟨p,9,none⟩ u).setCell ⟨p,10,none⟩ v').setCell ⟨p,7,none⟩ x).setCell ⟨p,8,none⟩ y) from Keeps.trans (Keeps.trans (K2.out u v') (keeps_set _ p 7 x) (fun _ _ e=>e)) (keeps_set _ p 8 y) (fun _ _ e=>e)))
   go_wp2_with fail
   go_region_held3 (fun W'=>(W'.cell? ⟨C,0,none⟩ = some (ptrV t2)/\W'.cell? ⟨C,1,none⟩ = some (.int .i64 (k2:Int)))/\W'.cell? ⟨G,0,none⟩ = some (.int .i64 vi)/\W'.cell? ⟨G,1,none⟩ = some (.pointer (some ⟨q',0,none⟩)))
    (first | exact KS.out _ (Keeps.drew (Keeps.refl _ w11)) | exact KS.out _ (K2.out _ _) | exact KS.out _ (K4.out _ _ _ _))
    (fail)
   have KF:=Lib.hid (K4.out (.int .i64 vi) (.pointer (some ⟨q',0,none⟩)) (ptrV t2) (.int .i64 (k2:Int)))
   have ZW:=Lib.hid (show w8.heap.size<=W10.heap.size from by have:=BG.out.lt; have:=SZ9.out; omega)
   have NSP:¬ S' p:=fun e=>by
    rcases HALL.out p e with x | x
    ·exact S1P.out x
    ·have:=HPW.out; have:=SW8.out; have:=ZW.out; omega
   have FIN:=Lib.hid (TO.out (.returned .nilIface) ((((w11.drew.setCell ⟨p,9,none⟩ (.int .i64 vi)).setCell ⟨p,10,none⟩ (.pointer (some ⟨q',0,none⟩))).setCell ⟨p,7,none⟩ (ptrV t2)).setCell ⟨p,8,none⟩ (.int .i64 (k2:Int))) ⟨q',HQN.out.1,S',t2,A2,rfl,
    HD11.out.kept KF.out (fun k e=>by have e:k = p:=e; have:=HP0.out; omega) (fun k e e2=>NSP (by have e2:k = p:=e2; rw [<- e2]; exact e)),
    fun k e=>by
     rcases HALL.out k e with x | x
     ·rcases HS1.out k x with y | y
      ·exact .inl y
      ·have:=SW8.out; exact .inr (by omega)
     ·have:=SW8.out; have:=ZW.out; exact .inr (by omega),
    HSQ.out,NSP,HC11.out.kept KF.out (fun e=>by have e:q' = p:=e; have:=HPW.out; have:=HQN.out; omega),
    by
     rw [HK2.out]
     have k:=(((Bk.set (Bk.drew HM11.out) 9 (.int .i64 vi)).set 10 (.pointer (some ⟨q',0,none⟩))).set 7 (ptrV t2)).set 8 (.int .i64 (k2:Int))
     rw [<- HVI.out] at k ⊢
     exact k,
    HT11.out.kept KF.out (fun k hk e=>by
     have e:k = p:=e
     rcases HA2.out k hk with x | x
     ·exact (HAS.out k x).2 e
     ·have:=HPW.out; omega),
    HA2.out,
    fun k hk=>by
     have h1:=A2N.out k hk
     refine ⟨fun e=>?_,by have:=HQ8.out; omega,?_⟩
     ·rcases HALL.out k e with y | y
      ·rcases HS1.out k y with x | x
       ·exact A2S.out k hk x
       ·omega
      ·have:=ZW.out; omega
     ·rcases HA2.out k hk with x | x
      ·exact (HAS.out k x).2
      ·have:=HPW.out; omega,
    Keeps.trans (Keeps.trans (TD10.out.keeps.mono (fun _ _ e=>.inl e)) KK11.out (fun k hk e=>by
     rcases e with e | e
     ·rcases HS1.out k e with x | x
      ·exact .inl x
      ·have:=SW8.out; omega
     ·have:=HQN.out; omega)) KF.out (fun _ _ e=>.inr (.inr e))⟩)
   go_wp2
   exact bodyPost_ret (results_tmp (t:=4) rfl _ _ _) rfl FIN.out
  ·have TO:=Lib.hid (fun e w' (y:∃ S',e = .returned (errV ad r.1)/\DkTo n0 ad w b r.2.2 S w' S')=>(show SnpTo n0 ad w b p d.dur.length life v (Bt.apply l ops) m r S A e w' from by unfold SnpTo; rw [if_neg (fun x=>x HM0.out),if_pos hz]; exact y))
   have HZ:=Lib.hid (errV_pos ad (Nat.pos_of_ne_zero hz))
   clear hz
   have ZW:=Lib.hid (show w8.heap.size<=W10.heap.size from by have:=BG.out.lt; have:=SZ9.out; omega)
   go_wp2_with fail
   refine AD10.mono ?_
   rintro e w11 ⟨S',rfl,D11,hall,hSq,C11,K11⟩
   rw [HZ.out]
   have FIN:=Lib.hid (TO.out (.returned (.iface 335 (.pointer (some (ad r.1))))) w11 ⟨S',by rw [HZ.out],D11,fun k e=>by
    rcases hall k e with x | x
    ·rcases HS1.out k x with y | y
     ·exact .inl y
     ·have:=SW8.out; exact .inr (by omega)
    ·have:=SW8.out; have:=ZW.out; exact .inr (by omega),Keeps.trans TD10.out.keeps K11 (fun k hk e=>by
    rcases e with e | e
    ·rcases HS1.out k e with x | x
     ·exact x
     ·have:=SW8.out; omega
    ·have:=HQN.out; omega)⟩)
   clear AD10 D11 hall hSq C11 K11
   go_wp2
   exact bodyPost_ret (results_tmp (t:=4) rfl _ _ _) rfl FIN.out
 ·have LF10:=LF9.mono (fun e w' y=>y.no hm0)
  have TO:=Lib.hid (fun e w' (y:∃ S',e = .returned (errV ad m.1)/\DkTo n0 ad w b m.2 S w' S')=>(show SnpTo n0 ad w b p d.dur.length life v (Bt.apply l ops) m r S A e w' from by unfold SnpTo; rw [if_pos hm0]; exact y))
  have HM0:=Lib.hid (errV_pos ad (Nat.pos_of_ne_zero hm0))
  clear LF9 hm0
  go_wp2_with fail
  refine LF10.mono ?_
  rintro e w9 ⟨S1,rfl,hd⟩
  have FIN:=Lib.hid (TO.out (.returned (.iface 335 (.pointer (some (ad m.1))))) (w9.alloc (.cells #[.int .i64 0,.pointer none] 138)) ⟨S1,by rw [HM0.out],((HD.out.quiet Q8.out).trans hd).qt ((Qt.refl w9).alloc _)⟩)
  clear LF10 hd
  go_wp2
  exact bodyPost_ret (results_tmp (t:=4) rfl _ _ _) rfl FIN.out
end
end Go.Proofs.YthjjfjhajadimaaGreatDoor
