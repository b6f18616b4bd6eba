/-
  Joined: OComp, BWt, OCommA.
-/
import Derived.Test.YthjjfjhajadimaaGreatDoorP33
namespace Go.Proofs.YthjjfjhajadimaaGreatDoor
open Go.RowKit Go.WideShapes
set_option maxRecDepth 100000
theorem BegTo.okV {n0:Nat} {ad:Nat->Addr} {w w':World} {b v:Nat} {r:Nat × DS} {S:Nat->Prop} {e:Ending} {vi:Int} (h:BegTo n0 ad w b v r S e w') (hz:r.1 = 0) (hv:((v:Nat):Int) = vi):∃ S' q,e = .returned (.tuple #[.agg #[.int .i64 vi,.pointer (some ⟨q,0,none⟩)],.nilIface])/\DkTo n0 ad w b r.2 S w' S'/\CJ w' q b (So.logOf r.2 v)/\w.heap.size<=q/\¬ S' q:=by
 subst hv
 exact h.ok hz
def CmpTo (n0:Nat) (ad:Nat->Addr) (w:World) (b p n life t k v:Nat) (dn:Bool) (r:Nat × DS) (S:Nat->Prop) (e:Ending) (w':World):Prop :=
 if dn = true then e = .returned (errV ad 12)/\Qt w w'
 else if r.1 = 0 then ∃ S' q',e = .returned .nilIface/\Dk n0 ad w' b r.2 S'/\(∀ k,S' k->S k\/w.heap.size<=k)/\Keeps (fun k=>S k\/k = p) w w'/\Sm w' p b n life t k (v + 1) q'/\CJ w' q' b (So.logOf r.2 (v + 1))/\w.heap.size<=q'/\¬ S' q'/\¬ S' p
 else ∃ S',e = .returned (errV ad r.1)/\DkTo n0 ad w b r.2 S w' S'
section
variable {n0:Nat} {ad:Nat->Addr} {w:World} {b p q t v life:Nat} {d:DS} {S A:Nat->Prop} {l:List Tb.R}
set_option maxHeartbeats 8000000 in
theorem compact13_any (h:Dk n0 ad w b d S) (hf:d.FewS) (h64:64<=d.dur.length) (hT:Tbl w t l A) (hs:So.size l<=So.room d.dur.length) (hv:v<=1099511627776) (hM:Sm w p b d.dur.length life t (So.rowsB l).length v q) (hpS:¬ S p) (hp0:n0<=p) :
  Calls Tryz.prog 37 #[.pointer (some ⟨p,0,none⟩)] w (CmpTo n0 ad w b p d.dur.length life t (So.rowsB l).length v (d.off || decide (d.cr ≠ life)) (So.nextR d l v) S):=by
 have hpw:=hM.lt
 have DN:=down_st h.disk hM
 have BH:=Lib.hid (fun W2 (x:Qt w W2)=>behind13_any (h.qt x) hf h64 (hT.qt x) hs hv)
 have HD:=Lib.hid h
 have HM:=Lib.hid hM
 have HPS:=Lib.hid hpS
 have HPW:=Lib.hid hpw
 have HP0:=Lib.hid hp0
 clear h hf h64 hT hs hpw hpS hM hv hp0
 obtain ⟨k0,hk0⟩:∃ k,(So.rowsB l).length = k:=⟨_,rfl⟩
 rw [hk0] at BH HM ⊢
 clear hk0
 unfold contV layV at BH
 obtain ⟨dn,hdn⟩:∃ x,(d.off || decide (d.cr ≠ life)) = x:=⟨_,rfl⟩
 rw [hdn] at DN ⊢
 clear hdn
 generalize d.dur.length = n at *
 cases dn with
 | true =>
  go_enter Tryz.func37,Tryz.ntmps37
  go_wp2_with fail
  refine DN.mono ?_
  rintro e w1 ⟨rfl,q1⟩
  have c12:w1.cell? ⟨6,0,none⟩ = some (.iface 335 (.pointer (some (ad 12)))):=(HD.out.qt q1).errs.cells 11 _ rfl
  have FIN:=Lib.hid q1
  clear DN q1
  go_wp2
  exact bodyPost_ret (results_tmp (t:=2) rfl _ _ _) rfl (show CmpTo n0 ad w b p n life t k0 v true _ S _ _ from ⟨rfl,FIN.out⟩)
 | false =>
  have TO:=Lib.hid (fun (e:Ending) (w':World) (x:if (So.nextR d l v).1 = 0 then ∃ S' q',e = .returned .nilIface/\Dk n0 ad w' b (So.nextR d l v).2 S'/\(∀ k,S' k->S k\/w.heap.size<=k)/\Keeps (fun k=>S k\/k = p) w w'/\Sm w' p b n life t k0 (v + 1) q'/\CJ w' q' b (So.logOf (So.nextR d l v).2 (v + 1))/\w.heap.size<=q'/\¬ S' q'/\¬ S' p else ∃ S',e = .returned (errV ad (So.nextR d l v).1)/\DkTo n0 ad w b (So.nextR d l v).2 S w' S')=>(show CmpTo n0 ad w b p n life t k0 v false (So.nextR d l v) S e w' from x))
  generalize So.nextR d l v = r at *
  generalize hE1:So.each n = ea at *
  generalize hE2:So.logAt n = lg at *
  generalize hE3:So.many n = mn at *
  have KP:=Lib.hid (fun W' (x:Qt w W')=>(show SmS p b ea lg mn t k0 v W' from by have k:=(HM.out.qt x).cells; rwa [hE1,hE2,hE3] at k))
  have KD:=Lib.hid (fun W1 W' d' S' (x:Qt w W1) (y:DkTo n0 ad W1 b d' S W' S')=>(show SmS p b ea lg mn t k0 v W' from by have k:=((HM.out.qt x).kept y.keeps HPS.out).cells; rwa [hE1,hE2,hE3] at k))
  have KA:=Lib.hid (fun W1 W' d' S' (x:Qt w W1) (y:DkTo n0 ad W1 b d' S W' S') o=>(show SmS p b ea lg mn t k0 v (W'.alloc o) from by have k:=(((HM.out.qt x).kept y.keeps HPS.out).qt ((Qt.refl W').alloc o)).cells; rwa [hE1,hE2,hE3] at k))
  have KW:=Lib.hid (fun W1 W' d' S' (x:Qt w W1) (y:DkTo n0 ad W1 b d' S W' S') o u0 u1=>(show SmS p b ea lg mn t k0 v (((W'.alloc o).setCell ⟨W'.heap.size,0,none⟩ u0).setCell ⟨W'.heap.size,1,none⟩ u1) from by
   have k:=(((HM.out.qt x).kept y.keeps HPS.out).qt (qt_set (qt_set ((Qt.refl W').alloc o) (Nat.le_refl _) 0 u0) (Nat.le_refl _) 1 u1)).cells
   rwa [hE1,hE2,hE3] at k))
  have KV:=Lib.hid (fun W1 W' d' S' R (x:Qt w W1) (y:DkTo n0 ad W1 b d' S W' S') (hR:w.heap.size<=R) u0 u1=>(show SmS p b ea lg mn t k0 v ((W'.setCell ⟨R,0,none⟩ u0).setCell ⟨R,1,none⟩ u1) from by
   have hne:¬ p = R:=fun e=>by have:=HPW.out; omega
   have k:=((((HM.out.qt x).kept y.keeps HPS.out).kept (keeps_set W' R 0 u0) hne).kept (keeps_set _ R 1 u1) hne).cells
   rwa [hE1,hE2,hE3] at k))
  unfold SmS at KP KD KA KW KV
  clear hE1 hE2 hE3
  by_cases hz:r.1 = 0
  ·obtain ⟨vi,hvi⟩:∃ x:Int,((v + 1:Nat):Int) = x:=⟨_,rfl⟩
   have HVI:=Lib.hid hvi
   clear hvi
   have BH2:=Lib.hid (fun W2 (x:Qt w W2)=>(BH.out W2 x).mono fun e w' y=>y.okV hz HVI.out)
   have TO2:=Lib.hid (fun e w' y=>TO.out e w' (by rw [if_pos hz]; exact y))
   clear hz BH TO
   go_enter Tryz.func37,Tryz.ntmps37
   go_wp2_with fail
   refine DN.mono ?_
   rintro e w1 ⟨rfl,q1⟩
   have QW1:=Lib.hid q1
   have HW1:=Lib.hid (show w.heap.size<=w1.heap.size from q1.size)
   have HNR:=Lib.hid (show ¬ S w1.heap.size from fun e=>by have:=HD.out.lt _ e; have:=HW1.out; omega)
   clear DN q1
   go_wp2_with fail
   go_region_held3 (fun W'=>W'.cell? ⟨p,0,none⟩ = some (.pointer (some ⟨b,0,none⟩))/\W'.cell? ⟨p,1,none⟩ = some (.int .i64 2)/\W'.cell? ⟨p,2,none⟩ = some (.int .i64 (2 + (ea:Int)))/\W'.cell? ⟨p,3,none⟩ = some (.int .i64 (ea:Int))/\W'.cell? ⟨p,4,none⟩ = some (.int .i64 (lg:Int))/\W'.cell? ⟨p,5,none⟩ = some (.int .i64 (mn:Int))/\W'.cell? ⟨p,7,none⟩ = some (ptrV t)/\W'.cell? ⟨p,8,none⟩ = some (.int .i64 (k0:Int))/\W'.cell? ⟨p,9,none⟩ = some (.int .i64 (v:Int)))
    (first | exact KP.out _ (Keeps.drew QW1.out) | exact KD.out _ _ _ _ (Keeps.drew QW1.out) hd | exact KA.out _ _ _ _ (Keeps.drew QW1.out) hd _ | exact KW.out _ _ _ _ (Keeps.drew QW1.out) hd _ _ _ | exact KP.out _ (Keeps.drew (QW1.out.alloc _)) | exact KD.out _ _ _ _ (Keeps.drew (QW1.out.alloc _)) hd | exact KV.out _ _ _ _ _ (Keeps.drew (QW1.out.alloc _)) hd HW1.out _ _)
    (first
     | (go_at_call 85; refine (BH2.out _ (Keeps.drew QW1.out)).mono ?_; rintro e w2 ⟨S',q',rfl,hd,hc,hq,hqs⟩)
     | (go_at_call 85; refine (BH2.out _ (Keeps.drew (QW1.out.alloc _))).mono ?_; rintro e w2 ⟨S',q',rfl,hd,hc,hq,hqs⟩; have B2:=((Bk.new w1 138 #[.int .i64 0,.pointer none]).drew).kept hd.keeps HNR.out; have r0:=B2.cell 0 _ rfl; have r1:=B2.cell 1 _ rfl; have s0:=B2.frozen 0; have s1:=B2.frozen 1))
   ·have Q2:=Keeps.drew QW1.out
    have TD0:=(HD.out.quiet Q2).trans hd
    obtain ⟨W3,hW3,TD,B3,M3,GR⟩:∃ W3,w2.alloc (.cells #[.int .i64 vi,.pointer (some ⟨q',0,none⟩)] 138) = W3/\DkTo n0 ad w b r.2 S W3 S'/\Bk W3 w2.heap.size 138 [.int .i64 vi,.pointer (some ⟨q',0,none⟩)]/\Sm W3 p b n life t k0 v q/\Keeps (fun k=>k = w2.heap.size) w2 W3 :=
     ⟨_,rfl,TD0.qt ((Qt.refl _).alloc _),Bk.new w2 _ _,((HM.out.qt Q2).kept hd.keeps HPS.out).qt ((Qt.refl _).alloc _),((Qt.refl w2).alloc _).mono (fun _ _ e=>e.elim)⟩
    obtain ⟨R,hR⟩:∃ R,w2.heap.size = R:=⟨_,rfl⟩
    have HRn:=Lib.hid (show w.heap.size<=R from by have:=TD0.keeps.size; omega)
    rw [hR] at B3 GR
    have hqR:¬ q' = R:=fun e=>by have:=hc.lt; omega
    have hqw:w.heap.size<=q':=by
     have e3:w1.drew.heap.size = w1.heap.size:=rfl
     have:=HW1.out
     omega
    have HTD:=Lib.hid TD
    have HM3:=Lib.hid M3
    have CQ3:=Lib.hid (CJ.kept hc GR hqR)
    have HQN:=Lib.hid (show w.heap.size<=q' from hqw)
    have HQS:=Lib.hid hqs
    have HPS':=Lib.hid (show ¬ S' p from fun e=>by rcases TD.all _ e with x | x; exact HPS.out x; have:=HPW.out; omega)
    have z0:=B3.cell 0 _ rfl
    have z1:=B3.cell 1 _ rfl
    have x9:=Bk.cell M3 9 _ rfl
    have x10:=Bk.cell M3 10 _ rfl
    have y9:=Bk.frozen M3 9
    have y10:=Bk.frozen M3 10
    have FIN:=Lib.hid (TO2.out (.returned .nilIface) ((W3.setCell ⟨p,9,none⟩ (.int .i64 vi)).setCell ⟨p,10,none⟩ (.pointer (some ⟨q',0,none⟩))) ⟨S',q',rfl,(HTD.out.dk.kept (keeps_set _ p 9 _) (fun k e=>by have:=HP0.out; omega) (fun k e e2=>HPS'.out (by have e2:k = p:=e2; rw [<- e2]; exact e))).kept (keeps_set _ p 10 _) (fun k e=>by have:=HP0.out; omega) (fun k e e2=>HPS'.out (by have e2:k = p:=e2; rw [<- e2]; exact e)),HTD.out.all,Keeps.trans (HTD.out.keeps.mono (fun _ _ e=>.inl e)) (Keeps.trans (keeps_set _ p 9 _) (keeps_set _ p 10 _) (fun _ _ e=>e)) (fun _ _ e=>.inr e),(show Sm _ p b n life t k0 (v + 1) q' from by have k:=Bk.set (Bk.set HM3.out 9 (.int .i64 vi)) 10 (.pointer (some ⟨q',0,none⟩)); rw [<- HVI.out] at k ⊢; exact k),CJ.kept (CJ.kept CQ3.out (keeps_set _ p 9 _) (fun e=>by have e:q' = p:=e; have:=HPW.out; have:=HQN.out; omega)) (keeps_set _ p 10 _) (fun e=>by have e:q' = p:=e; have:=HPW.out; have:=HQN.out; omega),HQN.out,HQS.out,HPS'.out⟩)
    clear TD B3 M3 GR TD0 Q2 hd hc hq hqs hqR hqw
    go_wp2
    exact bodyPost_ret (results_tmp (t:=2) rfl _ _ _) rfl FIN.out
   ·have Q2:=Keeps.drew (QW1.out.alloc (.cells #[.int .i64 0,.pointer none] 138))
    have TD0:=(HD.out.quiet Q2).trans hd
    have hRS:¬ S' w1.heap.size:=fun e=>by
     rcases hd.all _ e with x | x
     ·exact HNR.out x
     ·have e3:(w1.alloc (.cells #[.int .i64 0,.pointer none] 138)).drew.heap.size = w1.heap.size + 1:=by show (w1.alloc _).heap.size = _; simp
      omega
    have hn0R:n0<=w1.heap.size:=by have:=HD.out.base; have:=HW1.out; omega
    obtain ⟨W3,hW3,TD,B3,M3,GR⟩:∃ W3,(w2.setCell ⟨w1.heap.size,0,none⟩ (.int .i64 vi)).setCell ⟨w1.heap.size,1,none⟩ (.pointer (some ⟨q',0,none⟩)) = W3/\DkTo n0 ad w b r.2 S W3 S'/\Bk W3 w1.heap.size 138 [.int .i64 vi,.pointer (some ⟨q',0,none⟩)]/\Sm W3 p b n life t k0 v q/\Keeps (fun k=>k = w1.heap.size) w2 W3 :=
     ⟨_,rfl,(TD0.box hn0R HW1.out hRS 0 _).box hn0R HW1.out hRS 1 _,(B2.set 0 _).set 1 _,(((HM.out.qt Q2).kept hd.keeps HPS.out).kept (keeps_set _ _ _ _) (fun e=>by have:=HPW.out; have:=HW1.out; omega)).kept (keeps_set _ _ _ _) (fun e=>by have:=HPW.out; have:=HW1.out; omega),Keeps.trans (keeps_set _ _ _ _) (keeps_set _ _ _ _) (fun _ _ e=>e)⟩
    obtain ⟨R,hR⟩:∃ R,w1.heap.size = R:=⟨_,rfl⟩
    have HRn:=Lib.hid (show w.heap.size<=R from by have:=HW1.out; omega)
    rw [hR] at B3 GR hW3
    have hqR:¬ q' = R:=fun e=>by
     have e3:(w1.alloc (.cells #[.int .i64 0,.pointer none] 138)).drew.heap.size = w1.heap.size + 1:=by show (w1.alloc _).heap.size = _; simp
     omega
    have hqw:w.heap.size<=q':=by
     have e3:(w1.alloc (.cells #[.int .i64 0,.pointer none] 138)).drew.heap.size = w1.heap.size + 1:=by show (w1.alloc _).heap.size = _; simp
     have:=HW1.out
     omega
    have HTD:=Lib.hid TD
    have HM3:=Lib.hid M3
    have CQ3:=Lib.hid (CJ.kept hc GR hqR)
    have HQN:=Lib.hid (show w.heap.size<=q' from hqw)
    have HQS:=Lib.hid hqs
    have HPS':=Lib.hid (show ¬ S' p from fun e=>by rcases TD.all _ e with x | x; exact HPS.out x; have:=HPW.out; omega)
    have z0:=B3.cell 0 _ rfl
    have z1:=B3.cell 1 _ rfl
    have x9:=Bk.cell M3 9 _ rfl
    have x10:=Bk.cell M3 10 _ rfl
    have y9:=Bk.frozen M3 9
    have y10:=Bk.frozen M3 10
    have FIN:=Lib.hid (TO2.out (.returned .nilIface) ((W3.setCell ⟨p,9,none⟩ (.int .i64 vi)).setCell ⟨p,10,none⟩ (.pointer (some ⟨q',0,none⟩))) ⟨S',q',rfl,(HTD.out.dk.kept (keeps_set _ p 9 _) (fun k e=>by have:=HP0.out; omega) (fun k e e2=>HPS'.out (by have e2:k = p:=e2; rw [<- e2]; exact e))).kept (keeps_set _ p 10 _) (fun k e=>by have:=HP0.out; omega) (fun k e e2=>HPS'.out (by have e2:k = p:=e2; rw [<- e2]; exact e)),HTD.out.all,Keeps.trans (HTD.out.keeps.mono (fun _ _ e=>.inl e)) (Keeps.trans (keeps_set _ p 9 _) (keeps_set _ p 10 _) (fun _ _ e=>e)) (fun _ _ e=>.inr e),(show Sm _ p b n life t k0 (v + 1) q' from by have k:=Bk.set (Bk.set HM3.out 9 (.int .i64 vi)) 10 (.pointer (some ⟨q',0,none⟩)); rw [<- HVI.out] at k ⊢; exact k),CJ.kept (CJ.kept CQ3.out (keeps_set _ p 9 _) (fun e=>by have e:q' = p:=e; have:=HPW.out; have:=HQN.out; omega)) (keeps_set _ p 10 _) (fun e=>by have e:q' = p:=e; have:=HPW.out; have:=HQN.out; omega),HQN.out,HQS.out,HPS'.out⟩)
    clear TD B3 M3 GR TD0 Q2 hd hc hq hqs hqR hqw
    go_wp2
    exact bodyPost_ret (results_tmp (t:=2) rfl _ _ _) rfl FIN.out
  ·have BH2:=Lib.hid (fun W2 (x:Qt w W2)=>(BH.out W2 x).mono fun e w' y=>y.no hz)
   have TO2:=Lib.hid (fun e w' y=>TO.out e w' (by rw [if_neg hz]; exact y))
   have HZ0:=Lib.hid (errV_pos ad (Nat.pos_of_ne_zero hz))
   clear hz BH TO
   go_enter Tryz.func37,Tryz.ntmps37
   go_wp2_with fail
   refine DN.mono ?_
   rintro e w1 ⟨rfl,q1⟩
   have QW1:=Lib.hid q1
   have HW1:=Lib.hid (show w.heap.size<=w1.heap.size from q1.size)
   have HNR:=Lib.hid (show ¬ S w1.heap.size from fun e=>by have:=HD.out.lt _ e; have:=HW1.out; omega)
   clear DN q1
   go_wp2_with fail
   go_region_held3 (fun W'=>W'.cell? ⟨p,0,none⟩ = some (.pointer (some ⟨b,0,none⟩))/\W'.cell? ⟨p,1,none⟩ = some (.int .i64 2)/\W'.cell? ⟨p,2,none⟩ = some (.int .i64 (2 + (ea:Int)))/\W'.cell? ⟨p,3,none⟩ = some (.int .i64 (ea:Int))/\W'.cell? ⟨p,4,none⟩ = some (.int .i64 (lg:Int))/\W'.cell? ⟨p,5,none⟩ = some (.int .i64 (mn:Int))/\W'.cell? ⟨p,7,none⟩ = some (ptrV t)/\W'.cell? ⟨p,8,none⟩ = some (.int .i64 (k0:Int))/\W'.cell? ⟨p,9,none⟩ = some (.int .i64 (v:Int)))
    (first | exact KP.out _ (Keeps.drew QW1.out) | exact KD.out _ _ _ _ (Keeps.drew QW1.out) hd | exact KA.out _ _ _ _ (Keeps.drew QW1.out) hd _ | exact KW.out _ _ _ _ (Keeps.drew QW1.out) hd _ _ _ | exact KP.out _ (Keeps.drew (QW1.out.alloc _)) | exact KD.out _ _ _ _ (Keeps.drew (QW1.out.alloc _)) hd | exact KV.out _ _ _ _ _ (Keeps.drew (QW1.out.alloc _)) hd HW1.out _ _)
    (first
     | (go_at_call 85; refine (BH2.out _ (Keeps.drew QW1.out)).mono ?_; rintro e w2 ⟨S',rfl,hd⟩)
     | (go_at_call 85; refine (BH2.out _ (Keeps.drew (QW1.out.alloc _))).mono ?_; rintro e w2 ⟨S',rfl,hd⟩; have B2:=((Bk.new w1 138 #[.int .i64 0,.pointer none]).drew).kept hd.keeps HNR.out; have r0:=B2.cell 0 _ rfl; have r1:=B2.cell 1 _ rfl; have s0:=B2.frozen 0; have s1:=B2.frozen 1))
   ·have Q2:=Keeps.drew QW1.out
    have TD0:=(HD.out.quiet Q2).trans hd
    obtain ⟨W3,hW3,TD,B3,M3,GR⟩:∃ W3,w2.alloc (.cells #[.int .i64 0,.pointer none] 138) = W3/\DkTo n0 ad w b r.2 S W3 S'/\Bk W3 w2.heap.size 138 [.int .i64 0,.pointer none]/\Sm W3 p b n life t k0 v q/\Keeps (fun k=>k = w2.heap.size) w2 W3 :=
     ⟨_,rfl,TD0.qt ((Qt.refl _).alloc _),Bk.new w2 _ _,((HM.out.qt Q2).kept hd.keeps HPS.out).qt ((Qt.refl _).alloc _),((Qt.refl w2).alloc _).mono (fun _ _ e=>e.elim)⟩
    obtain ⟨R,hR⟩:∃ R,w2.heap.size = R:=⟨_,rfl⟩
    have HRn:=Lib.hid (show w.heap.size<=R from by have:=TD0.keeps.size; omega)
    rw [hR] at B3 GR
    have HTD:=Lib.hid TD
    have z0:=B3.cell 0 _ rfl
    have z1:=B3.cell 1 _ rfl
    have FIN:=Lib.hid (TO2.out (.returned (.iface 335 (.pointer (some (ad r.1))))) W3 ⟨S',by rw [HZ0.out],HTD.out⟩)
    clear TD B3 M3 GR TD0 Q2 hd
    go_wp2
    exact bodyPost_ret (results_tmp (t:=2) rfl _ _ _) rfl FIN.out
   ·have Q2:=Keeps.drew (QW1.out.alloc (.cells #[.int .i64 0,.pointer none] 138))
    have TD0:=(HD.out.quiet Q2).trans hd
    have hRS:¬ S' w1.heap.size:=fun e=>by
     rcases hd.all _ e with x | x
     ·exact HNR.out x
     ·have e3:(w1.alloc (.cells #[.int .i64 0,.pointer none] 138)).drew.heap.size = w1.heap.size + 1:=by show (w1.alloc _).heap.size = _; simp
      omega
    have hn0R:n0<=w1.heap.size:=by have:=HD.out.base; have:=HW1.out; omega
    obtain ⟨W3,hW3,TD,B3,M3,GR⟩:∃ W3,(w2.setCell ⟨w1.heap.size,0,none⟩ (.int .i64 0)).setCell ⟨w1.heap.size,1,none⟩ (.pointer none) = W3/\DkTo n0 ad w b r.2 S W3 S'/\Bk W3 w1.heap.size 138 [.int .i64 0,.pointer none]/\Sm W3 p b n life t k0 v q/\Keeps (fun k=>k = w1.heap.size) w2 W3 :=
     ⟨_,rfl,(TD0.box hn0R HW1.out hRS 0 _).box hn0R HW1.out hRS 1 _,(B2.set 0 _).set 1 _,(((HM.out.qt Q2).kept hd.keeps HPS.out).kept (keeps_set _ _ _ _) (fun e=>by have:=HPW.out; have:=HW1.out; omega)).kept (keeps_set _ _ _ _) (fun e=>by have:=HPW.out; have:=HW1.out; omega),Keeps.trans (keeps_set _ _ _ _) (keeps_set _ _ _ _) (fun _ _ e=>e)⟩
    obtain ⟨R,hR⟩:∃ R,w1.heap.size = R:=⟨_,rfl⟩
    have HRn:=Lib.hid (show w.heap.size<=R from by have:=HW1.out; omega)
    rw [hR] at B3 GR hW3
    have HTD:=Lib.hid TD
    have z0:=B3.cell 0 _ rfl
    have z1:=B3.cell 1 _ rfl
    have FIN:=Lib.hid (TO2.out (.returned (.iface 335 (.pointer (some (ad r.1))))) W3 ⟨S',by rw [HZ0.out],HTD.out⟩)
    clear TD B3 M3 GR TD0 Q2 hd
    go_wp2
    exact bodyPost_ret (results_tmp (t:=2) rfl _ _ _) rfl FIN.out
end
namespace Bt
def wt (ops:List O):Nat:=(ops.map fun o=>o.key.length + o.val.length + 4).sum
theorem wt_cons (o:O) (ops:List O):wt (o :: ops) = o.key.length + o.val.length + 4 + wt ops:=by simp [wt]
theorem wt_len (ops:List O):ops.length * 4<=wt ops:=by
 induction ops with
 | nil=>exact Nat.zero_le _
 | cons o os ih=>rw [wt_cons,List.length_cons]; omega
theorem textB_le {t:Tb.Txt} (h:t.length<=1048576):(Go.Proofs.YthjjfjhajadimaaGreatDoor.textB t).length<=t.length + 10:=by
 unfold Go.Proofs.YthjjfjhajadimaaGreatDoor.textB
 have:=Lib.uvarint_length64 (x:=t.length) (by omega)
 rw [List.length_append]
 omega
theorem opB_le {o:O} (hk:o.key.length<=1048576) (hv:o.val.length<=1048576):(opB o).length<=2097173:=by
 have h1:=textB_le hk
 have h2:=textB_le hv
 unfold opB
 split
 ·rw [List.length_cons]; omega
 ·rw [List.length_cons,List.length_append]; omega
theorem opsB_most:∀ (ops:List O),(∀ o ∈ ops,o.key.length<=1048576/\o.val.length<=1048576)->(opsB ops).length<=ops.length * 2097173
 | [],_=>Nat.zero_le _
 | o :: os,h=>by
  have ih:=opsB_most os (fun p hp=>h p (by simp [hp]))
  have h0:=opB_le (h o (by simp)).1 (h o (by simp)).2
  have e:opsB (o :: os) = opB o ++ opsB os:=by simp [opsB]
  rw [e,List.length_append,List.length_cons]
  omega
theorem encB_most {ops:List O} (hl:ops.length<=262144) (h:∀ o ∈ ops,o.key.length<=1048576/\o.val.length<=1048576):(encB ops).length<=549762596864:=by
 have h1:=opsB_most ops h
 have h2:=Lib.uvarint_length64 (x:=ops.length) (by omega)
 unfold encB
 rw [List.length_append]
 omega
end Bt
theorem small_of {ops:List Bt.O} (hl:ops.length<=262144) (ht:∀ z ∈ ops,z.key.length<=1048576/\z.val.length<=1048576):Bt.Small ops:=⟨by omega,fun z hz=>by have:=ht z hz; omega⟩
theorem normal_texts {ops:List Bt.O} (ht:∀ z ∈ ops,z.key.length<=1048576/\z.val.length<=1048576):∀ z ∈ Bt.normal ops,z.key.length<=1048576/\z.val.length<=1048576:=fun z hz=>by
 obtain ⟨p,hp,rfl⟩:=Bt.normal_mem hz
 have h1:=Bt.clean_len p
 have h2:=ht p hp
 exact ⟨by omega,by omega⟩
theorem normal_enc {ops:List Bt.O} (hl:ops.length<=262144) (ht:∀ z ∈ ops,z.key.length<=1048576/\z.val.length<=1048576):(Bt.encB (Bt.normal ops)).length<=549762596864 :=
 Bt.encB_most (Nat.le_trans (Bt.normal_length ops) hl) (normal_texts ht)
theorem rows_le {l:List Tb.R} {n:Nat} (hn:n<=65536) (hs:So.size l<=So.room n):(So.rowsB l).length<=1099511627776:=by
 have h1:=So.size_eq l
 have h2:So.room n<=5111574:=by unfold So.room So.each; omega
 omega
section
variable {n0:Nat} {ad:Nat->Addr} {w:World} {b p q t v life g o:Nat} {d:DS} {S A:Nat->Prop} {l:List Tb.R} {ov:Value} {ops:List Bt.O}
set_option maxHeartbeats 8000000 in
theorem commit_down (h:Dk n0 ad w b d S) (hT:Tbl w t l A) (hs:So.size l<=So.room d.dur.length) (hM:Sm w p b d.dur.length life t (So.rowsB l).length v q) (hi:OpsIn w ov g o ops) (hl:ops.length<=262144) (ht:∀ z ∈ ops,z.key.length<=1048576/\z.val.length<=1048576) (hdn:(d.off || decide (d.cr ≠ life)) = true) :
  Calls Tryz.prog 36 #[.pointer (some ⟨p,0,none⟩),ov] w fun e w'=>e = .returned (.iface 335 (.pointer (some (ad 12))))/\Qt w w':=by
 have hn6:=h.len
 have HD:=Lib.hid h
 have HT:=Lib.hid hT
 have HM:=Lib.hid hM
 have HI:=Lib.hid hi
 have HL:=Lib.hid hl
 have HTX:=Lib.hid ht
 have SML:=Lib.hid (small_of hl ht)
 have NSM:=Lib.hid (small_of hl ht).normal
 have RLE:=Lib.hid (rows_le hn6 hs)
 have ENL:=Lib.hid (normal_enc hl ht)
 have HN6:=Lib.hid hn6
 have HSZ:=Lib.hid hs
 have DN:=down_st h.disk hM
 rw [hdn] at DN
 clear h hT hM hi hl ht hn6 hs hdn
 go_enter Tryz.func36,Tryz.ntmps36
 go_wp2_with fail
 refine DN.mono ?_
 rintro e w1 ⟨rfl,q1⟩
 have Q1:=Lib.hid q1
 clear DN q1
 have c12:w1.cell? ⟨6,0,none⟩ = some (.iface 335 (.pointer (some (ad 12)))):=(HD.out.qt Q1.out).errs.cells 11 _ rfl
 have FIN:=Lib.hid Q1.out
 go_wp2
 exact bodyPost_ret (results_tmp (t:=4) rfl _ _ _) rfl ⟨rfl,FIN.out⟩
set_option maxHeartbeats 8000000 in
theorem commit_none (h:Dk n0 ad w b d S) (hT:Tbl w t l A) (hs:So.size l<=So.room d.dur.length) (hM:Sm w p b d.dur.length life t (So.rowsB l).length v q) (hi:OpsIn w ov g o ops) (hl:ops.length<=262144) (ht:∀ z ∈ ops,z.key.length<=1048576/\z.val.length<=1048576) (hdn:(d.off || decide (d.cr ≠ life)) = false) (hne:Bt.normal ops = []) :
  Calls Tryz.prog 36 #[.pointer (some ⟨p,0,none⟩),ov] w fun e w'=>e = .returned .nilIface/\Qt w w':=by
 have hn6:=h.len
 have HD:=Lib.hid h
 have HT:=Lib.hid hT
 have HM:=Lib.hid hM
 have HI:=Lib.hid hi
 have HL:=Lib.hid hl
 have HTX:=Lib.hid ht
 have SML:=Lib.hid (small_of hl ht)
 have NSM:=Lib.hid (small_of hl ht).normal
 have RLE:=Lib.hid (rows_le hn6 hs)
 have ENL:=Lib.hid (normal_enc hl ht)
 have HN6:=Lib.hid hn6
 have HSZ:=Lib.hid hs
 have DN:=down_st h.disk hM
 rw [hdn] at DN
 have HNE:=Lib.hid hne
 clear h hT hM hi hl ht hn6 hs hdn hne
 go_enter Tryz.func36,Tryz.ntmps36
 go_wp2_with fail
 refine DN.mono ?_
 rintro e w1 ⟨rfl,q1⟩
 have Q1:=Lib.hid q1
 clear DN q1
 have NM:=normal12_any w1 (recs_turn HI.out Q1.out) (by have:=HL.out; omega) (fun z hz=>by have:=(HTX.out z hz).1; unfold maxLen; omega)
 go_wp2_with fail
 refine NM.mono ?_
 rintro e w2 ⟨v2,rfl,N2⟩
 have Q2:=Lib.hid (Qt.trans Q1.out N2.qt)
 have HN2:=Lib.hid N2
 obtain ⟨g2,hi2,_⟩:=newO_in N2 (by have:=Bt.normal_length ops; have:=HL.out; omega)
 have HI2:=Lib.hid hi2
 have HCP:=Lib.hid (show ∀ a n c,v2 = .slice a n c->n<=c from fun a n c e=>by subst e; obtain ⟨x,y,ez⟩:=ownG_shape N2.own; injection ez with e1 e2 e3; subst e1 e2 e3; exact (ownG_cap N2.own).1)
 obtain ⟨oa,oc,rfl⟩:=ownG_shape N2.own
 clear NM N2 hi2
 have FIN:=Lib.hid Q2.out
 have HY:=HNE.out
 rw [HY]
 have z0:(([]:List Bt.O).length:Int) = 0:=rfl
 go_wp2
 exact bodyPost_ret (results_tmp (t:=4) rfl _ _ _) rfl ⟨rfl,FIN.out⟩
set_option maxHeartbeats 8000000 in
theorem commit_large (h:Dk n0 ad w b d S) (hT:Tbl w t l A) (hs:So.size l<=So.room d.dur.length) (hM:Sm w p b d.dur.length life t (So.rowsB l).length v q) (hi:OpsIn w ov g o ops) (hl:ops.length<=262144) (ht:∀ z ∈ ops,z.key.length<=1048576/\z.val.length<=1048576) (hdn:(d.off || decide (d.cr ≠ life)) = false) (hne:Bt.normal ops ≠ []) (hlg:largestZ ((So.many d.dur.length:Nat):Int) < ((Bt.encB (Bt.normal ops)).length:Int)) :
  Calls Tryz.prog 36 #[.pointer (some ⟨p,0,none⟩),ov] w fun e w'=>e = .returned (.iface 335 (.pointer (some (ad 18))))/\Qt w w':=by
 have hn6:=h.len
 have HD:=Lib.hid h
 have HT:=Lib.hid hT
 have HM:=Lib.hid hM
 have HI:=Lib.hid hi
 have HL:=Lib.hid hl
 have HTX:=Lib.hid ht
 have SML:=Lib.hid (small_of hl ht)
 have NSM:=Lib.hid (small_of hl ht).normal
 have RLE:=Lib.hid (rows_le hn6 hs)
 have ENL:=Lib.hid (normal_enc hl ht)
 have HN6:=Lib.hid hn6
 have HSZ:=Lib.hid hs
 have DN:=down_st h.disk hM
 rw [hdn] at DN
 have HNE:=Lib.hid hne
 have HLG:=Lib.hid hlg
 clear h hT hM hi hl ht hn6 hs hdn hne hlg
 go_enter Tryz.func36,Tryz.ntmps36
 go_wp2_with fail
 refine DN.mono ?_
 rintro e w1 ⟨rfl,q1⟩
 have Q1:=Lib.hid q1
 clear DN q1
 have NM:=normal12_any w1 (recs_turn HI.out Q1.out) (by have:=HL.out; omega) (fun z hz=>by have:=(HTX.out z hz).1; unfold maxLen; omega)
 go_wp2_with fail
 refine NM.mono ?_
 rintro e w2 ⟨v2,rfl,N2⟩
 have Q2:=Lib.hid (Qt.trans Q1.out N2.qt)
 have HN2:=Lib.hid N2
 obtain ⟨g2,hi2,_⟩:=newO_in N2 (by have:=Bt.normal_length ops; have:=HL.out; omega)
 have HI2:=Lib.hid hi2
 have HCP:=Lib.hid (show ∀ a n c,v2 = .slice a n c->n<=c from fun a n c e=>by subst e; obtain ⟨x,y,ez⟩:=ownG_shape N2.own; injection ez with e1 e2 e3; subst e1 e2 e3; exact (ownG_cap N2.own).1)
 obtain ⟨oa,oc,rfl⟩:=ownG_shape N2.own
 clear NM N2 hi2
 have y0:(((Bt.normal ops).length:Int) == 0) = false:=beq_eq_false_iff_ne.2 (by have:=HNE.out; have:=List.length_pos_iff.2 this; omega)
 have y0':((Bt.normal ops).length == 0) = false:=beq_eq_false_iff_ne.2 (by have:=HNE.out; have:=List.length_pos_iff.2 this; omega)
 have y0n:¬ (Bt.normal ops = []):=HNE.out
 have EN:=encode12_any w2 HI2.out (HD.out.errs.e2.qt Q2.out) HCP.out (by have:=ENL.out; omega)
 rw [(Bt.normal_norm ops).enc,Bt.encT_ok (Bt.normal_norm ops).enc,errV_zero] at EN
 obtain ⟨sb,hsb,hsl⟩:∃ s:ByteArray,strV (Bt.encB (Bt.normal ops)) = .string s/\s.data.toList = Bt.encB (Bt.normal ops):=⟨⟨(Bt.encB (Bt.normal ops)).toArray⟩,rfl,rfl⟩
 rw [hsb] at EN
 have HSB:=Lib.hid hsl
 have HSS:=Lib.hid (show sb.size = (Bt.encB (Bt.normal ops)).length from by rw [<- hsl]; rfl)
 clear hsb hsl
 go_wp2_with fail
 refine EN.mono ?_
 rintro e w3 ⟨rfl,q3⟩
 have Q3:=Lib.hid (Qt.trans Q2.out q3)
 have HI3:=Lib.hid (recs_turn HI2.out q3)
 have LG:=largest_st HN6.out (HM.out.qt Q3.out)
 clear EN q3 y0 y0' y0n
 obtain ⟨lz,hlz⟩:∃ z,largestZ ((So.many d.dur.length:Nat):Int) = z:=⟨_,rfl⟩
 rw [hlz] at LG
 have y1:decide (lz < (sb.size:Int)) = true:=decide_eq_true (by have:=HLG.out; have:=HSS.out; omega)
 clear hlz
 go_wp2_with fail
 refine LG.mono ?_
 rintro e w4 ⟨rfl,rfl⟩
 clear LG
 have c18:w4.cell? ⟨7,0,none⟩ = some (.iface 335 (.pointer (some (ad 18)))):=(HD.out.qt Q3.out).errs.cells 17 _ rfl
 have FIN:=Lib.hid Q3.out
 go_wp2
 exact bodyPost_ret (results_tmp (t:=4) rfl _ _ _) rfl ⟨rfl,FIN.out⟩
set_option maxHeartbeats 8000000 in
theorem commit_full (h:Dk n0 ad w b d S) (hT:Tbl w t l A) (hs:So.size l<=So.room d.dur.length) (hM:Sm w p b d.dur.length life t (So.rowsB l).length v q) (hi:OpsIn w ov g o ops) (hl:ops.length<=262144) (ht:∀ z ∈ ops,z.key.length<=1048576/\z.val.length<=1048576) (hdn:(d.off || decide (d.cr ≠ life)) = false) (hne:Bt.normal ops ≠ []) (hlg:¬ largestZ ((So.many d.dur.length:Nat):Int) < ((Bt.encB (Bt.normal ops)).length:Int)) (hfl:So.room d.dur.length < So.size (Bt.apply l ops)) :
  Calls Tryz.prog 36 #[.pointer (some ⟨p,0,none⟩),ov] w fun e w'=>e = .returned (.iface 335 (.pointer (some (ad 17))))/\Qt w w':=by
 have hn6:=h.len
 have HD:=Lib.hid h
 have HT:=Lib.hid hT
 have HM:=Lib.hid hM
 have HI:=Lib.hid hi
 have HL:=Lib.hid hl
 have HTX:=Lib.hid ht
 have SML:=Lib.hid (small_of hl ht)
 have NSM:=Lib.hid (small_of hl ht).normal
 have RLE:=Lib.hid (rows_le hn6 hs)
 have ENL:=Lib.hid (normal_enc hl ht)
 have HN6:=Lib.hid hn6
 have HSZ:=Lib.hid hs
 have DN:=down_st h.disk hM
 rw [hdn] at DN
 have HNE:=Lib.hid hne
 have HLG:=Lib.hid hlg
 have HFL:=Lib.hid hfl
 clear h hT hM hi hl ht hn6 hs hdn hne hlg hfl
 go_enter Tryz.func36,Tryz.ntmps36
 go_wp2_with fail
 refine DN.mono ?_
 rintro e w1 ⟨rfl,q1⟩
 have Q1:=Lib.hid q1
 clear DN q1
 have NM:=normal12_any w1 (recs_turn HI.out Q1.out) (by have:=HL.out; omega) (fun z hz=>by have:=(HTX.out z hz).1; unfold maxLen; omega)
 go_wp2_with fail
 refine NM.mono ?_
 rintro e w2 ⟨v2,rfl,N2⟩
 have Q2:=Lib.hid (Qt.trans Q1.out N2.qt)
 have HN2:=Lib.hid N2
 obtain ⟨g2,hi2,_⟩:=newO_in N2 (by have:=Bt.normal_length ops; have:=HL.out; omega)
 have HI2:=Lib.hid hi2
 have HCP:=Lib.hid (show ∀ a n c,v2 = .slice a n c->n<=c from fun a n c e=>by subst e; obtain ⟨x,y,ez⟩:=ownG_shape N2.own; injection ez with e1 e2 e3; subst e1 e2 e3; exact (ownG_cap N2.own).1)
 obtain ⟨oa,oc,rfl⟩:=ownG_shape N2.own
 clear NM N2 hi2
 have y0:(((Bt.normal ops).length:Int) == 0) = false:=beq_eq_false_iff_ne.2 (by have:=HNE.out; have:=List.length_pos_iff.2 this; omega)
 have y0':((Bt.normal ops).length == 0) = false:=beq_eq_false_iff_ne.2 (by have:=HNE.out; have:=List.length_pos_iff.2 this; omega)
 have y0n:¬ (Bt.normal ops = []):=HNE.out
 have EN:=encode12_any w2 HI2.out (HD.out.errs.e2.qt Q2.out) HCP.out (by have:=ENL.out; omega)
 rw [(Bt.normal_norm ops).enc,Bt.encT_ok (Bt.normal_norm ops).enc,errV_zero] at EN
 obtain ⟨sb,hsb,hsl⟩:∃ s:ByteArray,strV (Bt.encB (Bt.normal ops)) = .string s/\s.data.toList = Bt.encB (Bt.normal ops):=⟨⟨(Bt.encB (Bt.normal ops)).toArray⟩,rfl,rfl⟩
 rw [hsb] at EN
 have HSB:=Lib.hid hsl
 have HSS:=Lib.hid (show sb.size = (Bt.encB (Bt.normal ops)).length from by rw [<- hsl]; rfl)
 clear hsb hsl
 go_wp2_with fail
 refine EN.mono ?_
 rintro e w3 ⟨rfl,q3⟩
 have Q3:=Lib.hid (Qt.trans Q2.out q3)
 have HI3:=Lib.hid (recs_turn HI2.out q3)
 have LG:=largest_st HN6.out (HM.out.qt Q3.out)
 clear EN q3 y0 y0' y0n
 obtain ⟨lz,hlz⟩:∃ z,largestZ ((So.many d.dur.length:Nat):Int) = z:=⟨_,rfl⟩
 rw [hlz] at LG
 have y1:decide (lz < (sb.size:Int)) = false:=decide_eq_false (by have:=HLG.out; have:=HSS.out; omega)
 clear hlz
 go_wp2_with fail
 refine LG.mono ?_
 rintro e w4 ⟨rfl,rfl⟩
 clear LG
 have AF:=after13_any w4 (after_hyp (HT.out.qt Q3.out) RLE.out HI3.out (Bt.normal_norm ops) NSM.out)
 rw [show Bt.apply l (Bt.normal ops) = Bt.apply l ops from Bt.apply_normal HT.out.sorted ops] at AF
 have SB:=Lib.hid (show (So.rowsB (Bt.apply l ops)).length<=4611686018427387904 from by
  have h1:=So.apply_rowsB HT.out.sorted (Bt.normal ops)
  rw [Bt.apply_normal HT.out.sorted ops] at h1
  have h2:=NSM.out.opsN
  have h3:=RLE.out
  omega)
 have M4:=HM.out.qt Q3.out
 have c7:=Bk.cell M4 7 _ rfl
 have c8:=Bk.cell M4 8 _ rfl
 obtain ⟨k1,hk1⟩:∃ z,(So.rowsB l).length = z:=⟨_,rfl⟩
 have HK1:=Lib.hid hk1
 obtain ⟨k2,hk2⟩:∃ z,(So.rowsB (Bt.apply l ops)).length = z:=⟨_,rfl⟩
 have HK2:=Lib.hid hk2
 rw [hk1] at AF c8
 rw [hk2] at AF
 unfold contV at AF
 clear M4 hk1 hk2
 go_wp2_with fail
 refine AF.mono ?_
 rintro e w5 ⟨t2,A2,rfl,T5,ht5,hA5,q5⟩
 obtain ⟨W6,hW6,q6,bC,hz6⟩:=box_own w5 132 #[ptrV t2,.int .i64 (k2:Int)]
 obtain ⟨C,hC⟩:∃ C,w5.heap.size = C:=⟨_,rfl⟩
 have Q6:=Lib.hid (Qt.trans Q3.out (Qt.trans q5 q6))
 have HC:=Lib.hid (show w.heap.size<=C from by have:=Q3.out.size; have:=q5.size; omega)
 have HC6:=Lib.hid (show W6.heap.size = C + 1 from by omega)
 rw [hC] at bC
 have BC:=Lib.hid bC
 have T6:=Lib.hid (T5.qt q6)
 have LT2:=Lib.hid (show w.heap.size<=t2 from by have:=Q3.out.size; omega)
 have HA2:=Lib.hid (show ∀ k,A2 k->A k\/w.heap.size<=k from fun k hk=>by
  rcases hA5 k hk with x | x
  ·exact .inl x
  ·have:=Q3.out.size; exact .inr (by omega))
 have HAC:=Lib.hid (show ¬ A2 C from fun e=>by have:=T5.lt C e; omega)
 have SZ:=size13_any W6 T6.out SB.out
 have RM:=Lib.hid (fun W (x:Qt w W)=>room_st HN6.out (HM.out.qt x))
 rw [HK2.out] at SZ
 unfold contV at SZ
 have e0:=BC.out.cell 0 _ rfl
 have e1:=BC.out.cell 1 _ rfl
 clear AF T5 ht5 hA5 q5 q6 bC hz6 c7 c8
 go_wp2_with fail
 refine SZ.mono ?_
 rintro e w7 ⟨rfl,q7⟩
 have Q7:=Lib.hid (Qt.trans Q6.out q7)
 have BC7:=Lib.hid (BC.out.qt q7)
 have T7:=Lib.hid (T6.out.qt q7)
 have RM7:=RM.out w7 Q7.out
 clear SZ q7 RM e0 e1
 have y2:decide (((So.room d.dur.length:Nat):Int) < ((So.size (Bt.apply l ops):Nat):Int)) = true:=decide_eq_true (by have:=HFL.out; omega)
 have y2':decide (So.room d.dur.length < So.size (Bt.apply l ops)) = true:=decide_eq_true HFL.out
 go_wp2_with fail
 refine RM7.mono ?_
 rintro e w8 ⟨rfl,q8⟩
 have Q8:=Lib.hid (Qt.trans Q7.out q8)
 have BC8:=Lib.hid (BC7.out.qt q8)
 have T8:=Lib.hid (T7.out.qt q8)
 clear RM7 q8
 have c17:w8.cell? ⟨4,0,none⟩ = some (.iface 335 (.pointer (some (ad 17)))):=(HD.out.qt Q8.out).errs.cells 16 _ rfl
 have FIN:=Lib.hid Q8.out
 go_wp2
 exact bodyPost_ret (results_tmp (t:=4) rfl _ _ _) rfl ⟨rfl,FIN.out⟩
end
end Go.Proofs.YthjjfjhajadimaaGreatDoor
