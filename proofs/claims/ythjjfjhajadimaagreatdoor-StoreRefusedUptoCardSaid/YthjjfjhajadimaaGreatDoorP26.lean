/-
  Joined: JCodeW, ODk, TIter, TRise.
-/
import Derived.Test.YthjjfjhajadimaaGreatDoorP25
import Derived.Deep.RegionHeld3
import Derived.StillTailTactics
import Derived.Test.YthjjfjhajadimaaGreatDoorP19
import Derived.RangeFuncBox
import Derived.RangeFuncLeaves
import Derived.RangeFuncNested
import Derived.Shelf.Abstract
import Derived.WalkKit
import Derived.OwnWalkIn
import Derived.TacticsInMore
import Derived.LoopNIn
import Derived.LoopIn
import Derived.Maps.AppendAt
import Derived.Maps.OwnIn
import Derived.OrdersIn
import Derived.Laws.Cover1
namespace Go.Proofs.YthjjfjhajadimaaGreatDoor
open Go.RowKit Go.WideShapes
set_option maxRecDepth 100000
set_option maxHeartbeats 800000 in
theorem jwrite_any {ad:Nat->Addr} {S:Nat->Prop} {w0 w:World} {b:Nat} {d:DS} (R:Room ad S w0) (hS:Keeps S w0 w) (h:DiskAt w b d S) (hf:d.Few) (p n v i:Nat) (h1:1<=v) (h2:v<=1099511627776) (hi:i < 65536) (hp:p<=65536) (P:ByteArray) (hP:P.size<=234) :
  Calls Tryz.prog 196 #[.agg #[.pointer (some ⟨b,0,none⟩),.int .i64 (p:Int),.int .i64 (n:Int),.int .i64 (v:Int)],.int .i64 (i:Int),.string P] w fun e w'=>e = .returned (errV ad (d.writeE ((p + i:Nat):Int) (E.sct (J.stamp v i) P.data.toList)))/\DiskAt w' b (d.writeD ((p + i:Nat):Int) (E.sct (J.stamp v i) P.data.toList)) S/\Keeps S w0 w':=by
 obtain ⟨WA,hWA,QA,hb⟩:=place_new w b p n v
 have HWA:=Lib.hid hWA
 have HB:=Lib.hid hb
 have KA:=Lib.hid (keeps_qt hS QA)
 obtain ⟨d0,d1,d2,d3⟩:=place_cells hb
 have LG:=jlog_in ad v i h1 h2 hi WA (R.errs' KA.out)
 have hst:=J.stamp_big (v:=v) (k:=i) h2 hi
 have hst0:=J.stamp_pos v i
 obtain ⟨Z,hZ⟩:∃ Z:ByteArray,Z = ⟨(E.sct (J.stamp v i) P.data.toList).toArray⟩:=⟨_,rfl⟩
 have hZl:strL Z = E.sct (J.stamp v i) P.data.toList:=by rw [hZ]; rfl
 have SE:=Lib.hid (fun W (q:Keeps S w0 W)=>(show Calls Tryz.prog 180 #[.int .u64 (J.stamp v i:Nat),.string P] W fun e w'=>e = .returned (.tuple #[.string Z,.nilIface])/\Qt W w' from by
  have S1:=seal_any (ad 6) (ad 3) (ad 7) (J.stamp v i) P W hst (R.errs' q).e3 (R.tab' q)
  rw [show E.sealR (J.stamp v i) P.data.toList = (E.sct (J.stamp v i) P.data.toList,0) by unfold E.sealR; rw [if_neg hst0,if_neg (by rw [dlen7]; omega)]] at S1
  rw [hZ]; exact S1))
 have WR:=Lib.hid (fun W (q:Keeps S w0 W) (k:DiskAt W b d S)=>(show Calls Tryz.prog 182 #[.pointer (some ⟨b,0,none⟩),.int .i64 ((p:Int) + (i:Int)),.string Z] W fun e w'=>e = .returned (errV ad (d.writeE ((p + i:Nat):Int) (E.sct (J.stamp v i) P.data.toList)))/\DiskAt w' b (d.writeD ((p + i:Nat):Int) (E.sct (J.stamp v i) P.data.toList)) S/\Keeps S w0 w' from by
  have h:=room_write R q k hf ((p + i:Nat):Int) Z
  rw [hZl,Int.natCast_add] at h
  rw [Int.natCast_add]
  exact h))
 have hw:=sj_w2 hp (Nat.le_of_lt hi)
 have DK:=Lib.hid (fun W (q:Qt WA W)=>DiskAt.qt h (Qt.trans QA q))
 generalize d.writeE ((p + i:Nat):Int) (E.sct (J.stamp v i) P.data.toList) = x at *
 generalize d.writeD ((p + i:Nat):Int) (E.sct (J.stamp v i) P.data.toList) = u at *
 generalize J.stamp v i = st at *
 clear R hS h hf hWA QA hb hst hst0 hZ hZl h1 h2 hi hp hP
 go_enter Tryz.func196,Tryz.ntmps196
 go_wp2_with fail
 rw [HWA.out]
 refine LG.mono ?_
 rintro e w1 ⟨rfl,q1⟩
 have Q1:=Lib.hid q1
 clear d0 d1 d2 d3 LG q1
 go_wp2_with fail
 refine (SE.out w1 (keeps_qt KA.out Q1.out)).mono ?_
 rintro e w2 ⟨rfl,q2⟩
 have Q2:=Lib.hid (Qt.trans Q1.out q2)
 obtain ⟨d0,d1,d2,d3⟩:=place_cells (place_qt HB.out Q2.out)
 clear q2
 go_wp2_with fail
 refine (WR.out w2 (keeps_qt KA.out Q2.out) (DK.out w2 Q2.out)).mono ?_
 rintro e w3 ⟨rfl,p3,k3⟩
 have P3:=Lib.hid p3
 have K3:=Lib.hid k3
 obtain ⟨ev,hev⟩:∃ ev,errV ad x = ev:=⟨_,rfl⟩
 rw [hev]
 have HEV:=Lib.hid hev
 clear p3 k3 d0 d1 d2 d3 hev
 go_wp2
 go_ret
 exact ⟨by rw [HEV.out]; rfl,P3.out,K3.out⟩
def JAAt (S:Nat->Prop) (w:World) (b:Nat) (d:DS) (j:J.JS) (v:List UInt8) (C a f:Nat) (iv:Value) (wr:World):Prop :=
 ∃ (k:Nat) (uk:DS),k<=C/\iv = .int .i64 k/\DiskAt wr b uk S/\Keeps S w wr/\j.go v (C - k) k uk = j.go v C 0 d/\uk.FewM (a + k) (f + k)
theorem sj_few {f k C n u:Nat} (h1:k < C) (h2:u + C<=n) (h3:n<=65536) (hf:f<=1073000000):f + k<=1073741824:=by omega
theorem sj_few2 {f k C n u:Nat} (h1:k < C) (h2:u + C<=n) (h3:n<=65536) (hf:f<=576460752303423488):f + k<=1152921504606846976:=by omega
theorem sj_idx {u k C n:Nat} (h1:k < C) (h2:u + C<=n) (h3:n<=65536):u + k < 65536:=by omega
theorem sj_take {C k:Nat} (h:k < C):∃ m,C - k = m + 1/\C - (k + 1) = m:=⟨C - k - 1,by omega,by omega⟩
set_option maxHeartbeats 3200000 in
theorem jappend_anyM {ad:Nat->Addr} {S:Nat->Prop} {w:World} {b q a f:Nat} {d:DS} {j:J.JS} (R:Room ad S w) (h:DiskAt w b d S) (hf:d.FewM a f) (hfa:a<=1073000000) (hf2:f<=576460752303423488) (hq:¬ S q) (hC:CJ w q b j) (hF:J.Fine j d) (s:ByteArray) (hs:s.size<=1099511627776) :
  Calls Tryz.prog 141 #[.pointer (some ⟨q,0,none⟩),.string s] w (JP ad S w b q (j.append d s.data.toList)):=by
 have DN:=jdown_any h hC
 rw [<- hF.down] at DN
 have hl:s.data.toList.length = s.size:=by simp
 have hdl:d.dur.length<=65536:=by obtain ⟨gd,mb,uv,P,_⟩:=h; exact P.ok.le
 cases hd:j.down d with
 | true =>
  have FIN:=Lib.hid (show j.append d s.data.toList = (12,{ j with dead:=true },d) from if_pos hd)
  rw [hd] at DN
  have HE:=Lib.hid R.errs
  have HD:=Lib.hid h
  have HC:=Lib.hid hC
  clear R h hf hq hC hF hd hl hdl hs hf2 hfa
  go_enter Tryz.func141,Tryz.ntmps141
  go_wp2_with fail
  refine DN.mono ?_
  rintro e w1 ⟨rfl,q1⟩
  have e12:=(HE.out.kept q1 (OffErrs.none ad)).down
  have Q1:=Lib.hid q1
  clear q1 DN
  go_wp2
  go_ret
  rw [FIN.out]
  exact ⟨rfl,DiskAt.qt HD.out Q1.out,HC.out.qt Q1.out,Q1.out.mono (fun _ _ e=>e.elim)⟩
 | false =>
  rw [hd] at DN
  have hn2:j.n<=65536:=by have:=hF.fit; omega
  have FT:=Lib.hid (fun W (k:Qt w W)=>jfits_any (hC.qt k) hF.used hn2 (s.size:Int) (by omega))
  have CO:=Lib.hid (fun W=>jcost_nat s.size (by omega) W)
  obtain ⟨C,hCo⟩:∃ C,J.cost s.size = C:=⟨_,rfl⟩
  have APP:j.append d s.data.toList = if j.n < j.used + C then (17,j,d) else if (j.go s.data.toList C 0 d).1 ≠ 0 then ((j.go s.data.toList C 0 d).1,{ j with dead:=true },(j.go s.data.toList C 0 d).2) else (0,{ j with used:=j.used + C },(j.go s.data.toList C 0 d).2):=by
   rw [<- hCo,<- hl]
   exact if_neg (by rw [hd]; simp)
  have hfit:j.fits (s.size:Int) = decide (j.used + C<=j.n):=by
   unfold J.JS.fits
   rw [Int.toNat_natCast,hCo]
   by_cases hc:j.used + C<=j.n
   ·rw [decide_eq_true ⟨by omega,hc⟩,decide_eq_true hc]
   ·rw [decide_eq_false (fun k=>hc k.2),decide_eq_false hc]
  rw [hfit] at FT
  rw [hCo] at CO
  by_cases hfull:j.n < j.used + C
  ·have FIN:=Lib.hid (APP.trans (if_pos hfull))
   rw [decide_eq_false (show ¬ j.used + C<=j.n by omega)] at FT
   have HE:=Lib.hid R.errs
   have HD:=Lib.hid h
   have HC:=Lib.hid hC
   clear R h hf hq hC hF hd hl hdl hs hf2 hfa APP hfull hfit hCo CO hn2
   go_enter Tryz.func141,Tryz.ntmps141
   go_wp2_with fail
   refine DN.mono ?_
   rintro e w1 ⟨rfl,q1⟩
   have Q1:=Lib.hid q1
   clear q1 DN
   go_wp2_with fail
   refine (FT.out _ Q1.out).mono ?_
   rintro e w2 ⟨rfl,q2⟩
   have e17:=(HE.out.kept (Qt.trans Q1.out q2) (OffErrs.none ad)).full
   have Q2:=Lib.hid (Qt.trans Q1.out q2)
   clear q2
   go_wp2
   go_ret
   rw [FIN.out]
   exact ⟨rfl,DiskAt.qt HD.out Q2.out,HC.out.qt Q2.out,Q2.out.mono (fun _ _ e=>e.elim)⟩
  ·have HAP:=Lib.hid (APP.trans (if_neg hfull))
   rw [decide_eq_true (show j.used + C<=j.n by omega)] at FT
   have HR:=Lib.hid R
   have HD:=Lib.hid h
   have HQ:=Lib.hid hq
   have HC:=Lib.hid hC
   have HF:=Lib.hid hf
   have HF2:=Lib.hid hf2
   have HFA:=Lib.hid hfa
   have HNF:=Lib.hid (show j.used + C<=j.n by omega)
   have HN2:=Lib.hid hn2
   have HPN:=Lib.hid (show j.pos<=65536 by have:=hF.fit; omega)
   have HV:=Lib.hid (show 1<=j.ver/\j.ver<=1099511627776 from ⟨hF.v1,hF.v2⟩)
   have HCO:=Lib.hid (show J.cost s.data.toList.length = C by rw [hl]; exact hCo)
   have HL:=Lib.hid hl
   have HS:=Lib.hid hs
   clear R h hf hq hC hF hd hl hdl hs hf2 hfa APP hfull hfit hCo hn2
   go_enter Tryz.func141,Tryz.ntmps141
   go_wp2_with fail
   refine DN.mono ?_
   rintro e w1 ⟨rfl,q1⟩
   have Q1:=Lib.hid q1
   clear q1 DN
   go_wp2_with fail
   refine (FT.out _ Q1.out).mono ?_
   rintro e w2 ⟨rfl,q2⟩
   have Q2:=Lib.hid (Qt.trans Q1.out q2)
   clear q2 FT
   go_wp2_with fail
   refine (CO.out _).mono ?_
   rintro e w3 ⟨rfl,rfl⟩
   go_wp2
   go_loopw [22] (fun iv wr=>JAAt S w b d j s.data.toList C a f iv wr) (fun iv _=>C - (intOf iv).toNat)
   case atStart=>exact ⟨0,d,Nat.zero_le _,rfl,DiskAt.qt HD.out Q2.out,keeps_qt (Keeps.refl S w) Q2.out,rfl,HF.out⟩
   case round =>
    obtain ⟨k,uk,hk,rfl,hP,hK,hgo,hfk⟩:=hrel
    have HP:=Lib.hid hP
    have HK:=Lib.hid hK
    have C1:=Lib.hid (HC.out.kept hK HQ.out)
    by_cases hlt:k < C
    ·have zlt:=sj_lt hlt
     have zlt':decide (k < C) = true:=decide_eq_true hlt
     have hkb:=sj_kb hlt HNF.out HN2.out
     have BN:=Lib.hid (jbounds_any s.size k hkb)
     have HDD:=Lib.hid (fun W=>jhead_any s.size k (sj_u64 HS.out) W)
     have hue:=J.upto_ge (z:=s.size) (k:=k) (by rw [<- HL.out,HCO.out]; exact hlt)
     have hul:=J.upto_le s.size k
     have SL:=slice_in s (J.ends k) (J.upto s.size k) hue hul
     obtain ⟨H,hH,hHl⟩:∃ H:ByteArray,H = ⟨(J.headZ s.size k).toArray⟩/\H.data.toList = J.headZ s.size k:=⟨_,rfl,rfl⟩
     obtain ⟨X,hX,hXl⟩:∃ X:ByteArray,X = s.extract (J.ends k) (J.upto s.size k)/\X.data.toList = (s.data.toList.drop (J.ends k)).take (J.upto s.size k - J.ends k):=⟨_,rfl,by rw [ByteArray.data_extract,Array.toList_extract]⟩
     obtain ⟨P,hPP,hPl⟩:∃ P:ByteArray,P = H ++ X/\P.data.toList = J.pay s.data.toList k:=⟨_,rfl,by rw [ByteArray.data_append,Array.toList_append,hHl,hXl,J.pay_eq,HL.out]⟩
     have hPs:P.size<=234:=by rw [<- dlen7,hPl]; exact J.pay_le _ _
     have hbd:¬ (9223372036854775807 < H.size + X.size):=by
      have:P.size = H.size + X.size:=by rw [hPP,ByteArray.size_append]
      omega
     have WR:=Lib.hid (fun W (kk:Keeps S w W) (pp:DiskAt W b uk S)=>(show Calls Tryz.prog 196 #[.agg #[.pointer (some ⟨b,0,none⟩),.int .i64 (j.pos:Int),.int .i64 (j.n:Int),.int .i64 (j.ver:Int)],.int .i64 ((j.used:Int) + (k:Int)),.string P] W fun e w'=>e = .returned (errV ad (j.putE s.data.toList k uk))/\DiskAt w' b (j.put s.data.toList k uk) S/\Keeps S w w' from by
      have h:=jwrite_any HR.out kk pp (hfk.few (sj_few hlt HNF.out HN2.out HFA.out) (sj_few2 hlt HNF.out HN2.out HF2.out)) j.pos j.n j.ver (j.used + k) HV.out.1 HV.out.2 (sj_idx hlt HNF.out HN2.out) HPN.out P hPs
      rw [hPl,Int.natCast_add] at h
      unfold J.JS.putE J.JS.put
      exact h))
     rw [<- hH] at HDD
     rw [<- hX] at SL
     obtain ⟨m,hm,hm2⟩:=sj_take hlt
     rw [hm,J.JS.go] at hgo
     have HGO:=Lib.hid hgo
     have HM2:=Lib.hid hm2
     have HLT:=Lib.hid hlt
     have HFK:=Lib.hid hfk
     have hk1:=sj_w1 hkb
     have huk:=sj_w2i (i:=j.used) (k:=k) (sj_ib HNF.out HN2.out) hkb
     have KC:=Lib.hid (fun (W:World) (r:CJ W q b j)=>(show W.cell? ⟨q,0,none⟩ = some (.pointer (some ⟨b,0,none⟩))/\W.cell? ⟨q,1,none⟩ = some (.int .i64 (j.pos:Int))/\W.cell? ⟨q,2,none⟩ = some (.int .i64 (j.n:Int))/\W.cell? ⟨q,3,none⟩ = some (.int .i64 (j.ver:Int))/\W.cell? ⟨q,4,none⟩ = some (.int .i64 (j.used:Int)) from ⟨r.cell 0 _ rfl,r.cell 1 _ rfl,r.cell 2 _ rfl,r.cell 3 _ rfl,r.cell 4 _ rfl⟩))
     have QD:=Lib.hid (show Qt wr wr.drew from Keeps.drew (Qt.refl wr))
     have C1d:=Lib.hid (C1.out.qt QD.out)
     have PPE:=Lib.hid hPP.symm
     clear hP hK hgo hfk hm hm2 hk hlt hkb hue hul hH hHl hX hXl hPP hPl hPs
     go_wp2_with fail
     refine (BN.out _).mono ?_
     rintro e5 w5 ⟨rfl,rfl⟩
     generalize J.ends k = E at *
     generalize J.upto s.size k = U at *
     by_cases hE:j.putE s.data.toList k uk = 0
     ·have GO:=HGO.out
      rw [if_neg (fun h=>h hE)] at GO
      rw [hE,errV_zero] at WR
      have NXT:=Lib.hid (fun (W:World) (p:DiskAt W b (j.put s.data.toList k uk) S) (kk:Keeps S w W)=>(show JAAt S w b d j s.data.toList C a f (.int .i64 ((k:Int) + 1)) W from
       ⟨k + 1,_,HLT.out,rfl,p,kk,by rw [HM2.out]; exact GO,(HFK.out.write _ _).mono (by omega) (by omega)⟩))
      clear GO hE HGO
      go_wp2_with fail
      go_region_held3 (fun W'=>W'.cell? ⟨q,0,none⟩ = some (.pointer (some ⟨b,0,none⟩))/\W'.cell? ⟨q,1,none⟩ = some (.int .i64 (j.pos:Int))/\W'.cell? ⟨q,2,none⟩ = some (.int .i64 (j.n:Int))/\W'.cell? ⟨q,3,none⟩ = some (.int .i64 (j.ver:Int))/\W'.cell? ⟨q,4,none⟩ = some (.int .i64 (j.used:Int)))
       (first | exact KC.out _ C1d.out | exact KC.out _ (Hid.out (by assumption)))
       (first
        | (go_at_call 197; refine (HDD.out _).mono ?_; rintro e6 w6 ⟨rfl,q6⟩; have Q6:=Lib.hid (Qt.trans QD.out q6); have C6:=Lib.hid (C1.out.qt Q6.out); clear q6)
        | (go_at_call 196; rw [PPE.out]; refine (WR.out _ (keeps_qt HK.out Q6.out) (DiskAt.qt HP.out Q6.out)).mono ?_; rintro e7 w7 ⟨rfl,p7,k7⟩; have FN:=Lib.hid (NXT.out w7 p7 k7); have C7:=Lib.hid (HC.out.kept k7 HQ.out); clear p7 k7))
      go_wp2
      rw [hk1]
      exact ⟨FN.out,sj_meas HLT.out⟩
     ·have GO:=HGO.out
      rw [if_pos hE] at GO
      rw [errV_pos ad (Nat.pos_of_ne_zero hE)] at WR
      have NXT:=Lib.hid (fun (W:World) (p:DiskAt W b (j.put s.data.toList k uk) S) (kk:Keeps S w W)=>(show JP ad S w b q (j.append d s.data.toList) (.returned (.iface 335 (.pointer (some (ad (j.putE s.data.toList k uk)))))) W from by
       rw [HAP.out,<- GO,if_pos hE]
       exact ⟨by rw [errV_pos ad (Nat.pos_of_ne_zero hE)],p,HC.out.kept kk HQ.out,kk.mono (fun _ _ e=>.inl e)⟩))
      clear GO HGO
      generalize j.putE s.data.toList k uk = x at *
      clear hE
      go_wp2_with fail
      go_region_held3 (fun W'=>W'.cell? ⟨q,0,none⟩ = some (.pointer (some ⟨b,0,none⟩))/\W'.cell? ⟨q,1,none⟩ = some (.int .i64 (j.pos:Int))/\W'.cell? ⟨q,2,none⟩ = some (.int .i64 (j.n:Int))/\W'.cell? ⟨q,3,none⟩ = some (.int .i64 (j.ver:Int))/\W'.cell? ⟨q,4,none⟩ = some (.int .i64 (j.used:Int)))
       (first | exact KC.out _ C1d.out | exact KC.out _ (Hid.out (by assumption)))
       (first
        | (go_at_call 197; refine (HDD.out _).mono ?_; rintro e6 w6 ⟨rfl,q6⟩; have Q6:=Lib.hid (Qt.trans QD.out q6); have C6:=Lib.hid (C1.out.qt Q6.out); clear q6)
        | (go_at_call 196; rw [PPE.out]; refine (WR.out _ (keeps_qt HK.out Q6.out) (DiskAt.qt HP.out Q6.out)).mono ?_; rintro e7 w7 ⟨rfl,p7,k7⟩; have FN:=Lib.hid (NXT.out w7 p7 k7); have C7:=Lib.hid (HC.out.kept k7 HQ.out); clear p7 k7))
      go_wp2
      go_ret
      exact FN.out
    ·obtain rfl:=sj_eq hk hlt
     have zlt:=sj_ge (Nat.le_refl k)
     rw [Nat.sub_self,J.JS.go] at hgo
     have FIN:=Lib.hid (show j.append d s.data.toList = (0,{ j with used:=j.used + k },uk) from by
      rw [HAP.out,<- hgo,if_neg (by simp)])
     have wu:=sj_w2i (i:=j.used) (k:=k) (sj_ib HNF.out HN2.out) (Nat.le_trans (Nat.le_trans (Nat.le_add_left k j.used) HNF.out) HN2.out)
     have QD:=Lib.hid (show Qt wr wr.drew from Keeps.drew (Qt.refl wr))
     have C1d:=Lib.hid (C1.out.qt QD.out)
     have FM:=Lib.hid (fun (W:World) (q2:Qt wr W)=>(show JP ad S w b q (j.append d s.data.toList) (.returned .nilIface) (W.setCell ⟨q,4,none⟩ (.int .i64 ((j.used:Int) + (k:Int)))) from by
      rw [FIN.out,<- Int.natCast_add]
      have KW:=keeps_qt HK.out q2
      have KT:Keeps (fun k=>S k\/k = q) w (W.setCell ⟨q,4,none⟩ (.int .i64 ((j.used + k:Nat):Int))):=(KW.mono (fun _ _ e=>.inl e)).setCell (p:=⟨q,4,none⟩) (fun _=>.inr rfl) _
      refine ⟨rfl,?_,(C1.out.qt q2).used' (j.used + k),KT⟩
      exact (DiskAt.qt HP.out q2).kept ((Keeps.refl (fun k=>k = q) W).setCell (p:=⟨q,4,none⟩) (fun _=>rfl) _) (fun g hg e=>HQ.out (e ▸ hg))))
     have KC:=Lib.hid (fun (W:World) (r:CJ W q b j)=>(show W.cell? ⟨q,4,none⟩ = some (.int .i64 (j.used:Int))/\W.frozen? ⟨q,4,none⟩ = false from ⟨r.cell 4 _ rfl,Lib.frozen_of_heap r 4⟩))
     clear hP hK hgo hfk hlt hk
     obtain ⟨c4,f4⟩:=KC.out _ C1.out
     have COR:=CO wr.drew
     go_wp2_with fail
     refine wp_region_still_tail 9 (by kernel_rfl) (by kernel_rfl) ?_
     simp only [List.take_succ_cons,List.take_zero,List.drop_succ_cons,List.drop_zero]
     iterate 5 still_step
     still_call COR
     repeat still_step
     refine wpStill_nil ?_
     change wpList _ _ _ _ _ wr.drew
     obtain ⟨wd,hwd⟩:∃ W,wr.drew = W:=⟨_,rfl⟩
     rw [hwd]
     obtain ⟨c4',f4'⟩:=KC.out wd (hwd ▸ C1d.out)
     have FN:=Lib.hid (FM.out wd (hwd ▸ QD.out))
     clear hwd c4 f4 COR
     go_wp2
     go_ret
     exact FN.out
structure Dk (n0:Nat) (ad:Nat->Addr) (w:World) (b:Nat) (d:DS) (S:Nat->Prop):Prop where
 errs:Errs ad w
 tab:Tab w
 vars:∀ g,g ∈ gErrs->g < n0
 txts:∀ i,i < 37->(ad (i + 1)).block < n0
 steps:38 < n0
 low:∀ k,S k->n0<=k
 lt:∀ k,S k->k < w.heap.size
 base:n0<=w.heap.size
 disk:DiskAt w b d S
structure DS.FewS (d:DS):Prop where
 ways:d.ways.length<=1072000000
 wr:d.wr<=288230376151711744
 fl:d.fl<=288230376151711744
 cr:d.cr<=288230376151711744
section
variable {n0:Nat} {ad:Nat->Addr} {w w':World} {b q:Nat} {d d2:DS} {S T:Nat->Prop} {j:J.JS}
theorem So.Ran.fewA {x y:Nat} (h:So.Ran x y d d2) (hf:d.FewS) (hx:x<=400000) (hy:y<=400000):d2.FewA :=
 ⟨by have:=h.ways; have:=hf.ways; omega,by have:=h.wr; have:=hf.wr; omega,by have:=h.fl; have:=hf.fl; omega,by have:=h.cr; have:=hf.cr; omega⟩
theorem DS.FewA.fewer (h:d.FewA):d.Fewer:=⟨Nat.le_trans h.ways (by decide),Nat.le_trans h.wr (by decide),Nat.le_trans h.fl (by decide),Nat.le_trans h.cr (by decide)⟩
theorem Dk.offT (h:Dk n0 ad w b d S) (hT:∀ k,T k->n0<=k):OffErrs ad T :=
 ⟨fun g hg e=>by have:=h.vars g hg; have:=hT g e; omega,fun i hi e=>by have:=h.txts i hi; have:=hT _ e; omega⟩
theorem Dk.room (h:Dk n0 ad w b d S):Room ad (fun k=>S k\/w.heap.size<=k) w:=by
 have hlow:∀ k,(S k\/w.heap.size<=k)->n0<=k:=fun k e=>by
  rcases e with e | e
  ·exact h.low k e
  ·have:=h.base; omega
 exact ⟨h.errs,h.tab,h.offT hlow,fun e=>absurd h.steps (Nat.not_lt.2 (hlow _ e)),fun k e=>.inr e⟩
theorem Dk.kept (h:Dk n0 ad w b d S) (K:Keeps T w w') (hT:∀ k,T k->n0<=k) (hS:∀ k,S k->¬ T k):Dk n0 ad w' b d S :=
 ⟨h.errs.kept K (h.offT hT),fun k hk=>K.cellv (h.tab k hk) (fun e=>absurd h.steps (Nat.not_lt.2 (hT _ e))),h.vars,h.txts,h.steps,h.low,fun k e=>Nat.lt_of_lt_of_le (h.lt k e) K.size,Nat.le_trans h.base K.size,h.disk.kept K hS⟩
theorem Dk.qt (h:Dk n0 ad w b d S) (Q:Qt w w'):Dk n0 ad w' b d S:=h.kept Q (fun _ e=>e.elim) (fun _ _ e=>e)
theorem Dk.len (h:Dk n0 ad w b d S):d.dur.length<=65536:=by obtain ⟨gd,mb,uv,P,_⟩:=h.disk; exact P.ok.le
structure DkTo (n0:Nat) (ad:Nat->Addr) (w:World) (b:Nat) (d2:DS) (S:Nat->Prop) (w':World) (S':Nat->Prop):Prop where
 dk:Dk n0 ad w' b d2 S'
 all:∀ k,S' k->S k\/w.heap.size<=k
 keeps:Keeps S w w'
theorem Dk.step (h:Dk n0 ad w b d S) (hD:DiskAt w' b d2 (fun k=>S k\/w.heap.size<=k)) (hK:Keeps (fun k=>S k\/w.heap.size<=k) w w'):DkTo n0 ad w b d2 S w' (Grow S w w'):=by
 have K:Keeps S w w':=hK.mono (fun k hk e=>by
  rcases e with e | e
  ·exact e
  ·omega)
 have hG:DiskAt w' b d2 (Grow S w w'):=by
  obtain ⟨gd,mb,uv,P,hS⟩:=hD
  refine ⟨gd,mb,uv,P,fun k hk=>?_⟩
  rcases hS k hk with e | e
  ·exact .inl e
  ·exact .inr ⟨e,P.lt k hk⟩
 have hz:=K.size
 have hb:=h.base
 refine ⟨⟨h.errs.kept K (h.offT h.low),fun k hk=>K.cellv (h.tab k hk) (fun e=>absurd h.steps (Nat.not_lt.2 (h.low _ e))),h.vars,h.txts,h.steps,fun k e=>?_,fun k e=>?_,by omega,hG⟩,fun k e=>?_,K⟩
 ·rcases e with e | e
  ·exact h.low k e
  ·omega
 ·rcases e with e | e
  ·have:=h.lt k e; omega
  ·exact e.2
 ·rcases e with e | e
  ·exact .inl e
  ·exact .inr e.1
theorem Dk.quiet (h:Dk n0 ad w b d S) (Q:Qt w w'):DkTo n0 ad w b d S w' S:=⟨h.qt Q,fun _ e=>.inl e,Q.mono (fun _ _ e=>e.elim)⟩
theorem DkTo.trans {w1:World} {d1:DS} {S1 S2:Nat->Prop} (h:DkTo n0 ad w b d1 S w1 S1) (k:DkTo n0 ad w1 b d2 S1 w' S2):DkTo n0 ad w b d2 S w' S2:=by
 have hz:=h.keeps.size
 refine ⟨k.dk,fun i e=>?_,Keeps.trans h.keeps k.keeps (fun i hi e=>?_)⟩
 ·rcases k.all i e with e | e
  ·exact h.all i e
  ·exact .inr (by omega)
 ·rcases h.all i e with e | e
  ·exact e
  ·omega
theorem DkTo.qt {S1:Nat->Prop} {w2:World} (h:DkTo n0 ad w b d S w' S1) (Q:Qt w' w2):DkTo n0 ad w b d S w2 S1:=h.trans (h.dk.quiet Q)
theorem DkTo.box {S':Nat->Prop} {R:Nat} (h:DkTo n0 ad w b d S w' S') (hn:n0<=R) (hR:w.heap.size<=R) (hS:¬ S' R) (i:Nat) (v:Value):DkTo n0 ad w b d S (w'.setCell ⟨R,i,none⟩ v) S' :=
 ⟨h.dk.kept (keeps_set w' R i v) (fun k e=>by omega) (fun k e e2=>hS (e2 ▸ e)),h.all,Keeps.trans h.keeps (keeps_set w' R i v) (fun k hk e=>by omega)⟩
theorem dk_awrite (h:Dk n0 ad w b d S) (hf:d.FewA) (i n:Int) (st:Nat) (s:ByteArray) (hst:st < 18446744073709551616) (hn:n<=9223372036854775807) :
  Calls Tryz.prog 121 #[.pointer (some ⟨b,0,none⟩),.int .i64 i,.int .i64 n,.int .u64 st,.string s] w fun e w'=>e = .returned (errV ad (d.areaW i n st s.data.toList).1)/\DkTo n0 ad w b (d.areaW i n st s.data.toList).2 S w' (Grow S w w') :=
 (awrite_any ad _ w w b d h.room (Keeps.refl _ _) (h.disk.mono (fun _ e=>.inl e)) hf i n st s hst hn).mono fun _ _ ⟨he,hD,hK⟩=>⟨he,h.step hD hK⟩
theorem dk_aread (h:Dk n0 ad w b d S) (i n:Int) (st:Nat) (z:Int) (hst:st < 18446744073709551616) (hn:n<=9223372036854775807) :
  Calls Tryz.prog 144 #[.pointer (some ⟨b,0,none⟩),.int .i64 i,.int .i64 n,.int .u64 st,.int .i64 z] w fun e w'=>e = .returned (readE9 ad (d.areaR i n st z))/\DkTo n0 ad w b d S w' (Grow S w w') :=
 (aread_any ad _ w w b d h.room (Keeps.refl _ _) (h.disk.mono (fun _ e=>.inl e)) i n st z hst hn).mono fun _ _ ⟨he,hD,hK⟩=>⟨he,h.step hD hK⟩
theorem dk_sread (h:Dk n0 ad w b d S) (i:Int) :
  Calls Tryz.prog 68 #[.pointer (some ⟨b,0,none⟩),.int .i64 i] w fun e w'=>e = .returned (readT ad (d.slotsR i))/\Qt w w':=slotsRead_h ad h.errs (slotH_any h.errs h.tab) h.disk i
theorem dk_swrite (h:Dk n0 ad w b d S) (hf:d.Fewer) (i v:Int) (hv0:-9223372036854775808<=v) (hv1:v<=9223372036854775807) (s:ByteArray) :
  Calls Tryz.prog 123 #[.pointer (some ⟨b,0,none⟩),.int .i64 i,.int .i64 v,.string s] w fun e w'=>e = .returned (errV ad (d.slotsE i v s.data.toList))/\DkTo n0 ad w b (d.slotsD i v s.data.toList) S w' (Grow S w w') :=
 (room_slotsWrite h.room (Keeps.refl _ _) (h.disk.mono (fun _ e=>.inl e)) hf i v hv0 hv1 s).mono fun _ _ ⟨he,hD,hK⟩=>⟨he,h.step hD hK⟩
theorem dk_jbegin (h:Dk n0 ad w b d S) (i n v:Int) (hn:n<=9223372036854775807) :
  Calls Tryz.prog 125 #[.pointer (some ⟨b,0,none⟩),.int .i64 i,.int .i64 n,.int .i64 v] w (JBeginP ad w b d i n v):=jbegin_any ad h.errs h.disk i n v hn
theorem dk_jreplay (h:Dk n0 ad w b d S) (i n v:Int) (hn:n<=9223372036854775807) :
  Calls Tryz.prog 148 #[.pointer (some ⟨b,0,none⟩),.int .i64 i,.int .i64 n,.int .i64 v] w (ReplayJ ad w (J.replay d i n v)):=jreplay_any ad h.errs h.tab h.disk i n v hn
def JTo (n0:Nat) (ad:Nat->Addr) (w:World) (b q:Nat) (r:Nat × J.JS × DS) (S:Nat->Prop) (e:Ending) (w':World):Prop :=
 e = .returned (errV ad r.1)/\Dk n0 ad w' b r.2.2 (Grow S w w')/\CJ w' q b r.2.1/\Keeps (fun k=>S k\/k = q) w w'
theorem Dk.jstep {r:Nat × J.JS × DS} {e:Ending} (h:Dk n0 ad w b d S) (hq0:n0<=q) (hql:q < w.heap.size) (hP:JP ad (fun k=>S k\/w.heap.size<=k) w b q r e w'):JTo n0 ad w b q r S e w':=by
 obtain ⟨h1,h2,h3,h4⟩:=hP
 have K:Keeps (fun k=>S k\/k = q) w w':=h4.mono (fun k hk e=>by
  rcases e with (e | e) | e
  ·exact .inl e
  ·omega
  ·exact .inr e)
 have hlow:∀ k,(S k\/k = q)->n0<=k:=fun k e=>by
  rcases e with e | e
  ·exact h.low k e
  ·omega
 have hz:=K.size
 have hb:=h.base
 refine ⟨h1,⟨h.errs.kept K (h.offT hlow),fun k hk=>K.cellv (h.tab k hk) (fun e=>absurd h.steps (Nat.not_lt.2 (hlow _ e))),h.vars,h.txts,h.steps,fun k e=>?_,fun k e=>?_,by omega,?_⟩,h3,K⟩
 ·rcases e with e | e
  ·exact h.low k e
  ·omega
 ·rcases e with e | e
  ·have:=h.lt k e; omega
  ·exact e.2
 ·obtain ⟨gd,mb,uv,P,hS⟩:=h2
  refine ⟨gd,mb,uv,P,fun k hk=>?_⟩
  rcases hS k hk with e | e
  ·exact .inl e
  ·exact .inr ⟨e,P.lt k hk⟩
theorem dk_append (h:Dk n0 ad w b d S) (hq0:n0<=q) (hqS:¬ S q) (hf:d.FewS) (hC:CJ w q b j) (hF:J.Fine j d) (s:ByteArray) (hs:s.size<=1099511627776) :
  Calls Tryz.prog 141 #[.pointer (some ⟨q,0,none⟩),.string s] w (JTo n0 ad w b q (j.append d s.data.toList) S):=by
 have hql:=hC.lt
 refine (jappend_anyM (a:=1072000000) (f:=288230376151711744) h.room (h.disk.mono (fun _ e=>.inl e)) ⟨hf.ways,hf.wr,hf.fl,hf.cr⟩ (by decide) (by decide) (fun e=>by
  rcases e with e | e
  ·exact hqS e
  ·omega) hC hF s hs).mono ?_
 intro e w' hP
 exact h.jstep hq0 hql hP
theorem dk_sync (h:Dk n0 ad w b d S) (hq0:n0<=q) (hqS:¬ S q) (hf:d.Few) (hC:CJ w q b j) (hF:J.Fine j d) :
  Calls Tryz.prog 142 #[.pointer (some ⟨q,0,none⟩)] w (JTo n0 ad w b q (j.sync d) S):=by
 have hql:=hC.lt
 refine (jsync_any h.room (h.disk.mono (fun _ e=>.inl e)) hf (fun e=>by
  rcases e with e | e
  ·exact hqS e
  ·omega) hC hF).mono ?_
 intro e w' hP
 exact h.jstep hq0 hql hP
end
end Go.Proofs.YthjjfjhajadimaaGreatDoor
namespace Go.Proofs.YthjjfjhajadimaaGreatDoor
open Go.RowKit Go.Shelf Go.WideShapes
attribute [local go_sem] Oper.semAt_some
set_option maxRecDepth 100000
def encR (r:Tb.R):Array Value:=#[strV r.1,strV r.2]
structure OwnsO (n0:Nat) (Ow:World->Nat->Prop):Prop where
 below:∀ {A B:World} {k:Nat},Below n0 A B->Ow B k->Ow A k
structure KpO (Ow:World->Nat->Prop) (A B:World):Prop where
 size:A.heap.size<=B.heap.size
 block:∀ k o,A.heap[k]? = some o->o.isCells = true->¬ Ow A k->B.heap[k]? = some o
 own:∀ k,Ow B k->Ow A k\/(A.heap.size<=k/\k < B.heap.size)
def IterV (X:Nat->Prop) (w:World) (fv:Value) (l:List Tb.R):Prop :=
 (∀ k,X k->k < w.heap.size)/\∃ gf lb,fv = .func (.func gf) #[] lb/\(∀ args W,(callFunc gf args).run Tryz.prog W = .ok (.enter gf args) W) /\
  ∀ n,1<=n->∀ W,Keeps (fun k=>¬ X k) w W->∀ (n0:Nat) (Ow:World->Nat->Prop),OwnsO n0 Ow->n0<=W.heap.size->(∀ k,Ow W k->k < W.heap.size/\¬ X k) ->
   SeqStopsK Fence.wide n Tryz.prog gf lb encR (KpO Ow) (fun ys=>ys = l) (fun pre=>pre <+: l) l.length W
section
variable {Ow:World->Nat->Prop} {n0:Nat}
theorem lt_of_heap {W:World} {k:Nat} {o:Obj} (h:W.heap[k]? = some o):k < W.heap.size:=(Array.getElem?_eq_some_iff.1 h).1
theorem KpO.trans {A B C:World} (h:KpO Ow A B) (k:KpO Ow B C):KpO Ow A C :=
 ⟨Nat.le_trans h.size k.size,fun j o hj hc hn=>k.block j o (h.block j o hj hc hn) hc (fun e=>by
  rcases h.own j e with e | e
  ·exact hn e
  ·have:=lt_of_heap hj; omega),fun j hj=>by
  have h1:=h.size
  have h2:=k.size
  rcases k.own j hj with e | e
  ·rcases h.own j e with e | e
   ·exact .inl e
   ·exact .inr ⟨e.1,by omega⟩
  ·exact .inr ⟨by omega,e.2⟩⟩
theorem KpO.put (g:OwnsO n0 Ow) (W:World) (l:Nat) (o o':Obj) (hl:n0<=l) (h:W.heap[l]? = some o) (hc:o.isCells = false) (_:o.isWalk = false):KpO Ow W (W.putObj l o'):=by
 have hb:Below n0 W (W.putObj l o'):=(Below.refl n0 W).grown (grownBy_putObj' W l o') (by have:=lt_of_heap h; omega) (fun _ e=>by cases e; omega)
 refine ⟨hb.size,fun k x hk hx _=>?_,fun k hk=>.inl (g.below hb hk)⟩
 have hne:k ≠ l:=by
  rintro rfl
  rw [h] at hk
  injection hk with hk
  rw [hk,hx] at hc
  cases hc
 rw [World.putObj_heap_other hne]
 exact hk
theorem KpO.qt (g:OwnsO n0 Ow) {A B:World} (hn:n0<=A.heap.size) (q:Keeps (fun _=>False) A B):KpO Ow A B :=
 ⟨q.size,fun k _ hk _ _=>(q.block k (lt_of_heap hk) (fun e=>e)).trans hk,fun _ hk=>.inl (g.below ((Keeps.below q (Nat.le_refl _) (fun _ _ e=>e)).mono hn) hk)⟩
def BoxOw (B:Nat) (W:World) (k:Nat):Prop:=k = B\/∃ v,W.cell? ⟨B,0,none⟩ = some v/\v.ownBlock = some k
theorem boxOw {B:Nat} (hB:B < n0):OwnsO n0 (BoxOw B):=⟨fun hb h=>by
 rcases h with h | ⟨v,h,e⟩
 ·exact .inl h
 ·exact .inr ⟨v,by rw [<- hb.cell (p:=⟨B,0,none⟩) hB]; exact h,e⟩⟩
theorem boxOw_step {W W':World} {B:Nat} {t:TypeId} {v v':Value} (h:Boxed W B t v) (h':Boxed W' B t v') (K:Keeps (fun k=>k = B\/v.ownBlock = some k) W W') (hv:∀ x,v'.ownBlock = some x->v.ownBlock = some x\/(W.heap.size<=x/\x < W'.heap.size)):KpO (BoxOw B) W W':=by
 refine ⟨K.size,fun k _ hk _ hn=>(K.block k (lt_of_heap hk) (fun e=>hn ?_)).trans hk,fun k hk=>?_⟩
 ·rcases e with e | e
  ·exact .inl e
  ·exact .inr ⟨v,h.cell,e⟩
 ·rcases hk with hk | ⟨u,hu,e⟩
  ·exact .inl (.inl hk)
  ·rw [h'.cell] at hu
   injection hu with hu
   subst hu
   rcases hv k e with e | e
   ·exact .inl (.inr ⟨v,h.cell,e⟩)
   ·exact .inr e
end
theorem eqIn_func_nilR (d:Nat) (gf:FuncId) (lb:Array Value) (W:World):(Op.equalIn (d + 1) 98 (.func (.func gf) #[] lb) .nilFunc).run Tryz.prog W = .ok false W:=by
 simp [Op.equalIn,run_underlying Tryz.underlying98]
theorem func_nilR (gf:FuncId) (lb:Array Value) (W:World):(binOp .eql 98 (.func (.func gf) #[] lb) .nilFunc).run Tryz.prog W = .ok (.bool false) W:=by
 have h:(Op.equal 98 (.func (.func gf) #[] lb) .nilFunc).run Tryz.prog W = .ok false W:=eqIn_func_nilR 9999 gf lb W
 simp only [binOp]
 simp [h]
theorem boxR_qt {W W':World} {B:Nat} {t:TypeId} {v:Value} (h:Boxed W B t v) (q:Qt W W'):Boxed W' B t v:=(q.block B h.lt (fun e=>e)).trans h
theorem resultsR_cell2 {fn:Func} {p q:Tmp} {t u:TypeId} (h:fn.results = #[.cell p t,.cell q u]) (tmps:Array Value) (P:Program) (w:World) {a b:Addr} {x y:Value}
  (hp:tmps.getD p undef = .pointer (some a)) (hq:tmps.getD q undef = .pointer (some b)) (ht:(isAgg t).run P w = .ok false w) (hu:(isAgg u).run P w = .ok false w)
  (hx:w.cell? a = some x) (hy:w.cell? b = some y):(results fn tmps).run P w = .ok (.tuple #[x,y]) w:=by
 have hp':tmps[p]?.getD undef = .pointer (some a):=by simpa using hp
 have hq':tmps[q]?.getD undef = .pointer (some b):=by simpa using hq
 simp [results,h,hp',hq',asAddr,loadVar,Sem.run_bind,ht,hu,hx,hy,Result.andThen]
theorem news2 (W:World) (x y:Value) (t:TypeId):∀ (j:Nat) (u:Value),[x,y][j]? = some u->(W.alloc (.cells #[x,y] t)).cell? ((⟨W.heap.size,0,none⟩:Addr).add j) = some u:=by
 intro j u h
 rw [add_plain,Nat.zero_add,cell_of_row _ _ _ _ _ _ (heap_alloc_new W (.cells #[x,y] t)),<- h]
 simp
end Go.Proofs.YthjjfjhajadimaaGreatDoor
namespace Go.Proofs.YthjjfjhajadimaaGreatDoor
open Go.RowKit Go.WideShapes
set_option maxRecDepth 100000
abbrev spanV (lo hi:ByteArray) (ends:Bool):Value:=.agg #[.string lo,.string hi,.bool ends]
theorem leq_texts (a b:ByteArray):(Op.bytesLess a.toList b.toList || a.toList == b.toList) = !Tb.lt b.data.toList a.data.toList:=by
 rw [ByteArray.toList_eq,ByteArray.toList_eq]
 show (Tb.lt a.data.toList b.data.toList || a.data.toList == b.data.toList) = _
 generalize a.data.toList = x
 generalize b.data.toList = y
 cases h:Tb.lt x y with
 | true=>rw [Tb.lt_asymm h]; rfl
 | false =>
  cases h2:Tb.lt y x with
  | true=>simpa using fun e=>Tb.lt_ne h2 e.symm
  | false=>simpa using Tb.lt_total h h2
set_option maxHeartbeats 800000 in
theorem begunAt_any (lo hi:ByteArray) (ends:Bool) (k:ByteArray) (W:World):Calls Tryz.prog 244 #[spanV lo hi ends,.string k] W fun e w'=>e = .returned (.bool (!Tb.lt k.data.toList lo.data.toList))/\Qt W w':=by
 have FIN:=Lib.hid (show Qt W (W.alloc (.cells #[.string lo,.string hi,.bool ends] 219)) from (Qt.refl W).alloc _)
 go_enter Tryz.func244,Tryz.ntmps244
 go_wp2
 go_ret
 exact ⟨by rw [<- leq_texts]; rfl,FIN.out⟩
set_option maxHeartbeats 800000 in
theorem overAt_any (lo hi:ByteArray) (ends:Bool) (k:ByteArray) (W:World):Calls Tryz.prog 245 #[spanV lo hi ends,.string k] W fun e w'=>e = .returned (.bool (ends && !Tb.lt k.data.toList hi.data.toList))/\Qt W w':=by
 have FIN:=Lib.hid (show Qt W (W.alloc (.cells #[.string lo,.string hi,.bool ends] 219)) from (Qt.refl W).alloc _)
 cases ends with
 | false =>
  go_enter Tryz.func245,Tryz.ntmps245
  go_wp2
  go_ret
  exact ⟨rfl,FIN.out⟩
 | true =>
  go_enter Tryz.func245,Tryz.ntmps245
  go_wp2
  go_ret
  exact ⟨by rw [Bool.true_and,<- leq_texts]; rfl,FIN.out⟩
theorem kpo_cell {Ow:World->Nat->Prop} {A B:World} (h:KpO Ow A B) {b i:Nat} {v:Value} (hc:A.cell? ⟨b,i,none⟩ = some v) (hn:¬ Ow A b):B.cell? ⟨b,i,none⟩ = some v:=by
 have hb:∃ o:Obj,A.heap[b]? = some o/\o.isCells = true:=by
  unfold World.cell? at hc
  cases ho:A.heap[b]? with
  | none=>simp [ho] at hc
  | some o=>exact ⟨o,rfl,by cases o <;> simp_all [Obj.isCells]⟩
 obtain ⟨o,ho,hcs⟩:=hb
 rw [World.cell?_of_block (w:=A) (w':=B) (a:=⟨b,i,none⟩) ((h.block b o ho hcs hn).trans ho.symm)]
 exact hc
theorem IsT.kpo {X:Nat->Prop} {Ow:World->Nat->Prop} {W W':World} (h:KpO Ow W W') (hX:∀ k,X k->¬ Ow W k):∀ {p:Option Addr} {T:Tb.Tr},IsT X W p T->IsT X W' p T
 | _,.leaf,ht=>ht
 | _,.node _ _ _,⟨b,pl,pr,hp,hb,c0,c1,c2,c3,c4,hl,hr⟩=>⟨b,pl,pr,hp,hb,kpo_cell h c0 (hX b hb),kpo_cell h c1 (hX b hb),kpo_cell h c2 (hX b hb),kpo_cell h c3 (hX b hb),kpo_cell h c4 (hX b hb),IsT.kpo h hX hl,IsT.kpo h hX hr⟩
structure Lv (n0:Nat) (Ow:World->Nat->Prop) (X:Nat->Prop) (W:World):Prop where
 base:n0<=W.heap.size
 own:∀ k,Ow W k->k < W.heap.size
 there:∀ k,X k->k < W.heap.size
 apart:∀ k,X k->¬ Ow W k
section
variable {n0:Nat} {Ow:World->Nat->Prop} {X:Nat->Prop} {W W':World}
theorem Lv.kp (h:Lv n0 Ow X W) (k:KpO Ow W W'):Lv n0 Ow X W':=by
 have hz:=k.size
 refine ⟨Nat.le_trans h.base hz,fun j hj=>?_,fun j hj=>Nat.lt_of_lt_of_le (h.there j hj) hz,fun j hj e=>?_⟩
 ·rcases k.own j hj with e | e
  ·exact Nat.lt_of_lt_of_le (h.own j e) hz
  ·exact e.2
 ·rcases k.own j e with e | e
  ·exact h.apart j hj e
  ·have:=h.there j hj; omega
theorem Lv.qt (g:OwnsO n0 Ow) (h:Lv n0 Ow X W) (q:Qt W W'):Lv n0 Ow X W':=h.kp (KpO.qt g h.base q)
theorem Lv.more (g:OwnsO n0 Ow) (h:Lv n0 Ow X W) (q:Qt W W') {b:Nat} (hb:W.heap.size<=b) (hb2:b < W'.heap.size):Lv n0 Ow (fun k=>X k\/k = b) W':=by
 have h2:=h.qt g q
 refine ⟨h2.base,h2.own,fun j hj=>?_,fun j hj e=>?_⟩
 ·rcases hj with hj | hj
  ·exact h2.there j hj
  ·omega
 ·rcases hj with hj | hj
  ·exact h2.apart j hj e
  ·subst hj
   rcases (KpO.qt g h.base q).own j e with e | e
   ·have:=h.own j e; omega
   ·have hbl:Below n0 W W':=(Qt.below q).mono h.base
    have:=h.own j (g.below hbl ‹_›)
    omega
end
theorem yieldDeep {m:Nat} (m':Nat) {P:Program} {l:Nat} {args:Array Value} {W:World} {R:Ending->World->Prop} (h:YieldAt Fence.wide m P l args W R):YieldAt Fence.wide m' P l args W R:=by
 obtain ⟨fn,tmps,assign,body,hy,h1,h2⟩:=h
 exact ⟨fn,tmps,assign,body,hy,h1,fun c cs _=>h2 c cs (room_wide _)⟩
def RiseP (Ow:World->Nat->Prop) (J Jx:List Tb.R->World->Prop) (pre L:List Tb.R) (W:World) (e:Ending) (W':World):Prop :=
 ∃ ok:Bool,e = .returned (.bool ok)/\((ok = true/\J (pre ++ L) W'/\KpO Ow W W')\/(ok = false/\∃ q,q <+: L/\Jx (pre ++ q) W'))
theorem by_key {T G:Prop} (h:T->G) (key:T):G:=h key
theorem wpAnyIn_listed {F:Fence} {n:Nat} {P:Program} {md:Region.Mode} {ops:Array Oper} {Q:Exit->Act->World->Prop} {fuel:Nat} {a b:Array Bool} {act:Act} {w:World} (e:a = b) (h:wpAnyIn F n P md ops Q fuel b act w):wpAnyIn F n P md ops Q fuel a act w:=e ▸ h
section
variable {F:Fence} {n:Nat} {P:Program} {md:Region.Mode} {ops:Array Oper} {Q:Exit->Act->World->Prop} {fuel i:Nat} {listed:Array Bool} {a:Act} {w:World} {oi:Oper} {v:Value}
theorem wpAnyIn_takeD (d:Option Tmp) (hro:F.round = none) (hi:ops[i]? = some oi) (hd:oi.dst = d) (hs:Region.noSelect ops = true) (hf:Region.free md ops listed i = true) (hr:(Region.ready md ops listed).contains i = true)
  (hQ:∀ c a w,Q (.panic c) (a.put oi.dst v) w->Q (.panic c) a w) (hy:YieldsFenced P ops oi v a)
  (h:wpAnyIn F n P md ops Q fuel (listed.setIfInBounds i true) (a.put d v) w):wpAnyIn F n P md ops Q (fuel + 1) listed a w :=
 wpAnyIn_take hro hi hs hf hr hQ hy (hd ▸ h)
end
end Go.Proofs.YthjjfjhajadimaaGreatDoor
