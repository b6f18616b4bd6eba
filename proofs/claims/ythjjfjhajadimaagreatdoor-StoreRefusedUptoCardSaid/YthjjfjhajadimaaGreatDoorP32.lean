/-
  Joined: OBytes, OCiP, OCi, TSeqR.
-/
import Derived.Test.YthjjfjhajadimaaGreatDoorP31
namespace Go.Proofs.YthjjfjhajadimaaGreatDoor
open Go.RowKit Go.WideShapes
set_option maxRecDepth 100000
def BytesP (r:Option Nat) (w:World) (e:Ending) (w':World):Prop:=(match r with | some k=>e = .returned (.int .i64 ((k:Nat):Int)) | none=>e = .panicked [{ v:=.iface 163 (.agg #[]),recovered:=false }])/\Qt w w'
theorem bytes_none {r:Option Nat} {w w':World} (h:r = none) (q:Qt w w'):BytesP r w (.panicked [{ v:=.iface 163 (.agg #[]),recovered:=false }]) w':=by subst h; exact ⟨rfl,q⟩
theorem bytes_some {r:Option Nat} {k:Nat} {w w':World} (h:r = some k) (q:Qt w w'):BytesP r w (.returned (.int .i64 ((k:Nat):Int))) w':=by subst h; exact ⟨rfl,q⟩
theorem moved_qt {w W W':World} {R:Nat} {s:ByteArray} {p:Nat} (q:Qt w W) (m:Moved R s p W W') (hR:w.heap.size<=R):Qt w W':=Keeps.trans (S:=fun _=>False) q m.keeps (fun i hi e=>by have e:i = R:=e; omega)
set_option maxHeartbeats 8000000 in
theorem bytesIn13_any (ad:Nat->Addr) {b:Nat} {d:DS} {S:Nat->Prop} (s:ByteArray) (hs:s.size<=140737488355328) (w:World) (hE:Errs ad w) (h:DiskAt w b d S) :
  Calls Tryz.prog 145 #[layV b d.dur.length,.string s] w (BytesP (So.parse d.dur.length s.data.toList) w):=by
 have hmax:d.dur.length<=65536:=by obtain ⟨gd,mb,uv,P,_⟩:=h; exact P.ok.le
 have SZ:=Lib.hid (fun W (q:Qt w W)=>size_same (DiskAt.qt h q))
 have EK:=Lib.hid (fun W (q:Qt w W)=>(show Errs ad W from hE.kept q (OffErrs.none ad)))
 clear h hE
 obtain ⟨n,hn⟩:∃ n,d.dur.length = n:=⟨_,rfl⟩
 rw [hn] at hmax SZ ⊢
 clear hn
 have RM:=Lib.hid (fun W=>room13_any b n (by unfold So.each; omega) W)
 have HRM:=Lib.hid (show So.room n<=5111574 by unfold So.room So.each; omega)
 have HMAX:=Lib.hid hmax
 obtain ⟨W0,hW0,q0,bL,hz0⟩:=box_own w 135 (layCells b n)
 have HS:=Lib.hid hs
 have RD:=rread_any s W0 hs
 have Q0:=Lib.hid q0
 have HZ0:=Lib.hid hz0
 unfold layV at RM ⊢
 unfold layCells at RM bL hW0
 have BL:=Lib.hid bL
 obtain ⟨R,hR⟩:∃ R,W0.heap.size = R:=⟨_,rfl⟩
 rw [hR] at RD
 have HR:=Lib.hid (show w.heap.size<=R by omega)
 have HRne:=Lib.hid (show w.heap.size ≠ R by omega)
 have PR:=Lib.hid (show So.parse n s.data.toList = match varintD (rest s 0) with | .inl _=>none | .inr (x,p)=>if x ≠ n then none else match varintD (rest s p) with | .inl _=>none | .inr (k,q)=>if So.room n < k then none else if p + q = s.size then some k else none from rfl)
 generalize So.parse n s.data.toList = PP at *
 generalize hE1:So.each n = ea at *
 generalize hE2:So.logAt n = lg at *
 generalize hE3:So.many n = mn at *
 clear hE1 hE2 hE3 hz0 bL q0 hs hmax hR
 generalize hA:varintD (rest s 0) = r1 at *
 have HA:=Lib.hid hA
 clear hA
 rcases r1 with e1 | ⟨x,p⟩
 ·have NO:=Lib.hid (show PP = none from PR.out)
  go_enter Tryz.func145,Tryz.ntmps145
  go_wp2_with fail
  refine RD.mono ?_
  rintro e w1 ⟨rfl,rd1,k1⟩
  have Q1:=Lib.hid (Qt.trans Q0.out k1)
  have BL1:=Lib.hid (BL.out.qt k1)
  have U1:=rupto_err ad R s 0 e1 65536 w1 rd1 (EK.out _ Q1.out) HA.out
  clear rd1 k1 RD
  go_wp2_with fail
  refine U1.mono ?_
  rintro e w2 ⟨rfl,m2⟩
  have Q2:=Lib.hid (moved_qt Q1.out m2 HR.out)
  have BL2:=Lib.hid (BL1.out.kept m2.keeps HRne.out)
  have RD2:=Lib.hid m2.rd
  clear m2 U1
  have MN:=mustI_no (.int .i64 0) 335 (.pointer (some (ad e1))) w2
  unfold brokenE at MN
  go_wp2_with fail
  refine MN.mono ?_
  rintro e w9 ⟨rfl,rfl⟩
  have FIN:=Lib.hid (bytes_none (show PP = none from NO.out) Q2.out)
  clear MN
  go_wp2
  exact ⟨rfl,FIN.out⟩
 ·by_cases hx:(65536:Int) < (x:Int)
  ·have NO:=Lib.hid (show PP = none from by rw [PR.out]; exact if_pos (fun e=>by have:=HMAX.out; omega))
   go_enter Tryz.func145,Tryz.ntmps145
   go_wp2_with fail
   refine RD.mono ?_
   rintro e w1 ⟨rfl,rd1,k1⟩
   have Q1:=Lib.hid (Qt.trans Q0.out k1)
   have BL1:=Lib.hid (BL.out.qt k1)
   have U1:=rupto_limit ad R s 0 x p 65536 w1 rd1 (EK.out _ Q1.out) HA.out hx (by decide)
   clear rd1 k1 RD
   go_wp2_with fail
   refine U1.mono ?_
   rintro e w2 ⟨rfl,m2⟩
   have Q2:=Lib.hid (moved_qt Q1.out m2 HR.out)
   have BL2:=Lib.hid (BL1.out.kept m2.keeps HRne.out)
   have RD2:=Lib.hid m2.rd
   clear m2 U1
   have MN:=mustI_no (.int .i64 0) 335 (.pointer (some (ad 3))) w2
   unfold brokenE at MN
   go_wp2_with fail
   refine MN.mono ?_
   rintro e w9 ⟨rfl,rfl⟩
   have FIN:=Lib.hid (bytes_none (show PP = none from NO.out) Q2.out)
   clear MN
   go_wp2
   exact ⟨rfl,FIN.out⟩
  ·have hx2:(x:Int)<=65536:=by omega
   have PR2:=Lib.hid (show PP = (if x ≠ n then none else match varintD (rest s p) with | .inl _=>none | .inr (k,q)=>if So.room n < k then none else if p + q = s.size then some k else none) from PR.out)
   clear PR
   generalize hB:varintD (rest s p) = r2 at *
   have HB:=Lib.hid hB
   have HX2:=Lib.hid hx2
   clear hB hx hx2
   rcases r2 with e2 | ⟨k,q⟩
   ·have NO:=Lib.hid (show PP = none from by rw [PR2.out]; by_cases hxn:x ≠ n; exact if_pos hxn; rw [if_neg hxn])
    go_enter Tryz.func145,Tryz.ntmps145
    go_wp2_with fail
    refine RD.mono ?_
    rintro e w1 ⟨rfl,rd1,k1⟩
    have Q1:=Lib.hid (Qt.trans Q0.out k1)
    have BL1:=Lib.hid (BL.out.qt k1)
    have U1:=rupto_ok ad R s 0 x p 65536 w1 rd1 (EK.out _ Q1.out) HA.out HX2.out (by decide)
    clear rd1 k1 RD
    go_wp2_with fail
    refine U1.mono ?_
    rintro e w2 ⟨rfl,m2⟩
    have Q2:=Lib.hid (moved_qt Q1.out m2 HR.out)
    have BL2:=Lib.hid (BL1.out.kept m2.keeps HRne.out)
    have RD2:=Lib.hid m2.rd
    clear m2 U1
    rw [Nat.zero_add] at RD2
    have MN:=mustI_ok (.int .i64 (x:Int)) w2
    go_wp2_with fail
    refine MN.mono ?_
    rintro e w9 ⟨rfl,rfl⟩
    clear MN
    have RM2:=RM.out w9
    have l0:=BL2.out.cell 0 _ rfl
    have l1:=BL2.out.cell 1 _ rfl
    have l2:=BL2.out.cell 2 _ rfl
    have l3:=BL2.out.cell 3 _ rfl
    have l4:=BL2.out.cell 4 _ rfl
    have l5:=BL2.out.cell 5 _ rfl
    go_wp2_with fail
    refine RM2.mono ?_
    rintro e w3 ⟨rfl,hw3⟩
    have q3:Qt w9 w3:=hw3 ▸ (Qt.refl w9).alloc _
    have Q3:=Lib.hid (Qt.trans Q2.out q3)
    have BL3:=Lib.hid (BL2.out.qt q3)
    have RD3:=Lib.hid (RD2.out.kept q3 (fun e=>e))
    clear hw3 q3 RM2 l0 l1 l2 l3 l4 l5
    have U3:=rupto_err ad R s p e2 ((So.room n:Nat):Int) w3 RD3.out (EK.out _ Q3.out) HB.out
    go_wp2_with fail
    refine U3.mono ?_
    rintro e w4 ⟨rfl,m4⟩
    have Q4:=Lib.hid (moved_qt Q3.out m4 HR.out)
    have BL4:=Lib.hid (BL3.out.kept m4.keeps HRne.out)
    have RD4:=Lib.hid m4.rd
    clear m4 U3
    have MN:=mustI_no (.int .i64 0) 335 (.pointer (some (ad e2))) w4
    unfold brokenE at MN
    go_wp2_with fail
    refine MN.mono ?_
    rintro e w9 ⟨rfl,rfl⟩
    have FIN:=Lib.hid (bytes_none (show PP = none from NO.out) Q4.out)
    clear MN
    go_wp2
    exact ⟨rfl,FIN.out⟩
   ·by_cases hk:So.room n < k
    ·have NO:=Lib.hid (show PP = none from by rw [PR2.out]; by_cases hxn:x ≠ n; exact if_pos hxn; rw [if_neg hxn]; exact if_pos hk)
     have HK:=Lib.hid (show ((So.room n:Nat):Int) < (k:Int) by omega)
     clear hk
     go_enter Tryz.func145,Tryz.ntmps145
     go_wp2_with fail
     refine RD.mono ?_
     rintro e w1 ⟨rfl,rd1,k1⟩
     have Q1:=Lib.hid (Qt.trans Q0.out k1)
     have BL1:=Lib.hid (BL.out.qt k1)
     have U1:=rupto_ok ad R s 0 x p 65536 w1 rd1 (EK.out _ Q1.out) HA.out HX2.out (by decide)
     clear rd1 k1 RD
     go_wp2_with fail
     refine U1.mono ?_
     rintro e w2 ⟨rfl,m2⟩
     have Q2:=Lib.hid (moved_qt Q1.out m2 HR.out)
     have BL2:=Lib.hid (BL1.out.kept m2.keeps HRne.out)
     have RD2:=Lib.hid m2.rd
     clear m2 U1
     rw [Nat.zero_add] at RD2
     have MN:=mustI_ok (.int .i64 (x:Int)) w2
     go_wp2_with fail
     refine MN.mono ?_
     rintro e w9 ⟨rfl,rfl⟩
     clear MN
     have RM2:=RM.out w9
     have l0:=BL2.out.cell 0 _ rfl
     have l1:=BL2.out.cell 1 _ rfl
     have l2:=BL2.out.cell 2 _ rfl
     have l3:=BL2.out.cell 3 _ rfl
     have l4:=BL2.out.cell 4 _ rfl
     have l5:=BL2.out.cell 5 _ rfl
     go_wp2_with fail
     refine RM2.mono ?_
     rintro e w3 ⟨rfl,hw3⟩
     have q3:Qt w9 w3:=hw3 ▸ (Qt.refl w9).alloc _
     have Q3:=Lib.hid (Qt.trans Q2.out q3)
     have BL3:=Lib.hid (BL2.out.qt q3)
     have RD3:=Lib.hid (RD2.out.kept q3 (fun e=>e))
     clear hw3 q3 RM2 l0 l1 l2 l3 l4 l5
     have U3:=rupto_limit ad R s p k q ((So.room n:Nat):Int) w3 RD3.out (EK.out _ Q3.out) HB.out HK.out (by have:=HRM.out; omega)
     go_wp2_with fail
     refine U3.mono ?_
     rintro e w4 ⟨rfl,m4⟩
     have Q4:=Lib.hid (moved_qt Q3.out m4 HR.out)
     have BL4:=Lib.hid (BL3.out.kept m4.keeps HRne.out)
     have RD4:=Lib.hid m4.rd
     clear m4 U3
     have MN:=mustI_no (.int .i64 0) 335 (.pointer (some (ad 3))) w4
     unfold brokenE at MN
     go_wp2_with fail
     refine MN.mono ?_
     rintro e w9 ⟨rfl,rfl⟩
     have FIN:=Lib.hid (bytes_none (show PP = none from NO.out) Q4.out)
     clear MN
     go_wp2
     exact ⟨rfl,FIN.out⟩
    ·have HK:=Lib.hid (show (k:Int)<=((So.room n:Nat):Int) by omega)
     have HK2:=Lib.hid hk
     clear hk
     go_enter Tryz.func145,Tryz.ntmps145
     go_wp2_with fail
     refine RD.mono ?_
     rintro e w1 ⟨rfl,rd1,k1⟩
     have Q1:=Lib.hid (Qt.trans Q0.out k1)
     have BL1:=Lib.hid (BL.out.qt k1)
     have U1:=rupto_ok ad R s 0 x p 65536 w1 rd1 (EK.out _ Q1.out) HA.out HX2.out (by decide)
     clear rd1 k1 RD
     go_wp2_with fail
     refine U1.mono ?_
     rintro e w2 ⟨rfl,m2⟩
     have Q2:=Lib.hid (moved_qt Q1.out m2 HR.out)
     have BL2:=Lib.hid (BL1.out.kept m2.keeps HRne.out)
     have RD2:=Lib.hid m2.rd
     clear m2 U1
     rw [Nat.zero_add] at RD2
     have MN:=mustI_ok (.int .i64 (x:Int)) w2
     go_wp2_with fail
     refine MN.mono ?_
     rintro e w9 ⟨rfl,rfl⟩
     clear MN
     have RM2:=RM.out w9
     have l0:=BL2.out.cell 0 _ rfl
     have l1:=BL2.out.cell 1 _ rfl
     have l2:=BL2.out.cell 2 _ rfl
     have l3:=BL2.out.cell 3 _ rfl
     have l4:=BL2.out.cell 4 _ rfl
     have l5:=BL2.out.cell 5 _ rfl
     go_wp2_with fail
     refine RM2.mono ?_
     rintro e w3 ⟨rfl,hw3⟩
     have q3:Qt w9 w3:=hw3 ▸ (Qt.refl w9).alloc _
     have Q3:=Lib.hid (Qt.trans Q2.out q3)
     have BL3:=Lib.hid (BL2.out.qt q3)
     have RD3:=Lib.hid (RD2.out.kept q3 (fun e=>e))
     clear hw3 q3 RM2 l0 l1 l2 l3 l4 l5
     have U3:=rupto_ok ad R s p k q ((So.room n:Nat):Int) w3 RD3.out (EK.out _ Q3.out) HB.out HK.out (by have:=HRM.out; omega)
     go_wp2_with fail
     refine U3.mono ?_
     rintro e w4 ⟨rfl,m4⟩
     have Q4:=Lib.hid (moved_qt Q3.out m4 HR.out)
     have BL4:=Lib.hid (BL3.out.kept m4.keeps HRne.out)
     have RD4:=Lib.hid m4.rd
     clear m4 U3
     have MK:=mustI_ok (.int .i64 (k:Int)) w4
     go_wp2_with fail
     refine MK.mono ?_
     rintro e w9 ⟨rfl,rfl⟩
     clear MK
     have SZ4:=SZ.out w9 Q4.out
     have l0:=BL4.out.cell 0 _ rfl
     have LE4:=RD4.out.le
     by_cases hxn:x = n
     ·have y:((x:Int) == (n:Int)) = true:=beq_iff_eq.2 (by omega)
      have y':(x == n) = true:=beq_iff_eq.2 hxn
      have HXN:=Lib.hid hxn
      clear hxn
      by_cases hd:p + q < s.size
      ·have NO:=Lib.hid (show PP = none from by rw [PR2.out]; exact (if_neg (fun e=>e HXN.out)).trans ((if_neg HK2.out).trans (if_neg (by omega))))
       have DN:=rdone_any ad R s (p + q) w9 RD4.out (EK.out _ Q4.out)
       rw [if_pos hd,errV_pos ad (by decide)] at DN
       have NN:=fun (m:Nat)=>need_no (w9.drewN m)
       unfold brokenE at NN
       clear hd LE4
       go_wp2_with fail
       refine SZ4.mono ?_
       rintro e w5 ⟨rfl,rfl⟩
       go_wp2_with fail
       refine DN.mono ?_
       rintro e w6 ⟨rfl,m,rfl⟩
       have NM:=NN m
       have FIN:=Lib.hid (bytes_none NO.out (Keeps.drewN Q4.out m))
       clear NN DN SZ4
       go_wp2_with fail
       refine NM.mono ?_
       rintro e w7 ⟨rfl,rfl⟩
       go_wp2
       exact ⟨rfl,FIN.out⟩
      ·have YES:=Lib.hid (show PP = some k from by rw [PR2.out]; exact (if_neg (fun e=>e HXN.out)).trans ((if_neg HK2.out).trans (if_pos (by omega))))
       have DN:=rdone_any ad R s (p + q) w9 RD4.out (EK.out _ Q4.out)
       rw [if_neg hd,errV_zero] at DN
       have NN:=fun (m:Nat)=>need_ok (w9.drewN m)
       clear hd LE4
       go_wp2_with fail
       refine SZ4.mono ?_
       rintro e w5 ⟨rfl,rfl⟩
       go_wp2_with fail
       refine DN.mono ?_
       rintro e w6 ⟨rfl,m,rfl⟩
       have NM:=NN m
       have FIN:=Lib.hid (bytes_some YES.out (Keeps.drewN Q4.out m))
       clear NN DN SZ4
       go_wp2_with fail
       refine NM.mono ?_
       rintro e w7 ⟨rfl,rfl⟩
       go_wp2
       exact bodyPost_ret (results_tmp (t:=4) rfl _ _ _) rfl FIN.out
     ·have y:((x:Int) == (n:Int)) = false:=beq_eq_false_iff_ne.2 (by omega)
      have y':(x == n) = false:=beq_eq_false_iff_ne.2 hxn
      have FIN:=Lib.hid (bytes_none (show PP = none from by rw [PR2.out]; exact if_pos hxn) Q4.out)
      have NN:=need_no w9
      unfold brokenE at NN
      clear hxn
      go_wp2_with fail
      refine SZ4.mono ?_
      rintro e w5 ⟨rfl,rfl⟩
      go_wp2_with fail
      refine NN.mono ?_
      rintro e w7 ⟨rfl,rfl⟩
      go_wp2
      exact ⟨rfl,FIN.out⟩
end Go.Proofs.YthjjfjhajadimaaGreatDoor
namespace Go.Proofs.YthjjfjhajadimaaGreatDoor
namespace So
open Tb
def mkO (r:R):Bt.O:=⟨false,r.1,r.2⟩
def ontoR (us:List R) (d:Nat):Option (List R × Nat)->Option (List R × Nat)
 | none=>none
 | some (rs,m)=>some (us ++ rs,d + m)
theorem ontoR_nil (r:Option (List R × Nat)):ontoR [] 0 r = r:=by
 cases r with
 | none=>rfl
 | some p=>obtain ⟨rs,m⟩:=p; simp [ontoR]
theorem ontoR_ok {most:Int} {fst:Bool} {before l:Txt} {r:R} {n:Nat} (h:rowD most fst before l = some (r,n)) (us:List R) (d k:Nat):ontoR us d (rowsD most (k + 1) fst before l) = ontoR (us ++ [r]) (d + n) (rowsD most k false r.1 (l.drop n)):=by
 rw [rowsD,h]
 simp only
 cases rowsD most k false r.1 (l.drop n) with
 | none=>rfl
 | some p=>obtain ⟨rs,m⟩:=p; simp [ontoR,Nat.add_assoc]
theorem ontoR_no {most:Int} {fst:Bool} {before l:Txt} (h:rowD most fst before l = none) (us:List R) (d k:Nat):ontoR us d (rowsD most (k + 1) fst before l) = none:=by
 rw [rowsD,h]
 rfl
theorem snap_no {l:Txt} {x n:Nat} (h:varintD l = .inr (x,n)) (hr:rowsD l.length x true [] (l.drop n) = none):snapD l = none:=by
 unfold snapD
 rw [h]
 simp only
 split
 ·rfl
 ·rw [hr]
theorem snap_yes {l:Txt} {x n d:Nat} {us:List R} (h:varintD l = .inr (x,n)) (hr:rowsD l.length x true [] (l.drop n) = some (us,d)) (hd:n + d = l.length) (hk:x<=d):snapD l = some us:=by
 unfold snapD
 rw [h]
 simp only
 rw [if_neg (by omega),hr]
 simp only
 rw [if_pos hd]
theorem snap_tail {l:Txt} {x n d:Nat} {us:List R} (h:varintD l = .inr (x,n)) (hr:rowsD l.length x true [] (l.drop n) = some (us,d)) (hd:n + d ≠ l.length):snapD l = none:=by
 unfold snapD
 rw [h]
 simp only
 split
 ·rfl
 ·rw [hr]
  simp only
  rw [if_neg hd]
theorem mk_codes (us:List R):Bt.codes (us.map mkO) = us.map fun r=>(r.1,(Bt.code (mkO r)).2):=by
 unfold Bt.codes
 rw [List.map_map]
 refine List.map_congr_left fun r _=>?_
 rfl
theorem mk_norm {us:List R} (h:Sorted us):Bt.Norm (us.map mkO):=by
 refine ⟨?_,fun o ho=>?_⟩
 ·rw [mk_codes]
  unfold Sorted at h ⊢
  rw [List.pairwise_map]
  exact h
 ·obtain ⟨r,_,rfl⟩:=List.mem_map.1 ho
  rfl
theorem mk_apply {us:List R} (h:Sorted us):Bt.apply [] (us.map mkO) = us:=(Bt.ofL_puts us).trans (ofL_id us h)
theorem row_none1 {most:Int} {fst:Bool} {before l:Txt} {e:Nat} (h:textD most l = .inl e):rowD most fst before l = none:=by
 unfold rowD
 rw [h]
theorem row_none2 {most:Int} {fst:Bool} {before l k:Txt} {m e:Nat} (h:textD most l = .inr (k,m)) (h2:textD most (l.drop m) = .inl e):rowD most fst before l = none:=by
 unfold rowD
 rw [h]
 simp only
 rw [h2]
 simp
theorem row_none3 {most:Int} {before l k:Txt} {m:Nat} (h:textD most l = .inr (k,m)) (h3:lt before k = false):rowD most false before l = none:=by
 unfold rowD
 rw [h]
 simp only
 simp [h3]
theorem row_some {most:Int} {fst:Bool} {before l k v:Txt} {m m2:Nat} (h:textD most l = .inr (k,m)) (h2:textD most (l.drop m) = .inr (v,m2)) (h3:fst = true\/lt before k = true):rowD most fst before l = some ((k,v),m + m2):=by
 unfold rowD
 rw [h]
 simp only
 rw [if_neg (by rintro ⟨e1,e2⟩; rcases h3 with e | e <;> simp_all),h2]
end So
end Go.Proofs.YthjjfjhajadimaaGreatDoor
namespace Go.Proofs.YthjjfjhajadimaaGreatDoor
open Go.RowKit Go.WideShapes
set_option maxRecDepth 100000
def ContP (r:Option (List Tb.R)) (w:World) (e:Ending) (w':World):Prop:=match r with
 | some l=>∃ t A,e = .returned (contV t (So.rowsB l).length)/\Tbl w' t l A/\(∀ k,A k->w.heap.size<=k)/\w.heap.size<=t/\Qt w w'
 | none=>e = .panicked [{ v:=.iface 163 (.agg #[]),recovered:=false }]/\Qt w w'
theorem cont_none {r:Option (List Tb.R)} {w w':World} (h:r = none) (q:Qt w w'):ContP r w (.panicked [{ v:=.iface 163 (.agg #[]),recovered:=false }]) w':=by subst h; exact ⟨rfl,q⟩
theorem cont_some {r:Option (List Tb.R)} {l:List Tb.R} {A:Nat->Prop} {t k:Nat} {w w':World} (h:r = some l) (hk:(So.rowsB l).length = k) (hT:Tbl w' t l A) (hA:∀ j,A j->w.heap.size<=j) (ht:w.heap.size<=t) (q:Qt w w'):ContP r w (.returned (.agg #[ptrV t,.int .i64 (k:Int)])) w':=by
 subst h
 subst hk
 exact ⟨t,A,rfl,hT,hA,ht,q⟩
theorem small_rows {us:List Tb.R} (h:(So.rowsB us).length<=8388608):Bt.Small (us.map So.mkO):=by
 refine ⟨by rw [List.length_map]; have:=So.rowsB_len us; omega,fun o ho=>?_⟩
 obtain ⟨r,hr,rfl⟩:=List.mem_map.1 ho
 have h1:=So.row_rowsB hr
 have h2:=So.rowB_length r
 have e1:(So.mkO r).key = r.1:=rfl
 have e2:(So.mkO r).val = r.2:=rfl
 rw [e1,e2]
 omega
def CiAt (w:World) (b B:Nat) (s:ByteArray) (x n:Nat) (ov iv:Value) (wr:World):Prop :=
 ∃ (k d:Nat) (us:List Tb.R) (ol:List Bt.O) (fst:Bool) (before:Tb.Txt),k<=x/\iv = .int .u64 (k:Int)/\us.length = k/\k<=d/\ol = us.map So.mkO/\NewO w wr ov ol/\ov.ownBlock ≠ some b/\ov.ownBlock ≠ some B/\Rd b s (n + d) wr/\Bk wr B 132 [.pointer none,.int .i64 0]/\(k = 0->fst = true)/\(∀ j,k = j + 1->fst = false/\∃ r,us[j]? = some r/\r.1 = before) /\
  So.ontoR us d (So.rowsD s.data.toList.length (x - k) fst before (rest s (n + d))) = So.rowsD s.data.toList.length x true [] (rest s n)
set_option maxHeartbeats 6400000 in
theorem contentIn13_any (ad:Nat->Addr) (s:ByteArray) (w:World) (hs:s.size<=8388608) (hE:Errs ad w) :
  Calls Tryz.prog 146 #[.string s] w (ContP (So.snapD s.data.toList) w):=by
 obtain ⟨W0,hW0,q0,bB,hz0⟩:=box_own w 132 #[.pointer none,.int .i64 0]
 have RR:=rread_any s W0 (by omega)
 obtain ⟨i0,hi0,hz0',hz1,hz2⟩:=info_parts infoOp12
 have HE:=Lib.hid hE
 have HS:=Lib.hid hs
 obtain ⟨B,hB⟩:∃ B,w.heap.size = B:=⟨_,rfl⟩
 obtain ⟨b,hb⟩:∃ b,W0.heap.size = b:=⟨_,rfl⟩
 have HB:=Lib.hid (show w.heap.size = B from hB)
 have HBb:=Lib.hid (show b = B + 1 by omega)
 have HO:=Lib.hid (offErrs_new hE (show w.heap.size<=b by omega))
 have Q0:=Lib.hid q0
 rw [hB] at bB
 have BB:=Lib.hid bB
 rw [hb] at RR
 clear hE hs hb q0 bB hz0
 go_enter Tryz.func146,Tryz.ntmps146
 go_wp2_with fail
 refine RR.mono ?_
 rintro e w1 ⟨rfl,h1,q1⟩
 have Q1:=Lib.hid (Qt.trans Q0.out q1)
 have R1:=Lib.hid h1
 have BB1:=Lib.hid (BB.out.qt q1)
 have E1:=Lib.hid (HE.out.kept Q1.out (OffErrs.none ad))
 have MVQ:=Lib.hid (fun (W W':World) (p:Nat) (q:Qt w W) (m:Moved b s p W W')=>(show Qt w W' from moved_qt q m (by have:=HB.out; have:=HBb.out; omega)))
 have NEb:=Lib.hid (show B ≠ b by have:=HBb.out; omega)
 clear RR h1 q1
 cases hD:varintD (rest s 0) with
 | inl er =>
  have UI:=ruint_err ad b s 0 er w1 R1.out E1.out hD
  have FD:=Lib.hid (show So.snapD s.data.toList = none from by
   unfold So.snapD
   rw [show varintD s.data.toList = .inl er from hD])
  clear hD
  go_wp2_with fail
  refine UI.mono ?_
  rintro e w2 ⟨rfl,m2⟩
  have Q2:=Lib.hid (MVQ.out _ _ _ Q1.out m2)
  have MN:=mustU_no (.int .u64 0) 335 (.pointer (some (ad er))) w2
  unfold brokenE at MN
  clear UI m2
  go_wp2_with fail
  refine MN.mono ?_
  rintro e w9 ⟨rfl,rfl⟩
  have FIN:=Lib.hid (cont_none FD.out Q2.out)
  clear MN
  go_wp2
  exact ⟨rfl,FIN.out⟩
 | inr xn =>
  obtain ⟨x,n⟩:=xn
  have UI:=ruint_ok ad b s 0 x n w1 R1.out E1.out hD
  obtain ⟨hx64,hn0,hn10⟩:=varintD_len (Nat.zero_le _) hD
  rw [Nat.zero_add] at UI hn0
  have HD:=Lib.hid (show varintD s.data.toList = .inr (x,n) from hD)
  have HX:=Lib.hid hx64
  clear hD hx64
  go_wp2_with fail
  refine UI.mono ?_
  rintro e w2 ⟨rfl,m2⟩
  have Q2:=Lib.hid (MVQ.out _ _ _ Q1.out m2)
  have START:=Lib.hid (show CiAt w b B s x n (.slice none 0 0) (.int .u64 0) w2 from
   ⟨0,0,[],[],true,[],Nat.zero_le _,rfl,rfl,Nat.le_refl _,rfl,⟨⟨rfl,.inl ⟨rfl,rfl⟩⟩,fun g e=>(by cases e),Q2.out⟩,(by intro e; cases e),(by intro e; cases e),m2.rd,BB1.out.kept m2.keeps NEb.out,fun _=>rfl,fun j e=>by omega,by rw [So.ontoR_nil]; rfl⟩)
  have MO:=mustU_ok (.int .u64 (x:Int)) w2
  clear UI m2
  go_wp2_with fail
  refine MO.mono ?_
  rintro e w3 ⟨rfl,rfl⟩
  clear MO
  go_wp2
  go_loopw [4,15] (fun ov iv wr=>CiAt w b B s x n ov iv wr) (fun _ iv _=>x - (intOf iv).toNat)
  case atStart=>exact START.out
  case round =>
   obtain ⟨k,d,us,ol,fst,before,hk,rfl,hus,hkd,hol,N,hnb,hnB,R,bk,hf0,hfS,hon⟩:=hrel
   have HN:=Lib.hid N
   have HNB:=Lib.hid hnb
   have HNB2:=Lib.hid hnB
   have HR:=Lib.hid R
   have HBK:=Lib.hid bk
   have HON:=Lib.hid hon
   have HUS:=Lib.hid hus
   have HKD:=Lib.hid hkd
   have HOL:=Lib.hid hol
   have HF0:=Lib.hid hf0
   have HFS:=Lib.hid hfS
   have HQ:=Lib.hid N.qt
   have ER:=Lib.hid (HE.out.kept N.qt (OffErrs.none ad))
   have HDS:=Lib.hid (show d<=s.size from by have:=R.le; omega)
   have HLO:=Lib.hid (show ol.length = k by rw [hol,List.length_map,hus])
   obtain ⟨oa,oc,rfl⟩:=ownG_shape N.own
   clear START N hnb hnB R bk hon hf0 hfS hol
   by_cases hlt:k < x
   ·have zlt:decide ((k:Int) < (x:Int)) = true:=decide_eq_true (by omega)
    have zlt':decide (k < x) = true:=decide_eq_true hlt
    have hw1:IntKind.u64.wrap ((k:Int) + 1) = (k:Int) + 1:=by have:=HX.out; rw [IntKind.wrap_u64]; omega
    have HM:=Lib.hid (show x - (intOf (.int .u64 ((k:Int) + 1))).toNat < x - (intOf (.int .u64 (k:Int))).toNat by simp [intOf]; omega)
    have HLT:=Lib.hid hlt
    have HXK:=Lib.hid (show x - k = (x - (k + 1)) + 1 by omega)
    have NOR:=Lib.hid (fun (h:So.rowD s.data.toList.length fst before (rest s (n + d)) = none)=>(show So.snapD s.data.toList = none from So.snap_no HD.out (by
     have h1:=HON.out
     rw [HXK.out,So.ontoR_no h] at h1
     exact h1.symm)))
    clear hlt hk hus hkd
    cases hk1:textD (s.size:Int) (rest s (n + d)) with
    | inl e1 =>
     have T1:=rtext_err ad b s (n + d) e1 (s.size:Int) wr HR.out ER.out HO.out (by have:=HS.out; omega) hk1
     have FD:=Lib.hid (NOR.out (So.row_none1 hk1))
     clear hk1
     go_wp2_with fail
     refine T1.mono ?_
     rintro e w4 ⟨rfl,m4⟩
     have Q4:=Lib.hid (MVQ.out _ _ _ HQ.out m4)
     have MN:=mustS_no (.string ⟨#[]⟩) 335 (.pointer (some (ad e1))) w4
     unfold brokenE at MN
     clear T1 m4
     go_wp2_with fail
     refine MN.mono ?_
     rintro e w9 ⟨rfl,rfl⟩
     have FIN:=Lib.hid (cont_none FD.out Q4.out)
     clear MN
     go_wp2
     exact ⟨rfl,FIN.out⟩
    | inr km =>
     obtain ⟨kk,m1⟩:=km
     have T1:=rtext_ok ad b s (n + d) m1 kk (s.size:Int) wr HR.out ER.out (by have:=HS.out; omega) hk1
     have TL1:=Lib.hid (textD_len HR.out.le hk1)
     have HK1:=Lib.hid hk1
     obtain ⟨K,hK⟩:∃ K:ByteArray,(⟨kk.toArray⟩:ByteArray) = K:=⟨_,rfl⟩
     rw [hK] at T1
     have HKK:=Lib.hid hK
     clear hk1 hK
     go_wp2_with fail
     refine T1.mono ?_
     rintro e w4 ⟨rfl,m4⟩
     have Q4:=Lib.hid (MVQ.out _ _ _ HQ.out m4)
     have R4:=Lib.hid m4.rd
     have E4:=Lib.hid (HE.out.kept Q4.out (OffErrs.none ad))
     have BK4:=Lib.hid (HBK.out.kept m4.keeps NEb.out)
     have OWN4:=Lib.hid (show w4.ownsRow 0 87 3 (.slice oa ol.length oc) ol.length (opsC ol) from ownsRow_kept HN.out.own m4.keeps (fun z e1 e2=>HNB.out (by rw [e1,e2])))
     have MO:=mustS_ok (.string K) w4
     clear T1 m4
     go_wp2_with fail
     refine MO.mono ?_
     rintro e w5 ⟨rfl,rfl⟩
     clear MO
     have DR:=Lib.hid (show (rest s (n + d)).drop m1 = rest s (n + d + m1) from rest_drop _ _ _)
     cases hk2:textD (s.size:Int) (rest s (n + d + m1)) with
     | inl e2 =>
      have T2:=rtext_err ad b s (n + d + m1) e2 (s.size:Int) w5 R4.out E4.out HO.out (by have:=HS.out; omega) hk2
      have FD:=Lib.hid (NOR.out (So.row_none2 HK1.out (by rw [DR.out]; exact hk2)))
      clear hk2
      go_wp2_with fail
      refine T2.mono ?_
      rintro e w6 ⟨rfl,m6⟩
      have Q6:=Lib.hid (MVQ.out _ _ _ Q4.out m6)
      have MN:=mustS_no (.string ⟨#[]⟩) 335 (.pointer (some (ad e2))) w6
      unfold brokenE at MN
      clear T2 m6
      go_wp2_with fail
      refine MN.mono ?_
      rintro e w9 ⟨rfl,rfl⟩
      have FIN:=Lib.hid (cont_none FD.out Q6.out)
      clear MN
      go_wp2
      exact ⟨rfl,FIN.out⟩
     | inr vm =>
      obtain ⟨vv,m2⟩:=vm
      have T2:=rtext_ok ad b s (n + d + m1) m2 vv (s.size:Int) w5 R4.out E4.out (by have:=HS.out; omega) hk2
      have TL2:=Lib.hid (textD_len R4.out.le hk2)
      have HK2:=Lib.hid hk2
      obtain ⟨V,hV⟩:∃ V:ByteArray,(⟨vv.toArray⟩:ByteArray) = V:=⟨_,rfl⟩
      rw [hV] at T2
      have HVV:=Lib.hid hV
      clear hk2 hV
      go_wp2_with fail
      refine T2.mono ?_
      rintro e w6 ⟨rfl,m6⟩
      have Q6:=Lib.hid (MVQ.out _ _ _ Q4.out m6)
      have R6:=Lib.hid m6.rd
      have BK6:=Lib.hid (BK4.out.kept m6.keeps NEb.out)
      have OWN6:=Lib.hid (show w6.ownsRow 0 87 3 (.slice oa ol.length oc) ol.length (opsC ol) from ownsRow_kept OWN4.out m6.keeps (fun z e1 e2=>HNB.out (by rw [e1,e2])))
      have MO:=mustS_ok (.string V) w6
      clear T2 m6
      go_wp2_with fail
      refine MO.mono ?_
      rintro e w7 ⟨rfl,rfl⟩
      clear MO
      -- what comes behind 'need'
      have OW:=Lib.hid (fun o1=>(show (w7.alloc o1).ownsRow 0 87 3 (.slice oa ol.length oc) ol.length (opsC ol) from ownsRow_kept OWN6.out ((Keeps.refl (fun _=>False) w7).alloc o1) (fun _ _ e=>e)))
      have HCV:=Lib.hid (show opC (So.mkO (kk,vv)) = [.bool false,.string K,.string V] by unfold opC So.mkO; show [Value.bool false,.string ⟨kk.toArray⟩,.string ⟨vv.toArray⟩] = _; rw [HKK.out,HVV.out])
      have AFT:=Lib.hid (fun (hrow:So.rowD s.data.toList.length fst before (rest s (n + d)) = some ((kk,vv),m1 + m2)) (v5:Value) (w8:World) (hN:NewO w w8 v5 (ol ++ [So.mkO (kk,vv)])) (hb5:v5.ownBlock ≠ some b) (hB5:v5.ownBlock ≠ some B) (hR:Rd b s (n + d + m1 + m2) w8) (hBK:Bk w8 B 132 [.pointer none,.int .i64 0])=>(show CiAt w b B s x n v5 (.int .u64 ((k:Int) + 1)) w8 from
       ⟨k + 1,d + (m1 + m2),us ++ [(kk,vv)],ol ++ [So.mkO (kk,vv)],false,kk,HLT.out,by simp,by rw [List.length_append,List.length_singleton,HUS.out],by have:=HKD.out; have:=TL1.out.2.1; omega,by rw [HOL.out]; simp,hN,hb5,hB5,by rw [show n + (d + (m1 + m2)) = n + d + m1 + m2 by omega]; exact hR,hBK,fun e=>by omega,fun j e=>by
        obtain rfl:k = j:=by omega
        exact ⟨rfl,(kk,vv),by rw [List.getElem?_append_right (by rw [HUS.out]; exact Nat.le_refl _),HUS.out,Nat.sub_self]; rfl,rfl⟩,by
        have h1:=HON.out
        rw [HXK.out,So.ontoR_ok hrow,rest_drop] at h1
        rw [show n + (d + (m1 + m2)) = n + d + (m1 + m2) by omega]
        exact h1⟩))
      have hb1:ol.length + 1<=maxLen:=by have:=HS.out; have:=HDS.out; have:=HLO.out; have:=HKD.out; unfold maxLen; omega
      have hb2:(ol.length + 1) * 40<=140737488355328:=by have:=HS.out; have:=HDS.out; have:=HLO.out; have:=HKD.out; omega
      rcases Nat.eq_zero_or_pos k with hk0 | hkp
      ·have ROW:=Lib.hid (show So.rowD s.data.toList.length fst before (rest s (n + d)) = some ((kk,vv),m1 + m2) from So.row_some HK1.out (by rw [DR.out]; exact HK2.out) (.inl (HF0.out hk0)))
       have y0:((k:Int) == 0) = true:=beq_iff_eq.2 (by omega)
       have y0':(k == 0) = true:=beq_iff_eq.2 hk0
       have NN:=need_ok w7
       clear hk0
       go_wp2_with fail
       refine NN.mono ?_
       rintro e w8 ⟨rfl,rfl⟩
       clear NN
       go_wp2_with (at_builtin; refine wpList_append_rows _ rfl _ _ 38 rfl 87 i0 (.agg #[.bool false,.string ⟨#[]⟩,.string ⟨#[]⟩]) 3 40 Tryz.underlying38 hi0 hz0' hz1 hz2 rfl (by decide) _ ol.length (opsC ol) rfl (OW.out _) (some ⟨w8.heap.size,0,none⟩) 1 1 [.bool false,.string K,.string V] rfl rfl (fun _=>⟨_,rfl,fun j u h=>newsG w8 [.bool false,.string K,.string V] 87 j u h⟩) (by intro y hy; simp at hy; rcases hy with rfl | rfl | rfl <;> rfl) hb1 hb2 ?_)
       intro v5 w10 own5 gr5 la5
       have N5:=Lib.hid (ownG_more (f:=opC) (W:=w) (l:=ol) (k:=[So.mkO (kk,vv)]) HN.out.new (Q6.out.alloc _) (by simp) (by rw [cellsG_append,cellsG_one,HCV.out]) own5 gr5 la5)
       have KG:=Lib.hid (show Keeps (fun z=>(Value.slice oa ol.length oc).ownBlock = some z) (w8.alloc (.cells #[.bool false,.string K,.string V] 87)) w10 from Keeps.grown (S:=fun z=>(Value.slice oa ol.length oc).ownBlock = some z) (Keeps.refl _ _) gr5 (fun z _ e=>e.symm))
       have FIN:=Lib.hid (AFT.out ROW.out v5 w10 N5.out
        (fun e=>by
         rcases la5 with e2 | ⟨z,e2,hz⟩
         ·exact HNB.out (e2 ▸ e)
         ·rw [e2] at e; have e3:=Option.some.inj e; have:=R6.out.lt; simp at hz; omega)
        (fun e=>by
         rcases la5 with e2 | ⟨z,e2,hz⟩
         ·exact HNB2.out (e2 ▸ e)
         ·rw [e2] at e; have e3:=Option.some.inj e; have:=BK6.out.lt; simp at hz; omega)
        ((R6.out.alloc _).kept KG.out HNB.out) ((BK6.out.alloc _).kept KG.out HNB2.out))
       clear own5 gr5 la5
       obtain ⟨a5,c5,rfl⟩:=ownG_shape N5.out.own
       go_wp2
       exact ⟨FIN.out,HM.out⟩
      ·obtain ⟨j,hj⟩:∃ j,k = j + 1:=⟨k - 1,by omega⟩
       obtain ⟨hfst,r,hr,hbf⟩:=HFS.out j hj
       obtain ⟨g,hin,hg⟩:=ownG_in opC_len OWN6.out (by have:=HLO.out; have:=HKD.out; have:=HDS.out; have:=HS.out; omega)
       obtain ⟨op,c1,hop,e0⟩:=hin.elem (k:=j) (by have:=HLO.out; omega)
       injection e0 with e0 z1 z2
       clear z1 z2
       subst e0
       obtain ⟨x1,x2,x3⟩:=OpsIn.cell hin hop
       have hkey:op.key = before:=by
        rw [HOL.out,List.getElem?_map,hr] at hop
        have e1:=Option.some.inj hop
        rw [<- e1,<- hbf]
        rfl
       obtain ⟨KB,hKB,hKBl⟩:∃ KB:ByteArray,strV op.key = .string KB/\KB.data.toList = before:=⟨⟨op.key.toArray⟩,rfl,by rw [<- hkey]⟩
       rw [hKB,Nat.zero_add] at x2
       have y0:((k:Int) == 0) = false:=beq_eq_false_iff_ne.2 (by omega)
       have y0':(k == 0) = false:=beq_eq_false_iff_ne.2 (by omega)
       have hw0:IntKind.u64.wrap ((k:Int) - 1) = (j:Int):=by have:=HX.out; have:=HLT.out; rw [IntKind.wrap_u64]; omega
       have k0':(0:Int)<=(j:Int):=by omega
       have k1':(j:Int) < (ol.length:Int):=by have:=HLO.out; omega
       have k2':j < ol.length:=by have:=HLO.out; omega
       have HKL:=Lib.hid (show K.data.toList = kk from by rw [<- HKK.out])
       subst hfst
       clear x1 x3 hin hg hop hkey hr hbf hj hkp hKB HF0 HFS
       cases hlt:Tb.lt before kk with
       | true =>
        have ROW:=Lib.hid (show So.rowD s.data.toList.length false before (rest s (n + d)) = some ((kk,vv),m1 + m2) from So.row_some HK1.out (by rw [DR.out]; exact HK2.out) (.inr hlt))
        have zk:Op.bytesLess KB.toList K.toList = true:=by rw [ByteArray.toList_eq,ByteArray.toList_eq,hKBl,HKL.out]; exact hlt
        have NN:=need_ok w7
        clear hlt hKBl
        go_wp2_with fail
        refine NN.mono ?_
        rintro e w8 ⟨rfl,rfl⟩
        clear NN
        go_wp2_with (at_builtin; refine wpList_append_rows _ rfl _ _ 38 rfl 87 i0 (.agg #[.bool false,.string ⟨#[]⟩,.string ⟨#[]⟩]) 3 40 Tryz.underlying38 hi0 hz0' hz1 hz2 rfl (by decide) _ ol.length (opsC ol) rfl (OW.out _) (some ⟨w8.heap.size,0,none⟩) 1 1 [.bool false,.string K,.string V] rfl rfl (fun _=>⟨_,rfl,fun j u h=>newsG w8 [.bool false,.string K,.string V] 87 j u h⟩) (by intro y hy; simp at hy; rcases hy with rfl | rfl | rfl <;> rfl) hb1 hb2 ?_)
        intro v5 w10 own5 gr5 la5
        have N5:=Lib.hid (ownG_more (f:=opC) (W:=w) (l:=ol) (k:=[So.mkO (kk,vv)]) HN.out.new (Q6.out.alloc _) (by simp) (by rw [cellsG_append,cellsG_one,HCV.out]) own5 gr5 la5)
        have KG:=Lib.hid (show Keeps (fun z=>(Value.slice (some ⟨g,0,none⟩) ol.length oc).ownBlock = some z) (w8.alloc (.cells #[.bool false,.string K,.string V] 87)) w10 from Keeps.grown (S:=fun z=>(Value.slice (some ⟨g,0,none⟩) ol.length oc).ownBlock = some z) (Keeps.refl _ _) gr5 (fun z _ e=>e.symm))
        have FIN:=Lib.hid (AFT.out ROW.out v5 w10 N5.out
         (fun e=>by
          rcases la5 with e2 | ⟨z,e2,hz⟩
          ·exact HNB.out (e2 ▸ e)
          ·rw [e2] at e; have e3:=Option.some.inj e; have:=R6.out.lt; simp at hz; omega)
         (fun e=>by
          rcases la5 with e2 | ⟨z,e2,hz⟩
          ·exact HNB2.out (e2 ▸ e)
          ·rw [e2] at e; have e3:=Option.some.inj e; have:=BK6.out.lt; simp at hz; omega)
         ((R6.out.alloc _).kept KG.out HNB.out) ((BK6.out.alloc _).kept KG.out HNB2.out))
        clear own5 gr5 la5
        obtain ⟨a5,c5,rfl⟩:=ownG_shape N5.out.own
        go_wp2
        exact ⟨FIN.out,HM.out⟩
       | false =>
        have FD:=Lib.hid (NOR.out (So.row_none3 HK1.out hlt))
        have zk:Op.bytesLess KB.toList K.toList = false:=by rw [ByteArray.toList_eq,ByteArray.toList_eq,hKBl,HKL.out]; exact hlt
        have NN:=need_no w7
        unfold brokenE at NN
        clear hlt hKBl
        go_wp2_with fail
        refine NN.mono ?_
        rintro e w8 ⟨rfl,rfl⟩
        have FIN:=Lib.hid (cont_none FD.out Q6.out)
        clear NN
        go_wp2
        exact ⟨rfl,FIN.out⟩
   ·obtain rfl:k = x:=by omega
    have zlt:decide ((k:Int) < (k:Int)) = false:=decide_eq_false (by omega)
    have zlt':decide (k < k) = false:=decide_eq_false (by omega)
    have DN:=rdone_any ad b s (n + d) wr HR.out ER.out
    have HOS:=Lib.hid (show So.rowsD s.data.toList.length k true [] (rest s n) = some (us,d) from by
     have h1:=HON.out
     rw [Nat.sub_self] at h1
     rw [<- h1]
     show some (us ++ [],d + 0) = _
     simp)
    clear hlt hk hus hkd
    by_cases ht:n + d < s.size
    ·rw [if_pos ht,errV_pos ad (by decide)] at DN
     have FD:=Lib.hid (show So.snapD s.data.toList = none from So.snap_tail HD.out HOS.out (by have e:s.data.toList.length = s.size:=rfl; omega))
     have NN:=fun (m:Nat)=>need_no (wr.drewN m)
     unfold brokenE at NN
     clear ht
     go_wp2_with fail
     refine DN.mono ?_
     rintro e w6 ⟨rfl,m,rfl⟩
     have NM:=NN m
     have FIN:=Lib.hid (cont_none FD.out (HQ.out.drewN m))
     clear NN DN
     go_wp2_with fail
     refine NM.mono ?_
     rintro e w7 ⟨rfl,rfl⟩
     go_wp2
     exact ⟨rfl,FIN.out⟩
    ·rw [if_neg ht,errV_zero] at DN
     obtain ⟨_,hdm,_,hsrt,_⟩:=So.rowsD_inv HOS.out
     have FD:=Lib.hid (show So.snapD s.data.toList = some us from So.snap_yes HD.out HOS.out (by have e:s.data.toList.length = s.size:=rfl; have:=HR.out.le; omega) HKD.out)
     have NRM:=Lib.hid (show Bt.Norm ol from by rw [HOL.out]; exact So.mk_norm hsrt)
     have SML:=Lib.hid (show Bt.Small ol from by rw [HOL.out]; exact small_rows (by have:=HS.out; have:=HDS.out; omega))
     have APL:=Lib.hid (show Bt.apply [] ol = us from by rw [HOL.out]; exact So.mk_apply hsrt)
     have NN:=fun (m:Nat)=>need_ok (wr.drewN m)
     clear ht hdm hsrt
     go_wp2_with fail
     refine DN.mono ?_
     rintro e w6 ⟨rfl,m,rfl⟩
     have NM:=NN m
     have Q6:=Lib.hid (HQ.out.drewN m)
     have N6:=Lib.hid (HN.out.quiet ((Qt.refl wr).drewN m))
     have BK6:=Lib.hid (HBK.out.drewN m)
     clear NN DN
     go_wp2_with fail
     refine NM.mono ?_
     rintro e w7 ⟨rfl,rfl⟩
     have NC:=noCont_any (wr.drewN m)
     unfold contV at NC
     clear NM
     go_wp2_with fail
     refine NC.mono ?_
     rintro e w8 ⟨t,rfl,T8,ht8,q8⟩
     obtain ⟨g,hin,_⟩:=ownG_in opC_len (N6.out.quiet q8).own (by have:=HLO.out; have:=HKD.out; have:=HDS.out; have:=HS.out; omega)
     have AF:=after13_any w8 (after_hyp T8 (by show (0:Nat)<=_; omega) hin NRM.out SML.out)
     rw [APL.out,show (So.rowsB []).length = 0 from rfl] at AF
     unfold contV at AF
     have BK8:=Lib.hid (BK6.out.qt q8)
     have Q8:=Lib.hid (Qt.trans Q6.out q8)
     have LB:=Lib.hid (show B < t from by have:=BK6.out.lt; omega)
     have LT:=Lib.hid (show w.heap.size<=t/\w.heap.size<=w8.heap.size from by have:=HB.out; have:=BK6.out.lt; have:=Q8.out.size; omega)
     have LB8:=Lib.hid (show B < w8.heap.size from BK8.out.lt)
     obtain ⟨k2,hk2⟩:∃ z,(So.rowsB us).length = z:=⟨_,rfl⟩
     rw [hk2] at AF
     have HK2:=Lib.hid hk2
     clear NC T8 ht8 q8 hin hk2
     go_wp2_with fail
     refine AF.mono ?_
     rintro e w9 ⟨t2,A2,rfl,T9,ht9,hA9,q9⟩
     have bk9:=BK8.out.qt q9
     have BK9:=Lib.hid bk9
     have p0:=bk9.cell 0 _ rfl
     have p1:=bk9.cell 1 _ rfl
     have s0:=bk9.frozen 0
     have s1:=bk9.frozen 1
     have nA:∀ j,A2 j->j ≠ B:=fun j hj e=>by
      rcases hA9 j hj with h | h
      ·have:=LB.out; omega
      ·have:=LB8.out; omega
     have Q9:=Qt.trans Q8.out q9
     have FIN:=Lib.hid (cont_some FD.out HK2.out ((T9.kept (keeps_set w9 B 0 (ptrV t2)) nA).kept (keeps_set _ B 1 (.int .i64 (k2:Int))) nA) (fun j hj=>by
      rcases hA9 j hj with h | h
      ·have:=LT.out; omega
      ·have:=LT.out; omega) (by have:=LT.out; omega) (qt_set (qt_set Q9 (Nat.le_of_eq HB.out) 0 (ptrV t2)) (Nat.le_of_eq HB.out) 1 (.int .i64 (k2:Int))))
     clear AF bk9 nA Q9 T9 hA9 ht9 q9
     go_wp2
     exact bodyPost_ret (results_cell_row (p:=2) (ty:=132) (by kernel_rfl) _ _ B 132 #[ptrV t2,.int .i64 (k2:Int)] (0,0) _ rfl ((BK9.out.set 0 _).set 1 _) Tryz.underlying132 rfl (by kernel_rfl)) rfl FIN.out
end Go.Proofs.YthjjfjhajadimaaGreatDoor
