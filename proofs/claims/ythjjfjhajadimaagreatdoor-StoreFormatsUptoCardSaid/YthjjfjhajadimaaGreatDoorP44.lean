/-
  Joined: OFix, OFmtP, OPutP, OPut.
-/
import Derived.Test.YthjjfjhajadimaaGreatDoorP43
import Derived.Deep.RegionHeld3
import Derived.LoopTactic
namespace Go.Proofs.YthjjfjhajadimaaGreatDoor
open Go.RowKit Go.WideShapes
set_option maxRecDepth 100000
set_option maxHeartbeats 8000000 in
theorem fixed13_any (ad:Nat->Addr) (w:World) (hE:Errs ad w) (hT:Tab w):Calls Tryz.prog 10 #[] w fun e w'=>e = .returned (.bool true)/\Qt w w':=by
 obtain ⟨d1,d2,s2,d3,s3,o0,f1,o1,v2,r2,c2,r3,f3,w1,w2,w3⟩:=So.fixed_plain
 have HE:=Lib.hid hE
 have HT:=Lib.hid hT
 have NW:=new_any ad 64 w hE
 have HO0:=Lib.hid o0
 have HF1:=Lib.hid f1
 have HO1:=Lib.hid o1
 have HV2:=Lib.hid v2
 have HR2:=Lib.hid r2
 have HC2:=Lib.hid c2
 have HR3:=Lib.hid r3
 have HF3:=Lib.hid f3
 have HW1:=Lib.hid w1
 have HW2:=Lib.hid w2
 have HW3:=Lib.hid w3
 clear hE hT o0 f1 o1 v2 r2 c2 r3 f3 w1 w2 w3
 go_enter Tryz.func10,Tryz.ntmps10
 go_wp2_with fail
 refine NW.mono ?_
 rintro e w1 (⟨hno,rfl,q1⟩ | ⟨n1,n2,b,rfl,hD,q1⟩)
 ·exact absurd ⟨by decide,by decide⟩ hno
 have D1:=Lib.hid (show Dk w.heap.size ad w1 b (DS.newD 64) (Grow (fun _=>False) w w1) from dk_start HE.out HT.out hD q1)
 have OP0:=Lib.hid (open13_any D1.out ⟨by decide,by decide,by decide,by decide⟩)
 rw [HO0.out] at OP0
 clear NW hD n1 n2
 go_wp2_with fail
 refine OP0.out.mono ?_
 rintro e w2 ⟨S2,he,hd2⟩
 rw [errV_pos ad (by decide)] at he
 subst he
 have D2:=Lib.hid hd2.dk
 have Q2:=Lib.hid (show Keeps (fun k=>w.heap.size<=k) w w2 from Keeps.trans (q1.mono (fun _ _ e=>e.elim)) hd2.keeps (fun k hk e=>D1.out.low k e))
 obtain ⟨WL,hWL,qL,bL,hzL⟩:=box_own w2 87 #[.bool false,.string ⟨#[98]⟩,.string ⟨#[50]⟩,.bool false,.string ⟨#[97]⟩,.string ⟨#[49]⟩]
 have OI:=Lib.hid (show OpsIn WL (.slice (some ⟨w2.heap.size,0,none⟩) 2 2) w2.heap.size 0 So.fixA from recs_block (l:=So.fixA) opC_len bL (by decide))
 have D3:=Lib.hid (D2.out.qt qL)
 have FM:=Lib.hid (format13_any D3.out ⟨by decide,by decide,by decide,by decide⟩ OI.out ⟨by decide,by decide⟩)
 rw [HF1.out] at FM
 have QL:=Lib.hid qL
 clear hd2 q1 qL bL hzL OP0
 go_wp2_with fail
 refine FM.out.mono ?_
 rintro e w3 ⟨S3,he,hd3⟩
 obtain rfl:e = .returned .nilIface:=he
 have D4:=Lib.hid hd3.dk
 have Q3:=Lib.hid (show Keeps (fun k=>w.heap.size<=k) w w3 from Keeps.trans (Keeps.trans Q2.out (QL.out.mono (fun _ _ e=>e.elim)) (fun k hk e=>e)) hd3.keeps (fun k hk e=>D3.out.low k e))
 have NU:=Lib.hid (fun W (x:Qt w3 W)=>(num_any ad 14 W (D4.out.errs.qt x) (by decide)))
 rw [errV_pos ad (by decide)] at NU
 have OP1:=Lib.hid (fun W (x:Qt w3 W)=>open13_any (D4.out.qt x) HW1.out.s)
 rw [HO1.out] at OP1
 clear hd3 FM
 go_wp2_with fail
 refine (NU.out _ (Qt.refl w3)).mono ?_
 rintro e w4 ⟨rfl,q4⟩
 have Q4:=Lib.hid q4
 clear q4
 go_wp2_with fail
 refine (OP1.out _ Q4.out).mono ?_
 rintro e w5 ⟨p,O,H,rfl,st,ho,hh,kk⟩
 have ST:=Lib.hid st
 have HO:=Lib.hid (show ∀ k,O k->w.heap.size<=k from st.sub.2.1)
 have Q5:=Lib.hid (show Keeps (fun k=>w.heap.size<=k) w w5 from Keeps.trans (Keeps.trans Q3.out (Q4.out.mono (fun _ _ e=>e.elim)) (fun k hk e=>e)) kk (fun k hk e=>D4.out.low k e))
 clear st ho hh kk
 go_wp2_with fail
 have VE:Calls Tryz.prog 25 #[.pointer (some ⟨p,0,none⟩)] w5 fun e w'=>e = .returned (.int .i64 2)/\w' = w5:=by
  have k:=version_sto ST.out
  rw [HV2.out] at k
  exact k
 refine VE.mono ?_
 rintro e w6 ⟨rfl,rfl⟩
 clear VE
 have SZ:Calls Tryz.prog 40 #[.pointer (some ⟨p,0,none⟩)] w6 fun e w'=>e = .returned (.int .i64 9)/\Qt w6 w':=by
  have k:=size_sto ST.out
  rw [HR2.out,So.fix_apply.2.2.1] at k
  exact k
 go_wp2_with fail
 refine SZ.mono ?_
 rintro e w7 ⟨rfl,q7⟩
 have ST7:=Lib.hid (ST.out.qt q7)
 have RW:=Lib.hid (rows_sto ST7.out)
 rw [HR2.out] at RW
 have Q7:=Lib.hid (Keeps.trans Q5.out (q7.mono (fun _ _ e=>e.elim)) (fun k hk e=>e))
 clear SZ q7
 go_wp2_with fail
 refine RW.out.mono ?_
 rintro e w8 ⟨v,rfl,N⟩
 obtain ⟨g8,hr8,_⟩:=newR_in N (by decide)
 have q8:=N.qt
 obtain ⟨WL,hWL,qL,bL,hzL⟩:=box_own w8 101 #[.string ⟨#[97]⟩,.string ⟨#[49]⟩,.string ⟨#[98]⟩,.string ⟨#[50]⟩]
 have RI:RowsIn WL (.slice (some ⟨w8.heap.size,0,none⟩) 2 2) w8.heap.size 0 So.fixR:=recs_block (l:=So.fixR) rowC_len bL (by decide)
 have SM:=Lib.hid (sameR12_yes (recs_turn hr8 qL) RI)
 have ST9:=Lib.hid ((ST7.out.qt q8).qt qL)
 have Q9:=Lib.hid (Keeps.trans Q7.out ((Qt.trans q8 qL).mono (fun _ _ e=>e.elim)) (fun k hk e=>e))
 clear N hr8 q8 qL bL hzL RI
 go_wp2_with fail
 refine SM.out.mono ?_
 rintro e w9 ⟨rfl,q9⟩
 have ST10:=Lib.hid (ST9.out.qt q9)
 have Q10:=Lib.hid (Keeps.trans Q9.out (q9.mono (fun _ _ e=>e.elim)) (fun k hk e=>e))
 clear q9
 obtain ⟨WK,hWK,qK,bK,hzK⟩:=box_own w9 87 #[.bool true,.string ⟨#[97]⟩,.string ⟨#[]⟩,.bool false,.string ⟨#[99]⟩,.string ⟨#[]⟩]
 have OI:=Lib.hid (show OpsIn WK (.slice (some ⟨w9.heap.size,0,none⟩) 2 2) w9.heap.size 0 So.fixB from recs_block (l:=So.fixB) opC_len bK (by decide))
 have CM:=Lib.hid (commit_sto (ST10.out.qt qK) HW2.out OI.out (by decide) (by decide))
 rw [HC2.out] at CM
 have Q11:=Lib.hid (Keeps.trans Q10.out (qK.mono (fun _ _ e=>e.elim)) (fun k hk e=>e))
 clear qK bK hzK
 go_wp2_with fail
 refine CM.out.mono ?_
 rintro e w10 ⟨he,O2,H2,st2,ho2,hh2,kk2⟩
 obtain rfl:e = .returned .nilIface:=he
 have ST12:=Lib.hid st2
 have Q12:=Lib.hid (show Keeps (fun k=>w.heap.size<=k) w w10 from Keeps.trans Q11.out kk2 (fun k hk e=>HO.out k e))
 have GT:Calls Tryz.prog 47 #[.pointer (some ⟨p,0,none⟩),.string ⟨#[98]⟩] w10 fun e w'=>e = .returned (.tuple #[.string ⟨#[50]⟩,.bool true])/\w' = w10:=by
  have k:=get_sto ST12.out ⟨#[98]⟩
  rw [HR3.out] at k
  exact k
 clear st2 ho2 hh2 kk2 CM
 go_wp2_with fail
 refine GT.mono ?_
 rintro e w11 ⟨rfl,rfl⟩
 clear GT
 have SZ:Calls Tryz.prog 40 #[.pointer (some ⟨p,0,none⟩)] w11 fun e w'=>e = .returned (.int .i64 8)/\Qt w11 w':=by
  have k:=size_sto ST12.out
  rw [HR3.out,So.fix_apply.2.2.2] at k
  exact k
 go_wp2_with fail
 refine SZ.mono ?_
 rintro e w12 ⟨rfl,q12⟩
 obtain ⟨S13,D13,hS13,_⟩:=(ST12.out.qt q12).disk
 have FM:=format13_any D13 HW3.out.s (recs_none (f:=opC)) ⟨by decide,by decide⟩
 rw [HF3.out] at FM
 have Q13:=Lib.hid (Keeps.trans Q12.out (q12.mono (fun _ _ e=>e.elim)) (fun k hk e=>e))
 have HD13:=Lib.hid D13
 clear SZ q12 hS13 D13
 go_wp2_with fail
 refine FM.mono ?_
 rintro e w13 ⟨S14,he,hd14⟩
 obtain rfl:e = .returned (.iface 335 (.pointer (some (ad 21)))):=he
 have NU2:=num_any ad 21 w13 hd14.dk.errs (by decide)
 rw [errV_pos ad (by decide)] at NU2
 have Q14:=Lib.hid (show Keeps (fun k=>w.heap.size<=k) w w13 from Keeps.trans Q13.out hd14.keeps (fun k hk e=>HD13.out.low k e))
 clear FM hd14
 go_wp2_with fail
 refine NU2.mono ?_
 rintro e w14 ⟨rfl,q14⟩
 have FIN:=Lib.hid (show Qt w w14 from (Keeps.trans Q14.out (q14.mono (fun _ _ e=>e.elim)) (fun k hk e=>e)).mono (fun k hk e=>absurd hk (Nat.not_lt.2 e)))
 clear q14
 go_wp2
 go_ret
 exact ⟨rfl,FIN.out⟩
end Go.Proofs.YthjjfjhajadimaaGreatDoor
namespace Go.Proofs.YthjjfjhajadimaaGreatDoor.So
open Go.Proofs.YthjjfjhajadimaaGreatDoor.Tb
set_option maxRecDepth 100000
theorem crash_dur {d:DS} (f:FT) (h:d.ways = []):(d.crashD f).dur = d.dur:=by
 show crashTo f d.dur d.ways d.ways.length = d.dur
 rw [h]
 rfl
theorem fresh_opens {d:DS} {rows:List R} (f:FT) (h:Fresh (d.crashD f).dur 1 rows):∃ s2 d2,opens (d.crashD f) = (.inr s2,d2)/\s2.rows = rows:=by
 obtain ⟨d2,e,_⟩:=rest_opens_on (crash_calm d f) (h.rest13 (crash_calm d f) (by decide)) (by decide) rfl
 exact ⟨_,d2,e,rfl⟩
theorem formats_plain (a:Int) (f:FT) (A B:List Bt.O) :
  (room 64 < size (Bt.apply [] A)/\format ((DS.newD 64).armD a) A = (17,(DS.newD 64).armD a)) \/
  (∃ d1 s2 d2,format ((DS.newD 64).armD a) A = (0,d1)/\d1.off = false/\d1.FewC/\(d1.crashD f).FewC/\opens (d1.crashD f) = (.inr s2,d2)/\s2.rows = Bt.apply [] A) \/
  (∃ d1,format ((DS.newD 64).armD a) A = (12,d1)/\d1.off = true/\d1.FewC/\(d1.crashD f).FewC /\
   ((∃ s2 d2,opens (d1.crashD f) = (.inr s2,d2)/\s2.rows = Bt.apply [] A) \/
    (opens (d1.crashD f) = (.inl 14,d1.crashD f) /\
     (format (d1.crashD f) B = (17,d1.crashD f)\/∃ d3 s4 d4,format (d1.crashD f) B = (0,d3)/\d3.FewC/\opens d3 = (.inr s4,d4)/\s4.rows = Bt.apply [] B)))):=by
 have hl:((DS.newD 64).armD a).dur.length = 64:=newD_len 64
 have C0:((DS.newD 64).armD a).Calm:=⟨rfl,rfl⟩
 have B0:Blank ((DS.newD 64).armD a).dur:=blank_new (n:=64) (by decide) (by decide)
 have w0:((DS.newD 64).armD a).wr = 0/\((DS.newD 64).armD a).fl = 0/\((DS.newD 64).armD a).cr = 0/\((DS.newD 64).armD a).ways.length = 0:=⟨rfl,rfl,rfl,rfl⟩
 have ha:-1<=((DS.newD 64).armD a).armed:=by show -1<=max a (-1); omega
 have R1:=Ran.format ((DS.newD 64).armD a) A
 obtain ⟨w1,w2,w3,w4⟩:=w0
 have few:∀ {d1:DS},Ran 65537 2 ((DS.newD 64).armD a) d1->d1.FewC/\(d1.crashD f).FewC:=fun {d1} R=>by
  have k1:=R.ways
  have k2:=R.wr
  have k3:=R.fl
  have k4:=R.cr
  refine ⟨⟨by omega,by omega,by omega,by omega⟩,⟨?_,?_,?_,?_⟩⟩
  ·show (0:Nat)<=_
   omega
  ·show d1.wr<=_
   omega
  ·show d1.fl<=_
   omega
  ·show d1.cr + 1<=_
   omega
 rcases blank_format C0 B0 ha A with ⟨x,e⟩ | ⟨d1,e,o,c,l,F,_,_⟩ | ⟨d1,e,C1,c,l,F,_,_,_⟩
 ·exact .inl ⟨by rw [hl] at x; exact x,e⟩
 ·rw [e] at R1
  obtain ⟨f1,f2⟩:=few R1
  refine .inr (.inr ⟨d1,e,o,f1,f2,?_⟩)
  rcases F f with hB | hF
  ·refine .inr ⟨hB.opens (crash_calm d1 f),?_⟩
   by_cases hz:size (Bt.apply [] B)<=room (d1.crashD f).dur.length
   ·obtain ⟨d3,e3,C3,c3,l3,F3,_,g3⟩:=format_on (crash_calm d1 f) hB rfl B hz
    have R3:=Ran.format (d1.crashD f) B
    rw [e3] at R3
    obtain ⟨d4,e4,_⟩:=rest_opens_on C3 (F3.rest13 C3 (by decide)) (by decide) g3
    refine .inr ⟨d3,_,d4,e3,⟨?_,?_,?_,?_⟩,e4,rfl⟩
    ·have k:=R3.ways
     have:(d1.crashD f).ways.length = 0:=rfl
     simp only at k
     omega
    ·have k:=R3.wr
     have k2:=R1.wr
     have:(d1.crashD f).wr = d1.wr:=rfl
     simp only at k k2
     omega
    ·have k:=R3.fl
     have k2:=R1.fl
     have:(d1.crashD f).fl = d1.fl:=rfl
     simp only at k k2
     omega
    ·have k:=R3.cr
     have k2:=R1.cr
     have:(d1.crashD f).cr = d1.cr + 1:=rfl
     simp only at k k2
     omega
   ·left
    rcases blank_format (crash_calm d1 f) hB (by show -1<=(-1:Int); decide) B with ⟨_,e2⟩ | ⟨d2,e2,_⟩ | ⟨d2,e2,_⟩
    ·exact e2
    ·exfalso
     unfold format at e2
     rw [if_neg (by rw [lay_ok hB.low hB.high]; simp),if_neg (by rw [(crash_calm d1 f).off]; simp),if_neg (by rw [hB.tells (crash_calm d1 f)]; decide),if_pos (by omega)] at e2
     cases e2
    ·exfalso
     unfold format at e2
     rw [if_neg (by rw [lay_ok hB.low hB.high]; simp),if_neg (by rw [(crash_calm d1 f).off]; simp),if_neg (by rw [hB.tells (crash_calm d1 f)]; decide),if_pos (by omega)] at e2
     cases e2
  ·exact .inl (fresh_opens f hF)
 ·rw [e] at R1
  obtain ⟨f1,f2⟩:=few R1
  obtain ⟨s2,d2,e2,r2⟩:=fresh_opens (d:=d1) f (by rw [crash_dur f C1.ways]; exact F)
  exact .inr (.inl ⟨d1,s2,d2,e,C1.off,f1,f2,e2,r2⟩)
def putStep (o:Bt.O) (st:Bool × List R) (r:R):Bool × List R :=
 (st.1 || lt o.key r.1,(if (!st.1 && lt o.key r.1) = true then st.2 ++ [(o.key,o.val)] else st.2) ++ (if (r.1 != o.key) = true then [r] else []))
def putTo (o:Bt.O) (l:List R):Bool × List R:=l.foldl (putStep o) (o.del,[])
def putEnd (o:Bt.O) (st:Bool × List R):List R:=if st.1 = true then st.2 else st.2 ++ [(o.key,o.val)]
def putGo (o:Bt.O):Bool->List R->List R
 | done,[]=>if done = true then [] else [(o.key,o.val)]
 | done,r :: l=>(if (!done && lt o.key r.1) = true then [(o.key,o.val)] else []) ++ ((if (r.1 != o.key) = true then [r] else []) ++ putGo o (done || lt o.key r.1) l)
theorem putTo_succ {o:Bt.O} {l:List R} {i:Nat} {r:R} (h:l[i]? = some r):putTo o (l.take (i + 1)) = putStep o (putTo o (l.take i)) r:=by
 unfold putTo
 rw [List.take_add_one,h,Option.toList_some,List.foldl_append,List.foldl_cons,List.foldl_nil]
theorem put_fold (o:Bt.O):∀ (l:List R) (done:Bool) (out:List R),putEnd o (l.foldl (putStep o) (done,out)) = out ++ putGo o done l
 | [],done,out=>by
  show putEnd o (done,out) = _
  unfold putEnd putGo
  cases done <;> simp
 | r :: l,done,out=>by
  rw [List.foldl_cons]
  show putEnd o (l.foldl (putStep o) (done || lt o.key r.1,_)) = _
  rw [put_fold o l,putGo]
  split <;> simp
theorem putGo_done (o:Bt.O):∀ l:List R,putGo o true l = del l o.key
 | []=>rfl
 | r :: l=>by
  rw [putGo,Bool.true_or,putGo_done o l,if_neg (by simp)]
  unfold del
  rw [List.filter_cons]
  cases hr:(r.1 != o.key) <;> simp
theorem del_above {l:List R} {k:Txt} (h:∀ x ∈ l,lt k x.1 = true):del l k = l:=List.filter_eq_self.2 (fun x hx=>by
 have:=lt_ne (h x hx)
 simp [Ne.symm this])
theorem ins_above {l:List R} {k v:Txt} (h:∀ x ∈ l,lt k x.1 = true):ins l (k,v) = (k,v) :: l:=by
 cases l with
 | nil=>rfl
 | cons a l=>rw [ins_cons,if_neg (by rw [lt_asymm (h a List.mem_cons_self)]; simp)]
theorem putGo_put (o:Bt.O):∀ {l:List R},Sorted l->putGo o false l = put l o.key o.val
 | [],_=>rfl
 | r :: l,h=>by
  have h1:=List.pairwise_cons.1 h
  rw [putGo,Bool.not_false,Bool.true_and,Bool.false_or]
  unfold put
  cases hk:lt o.key r.1 with
  | true =>
   have ha:∀ x ∈ r :: l,lt o.key x.1 = true:=fun x hx=>by
    rcases List.mem_cons.1 hx with e | e
    ·rw [e]; exact hk
    ·exact lt_trans hk (h1.1 x e)
   have hne:(r.1 != o.key) = true:=by simp [Ne.symm (lt_ne hk)]
   rw [putGo_done,del_above ha,ins_above ha,del_above (fun x hx=>ha x (List.mem_cons_of_mem _ hx)),hne]
   rfl
  | false =>
   rw [putGo_put o h1.2]
   unfold del
   rw [List.filter_cons]
   cases hr:(r.1 != o.key) with
   | true =>
    have hlt:lt r.1 o.key = true:=by
     cases e:lt r.1 o.key with
     | true=>rfl
     | false =>
      have:=lt_total hk e
      rw [this] at hr
      simp at hr
    rw [if_pos rfl,if_pos rfl,ins_cons,if_pos hlt]
    rfl
   | false=>rfl
theorem putEnd_op {l:List R} (h:Sorted l) (o:Bt.O):putEnd o (putTo o l) = Bt.doOp l o:=by
 unfold putTo Bt.doOp
 rw [put_fold,List.nil_append]
 cases o.del with
 | true=>rw [putGo_done,if_pos rfl]
 | false=>rw [putGo_put o h,if_neg (by simp)]
theorem apply_succ {l:List R} {ops:List Bt.O} {i:Nat} {o:Bt.O} (h:ops[i]? = some o):Bt.apply l (ops.take (i + 1)) = Bt.doOp (Bt.apply l (ops.take i)) o:=by
 unfold Bt.apply
 rw [List.take_add_one,h,Option.toList_some,List.foldl_append,List.foldl_cons,List.foldl_nil]
theorem doOp_len (l:List R) (o:Bt.O):(Bt.doOp l o).length<=l.length + 1:=by
 unfold Bt.doOp
 split
 ·have:=List.length_filter_le (fun r:R=>r.1 != o.key) l
  unfold del
  omega
 ·exact put_length_le l _ _
theorem apply_len (l:List R) (ops:List Bt.O):∀ i,i<=ops.length->(Bt.apply l (ops.take i)).length<=l.length + i
 | 0,_=>by simp [Bt.apply]
 | i + 1,h=>by
  have e:ops[i]? = some ops[i]:=List.getElem?_eq_getElem (by omega)
  rw [apply_succ e]
  have:=doOp_len (Bt.apply l (ops.take i)) ops[i]
  have:=apply_len l ops i (by omega)
  omega
theorem putTo_len (o:Bt.O) (l:List R):(putTo o l).2.length<=l.length + 1/\((putTo o l).1 = false->(putTo o l).2.length<=l.length):=by
 unfold putTo
 suffices H:∀ (l:List R) (st:Bool × List R),(l.foldl (putStep o) st).2.length<=st.2.length + l.length + (if st.1 = true then 0 else 1)/\((l.foldl (putStep o) st).1 = false->(l.foldl (putStep o) st).2.length<=st.2.length + l.length) from by
  have:=H l (o.del,[])
  refine ⟨?_,?_⟩
  ·have h:=this.1
   simp only [List.length_nil] at h
   split at h <;> omega
  ·intro k
   have h:=this.2 k
   simpa using h
 intro l
 induction l with
 | nil=>intro st; exact ⟨by simp,fun _=>by simp⟩
 | cons r l ih =>
  intro st
  rw [List.foldl_cons]
  obtain ⟨h1,h2⟩:=ih (putStep o st r)
  obtain ⟨done,out⟩:=st
  have e:(putStep o (done,out) r).2.length<=out.length + 1 + (if (!done && lt o.key r.1) = true then 1 else 0):=by
   unfold putStep
   simp only [List.length_append]
   split <;> split <;> simp
  have e1:(putStep o (done,out) r).1 = (done || lt o.key r.1):=rfl
  rw [e1] at h1
  simp only [List.length_cons]
  refine ⟨?_,fun k=>?_⟩
  ·cases done <;> cases hl:lt o.key r.1 <;> simp [hl] at h1 e ⊢ <;> omega
  ·have h:=h2 k
   have hd:done = false/\lt o.key r.1 = false:=by
    have:∀ (l:List R) (st:Bool × List R),(l.foldl (putStep o) st).1 = false->st.1 = false:=by
     intro l
     induction l with
     | nil=>intro st x; exact x
     | cons a l ih2 =>
      intro st x
      rw [List.foldl_cons] at x
      have:=ih2 _ x
      unfold putStep at this
      simp only [Bool.or_eq_false_iff] at this
      exact this.1
    have:=this l _ k
    rw [e1] at this
    simpa using this
   obtain ⟨rfl,h3⟩:=hd
   simp only [h3,Bool.not_false,Bool.and_false,Bool.false_eq_true,if_false] at e
   omega
end Go.Proofs.YthjjfjhajadimaaGreatDoor.So
namespace Go.Proofs.YthjjfjhajadimaaGreatDoor
open Go.RowKit Go.WideShapes
set_option maxRecDepth 100000
theorem rowN_shape {w:World} {v:Value} {n:Nat} {xs:List Value} (h:w.ownsRow 0 101 2 v n xs):∃ a c,v = .slice a n c:=by
 rcases h.2 with ⟨rfl,h0⟩ | ⟨g,cap,cur,e,_⟩
 ·subst h0
  exact ⟨_,_,rfl⟩
 ·exact ⟨_,_,e⟩
theorem rowN_new (W:World) (x y:Value) (t:TypeId):∀ (j:Nat) (u:Value),[x,y][j]? = some u->(W.alloc (.cells #[x,y] t)).cell? ((⟨W.heap.size,0,none⟩:Addr).add j) = some u:=by
 intro j u hj
 rw [add_plain,Nat.zero_add,cell_of_row _ _ _ _ _ _ (heap_alloc_new W _)]
 simpa using hj
structure PtS (W0:World) (out:List Tb.R) (v:Value) (wr:World):Prop where
 own:wr.ownsRow 0 101 2 v out.length (rowsC out)
 new:∀ g,v.ownBlock = some g->W0.heap.size<=g
 keep:Qt W0 wr
section
variable {W0 wr w7 W:World} {out:List Tb.R} {v v':Value} {r:Tb.R}
theorem PtS.qt (h:PtS W0 out v wr) (q:Qt wr W):PtS W0 out v W:=⟨ownsRow_kept h.own q (fun _ _ e=>e),h.new,Qt.trans h.keep q⟩
theorem PtS.push {o:Obj} (h:PtS W0 out v wr) (own:w7.ownsRow 0 101 2 v' (out.length + 1) (rowsC out ++ [strV r.1,strV r.2])) (gr:(wr.alloc o).grownBy w7 v.ownBlock) (la:Later (wr.alloc o) v.ownBlock v'.ownBlock):PtS W0 (out ++ [r]) v' w7:=by
 have hz:wr.heap.size<=(wr.alloc o).heap.size:=by simp
 have hw:=h.keep.size
 have K7:Keeps (fun x=>v.ownBlock = some x) wr w7:=Keeps.grown ((Keeps.refl _ wr).alloc o) gr (fun j _ ej=>ej.symm)
 refine ⟨?_,fun g eg=>?_,Keeps.trans h.keep K7 (fun j hj ej=>?_)⟩
 ·rw [List.length_append,List.length_singleton,rowsC_append,rowsC_one]
  exact own
 ·rcases la with q | ⟨x,q,hx⟩
  ·exact h.new g (q ▸ eg)
  ·rw [q] at eg; injection eg with eg; subst eg; omega
 ·have:=h.new j ej
  omega
end
def PtAt (W0:World) (o:Bt.O) (l:List Tb.R) (ov dv iv:Value) (wr:World):Prop :=
 ∃ i:Nat,i<=l.length/\iv = .int .i64 i/\dv = .bool (So.putTo o (l.take i)).1/\PtS W0 (So.putTo o (l.take i)).2 ov wr
set_option maxHeartbeats 8000000 in
theorem put13_any {v:Value} {g off:Nat} {l:List Tb.R} (o:Bt.O) (w:World) (hr:RowsIn w v g off l) (hl:l.length<=8388608) (hs:Tb.Sorted l) :
  Calls Tryz.prog 78 #[v,opV o] w fun e w'=>∃ v',e = .returned v'/\NewR w w' v' (Bt.doOp l o):=by
 have HR:=Lib.hid hr
 have HL:=Lib.hid hl
 have HP:=Lib.hid (So.putEnd_op hs o)
 obtain ⟨a,cap,rfl,ha⟩:=hr.val
 clear hr ha hl hs
 obtain ⟨i0,hi0,hz0,hz1,hz2⟩:=info_parts infoRow
 obtain ⟨OK,hOK,hOKl⟩:∃ K:ByteArray,strV o.key = .string K/\K.data.toList = o.key:=⟨⟨o.key.toArray⟩,rfl,rfl⟩
 obtain ⟨OV,hOV⟩:∃ V:ByteArray,strV o.val = .string V:=⟨⟨o.val.toArray⟩,rfl⟩
 obtain ⟨W0,hW0,q0,b0,hz0'⟩:=box_own w 87 #[.bool o.del,.string OK,.string OV]
 have Q0:=Lib.hid q0
 have B0:=Lib.hid b0
 have Z0:=Lib.hid hz0'
 have START:=Lib.hid (show PtAt W0 o l (.slice none 0 0) (.bool o.del) (.int .i64 0) W0 from ⟨0,Nat.zero_le _,rfl,rfl,⟨World.ownsRow_nil W0 0 _ 2,fun g hg=>(by cases hg),Keeps.refl _ _⟩⟩)
 have HOK:=Lib.hid hOK
 have HOV:=Lib.hid hOV
 have HOKL:=Lib.hid hOKl
 have d0:=b0.cell 0 _ rfl
 show Calls Tryz.prog 78 #[.slice a l.length cap,.agg #[.bool o.del,strV o.key,strV o.val]] w _
 rw [hOK,hOV]
 obtain ⟨od,hod⟩:∃ b,o.del = b:=⟨_,rfl⟩
 rw [hod] at hW0 d0 ⊢
 have HOD:=Lib.hid hod
 clear q0 b0 hz0' hOK hOV hOKl hod
 go_enter Tryz.func78,Tryz.ntmps78
 go_wp2
 clear hW0 d0
 go_loopw [5,6,13] (fun ov dv iv wr=>PtAt W0 o l ov dv iv wr) (fun _ _ iv _=>l.length - (intOf iv).toNat)
 case atStart=>rw [<- HOD.out]; exact START.out
 case round =>
  obtain ⟨i,hi,rfl,rfl,hS⟩:=hrel
  have HI:=Lib.hid hi
  have QW:=Lib.hid (Qt.trans Q0.out hS.keep)
  have bW:=B0.out.qt hS.keep
  have e1:=bW.cell 1 _ rfl
  have e2:=bW.cell 2 _ rfl
  have HLN:=Lib.hid (So.putTo_len o (l.take i))
  by_cases hlt:i < l.length
  ·have zlt:decide ((i:Int) < (l.length:Int)) = true:=decide_eq_true (by omega)
   have zlt':decide (i < l.length) = true:=decide_eq_true hlt
   obtain ⟨r,c1,hri,e0⟩:=HR.out.elem hlt
   injection e0 with e0 q1 q2
   clear q1 q2
   subst e0
   obtain ⟨x1,x2⟩:=HR.out.cell hri
   have x1:=QW.out.cellv x1
   have x2:=QW.out.cellv x2
   obtain ⟨K,hK,hKl⟩:∃ K:ByteArray,strV r.1 = .string K/\K.data.toList = r.1:=⟨⟨r.1.toArray⟩,rfl,rfl⟩
   obtain ⟨V,hV⟩:∃ V:ByteArray,strV r.2 = .string V:=⟨⟨r.2.toArray⟩,rfl⟩
   rw [hK] at x1
   rw [hV] at x2
   have k0:(0:Int)<=(i:Int):=by omega
   have k1:(i:Int) < (l.length:Int):=by omega
   have hw1:=pl_w1 (k:=i) (by have:=HL.out; omega)
   have HM:=Lib.hid (pl_meas hlt)
   have HST:=Lib.hid (So.putTo_succ (o:=o) hri)
   have HKV:=Lib.hid (show [strV r.1,strV r.2] = [.string K,.string V] by rw [hK,hV])
   have HOKV:=Lib.hid (show [strV o.key,strV o.val] = [.string OK,.string OV] by rw [HOK.out,HOV.out])
   have HLT:=Lib.hid hlt
   obtain ⟨done,out,hst⟩:∃ d u,So.putTo o (l.take i) = (d,u):=⟨_,_,rfl⟩
   have HT:=Lib.hid (List.length_take_le i l)
   rw [hst] at hS HST HLN ⊢
   have OB:=Lib.hid (show out.length + 3<=maxLen/\(out.length + 3) * 32<=140737488355328 from by have hx:out.length<=(l.take i).length + 1:=HLN.out.1; have:=HL.out; have:=HT.out; unfold maxLen; omega)
   obtain ⟨wb,hwb⟩:∃ W,wr.alloc (.cells #[.string K,.string V] 101) = W:=⟨_,rfl⟩
   have qb:Qt wr wb:=hwb ▸ (Qt.refl wr).alloc _
   have SB:=Lib.hid (hS.qt qb)
   have bb:Bk wb wr.heap.size 101 [.string K,.string V]:=hwb ▸ Bk.new wr 101 #[.string K,.string V]
   have BBB:=Lib.hid bb
   have c1:=bb.cell 0 _ rfl
   have c2:=bb.cell 1 _ rfl
   have e1:=qb.cellv e1
   have e2:=qb.cellv e2
   obtain ⟨va,vc,hva⟩:=rowN_shape hS.own
   subst hva
   have RB:=Lib.hid (show ¬ (Value.slice va out.length vc).ownBlock = some wr.heap.size from fun e=>Nat.lt_irrefl _ (ownsRow_lt hS.own e))
   have ZK:=Lib.hid (show (K.toList == OK.toList) = (r.1 == o.key) from by rw [ByteArray.toList_eq,ByteArray.toList_eq,hKl,HOKL.out])
   have ZL:=Lib.hid (show Op.bytesLess OK.toList K.toList = Tb.lt o.key r.1 from by rw [ByteArray.toList_eq,ByteArray.toList_eq,hKl,HOKL.out]; rfl)
   clear hK hKl hV hlt hi hS qb bb
   cases done with
   | true =>
    by_cases he:r.1 = o.key
    ·have zk:(K.toList == OK.toList) = true:=by rw [ZK.out]; simp [he]
     have ES:So.putTo o (l.take (i + 1)) = (true,out):=by rw [HST.out]; unfold So.putStep; simp [he]
     have FN:=Lib.hid (show PtAt W0 o l (Value.slice va out.length vc) (.bool true) (.int .i64 ((i:Int) + 1)) wb from ⟨i + 1,HLT.out,by push_cast; rfl,by rw [ES],by rw [ES]; exact SB.out⟩)
     clear ES
     clear zlt'
     go_wp2
     first | exact ⟨FN.out,HM.out⟩ | (rw [hw1]; exact ⟨FN.out,HM.out⟩)
    ·have zk:(K.toList == OK.toList) = false:=by rw [ZK.out]; simp [he]
     have OW:=Lib.hid (fun ob=>(show (wb.alloc ob).ownsRow 0 101 2 (Value.slice va out.length vc) out.length (rowsC (out)) from ownsRow_kept SB.out.own ((Keeps.refl (fun _=>False) wb).alloc ob) (fun _ _ e=>e)))
     go_wp2_with (at_builtin; refine wpList_append_rows _ rfl _ _ 58 rfl 101 i0 (.agg #[.string ⟨#[]⟩,.string ⟨#[]⟩]) 2 32 Tryz.underlying58 hi0 hz0 hz1 hz2 rfl (by decide) _ out.length (rowsC (out)) rfl (OW.out _) (some ⟨wb.heap.size,0,none⟩) 1 1 [.string K,.string V] rfl rfl (fun _=>⟨_,rfl,rowN_new _ _ _ _⟩) (by intro y hy; simp at hy; rcases hy with rfl | rfl <;> rfl) (by have:=OB.out; (try simp only [List.length_append,List.length_singleton]); omega) (by have:=OB.out; (try simp only [List.length_append,List.length_singleton]); omega) ?_)
     intro vw7 w7 own7 gr7 la7
     have S7:=SB.out.push (r:=r) (by rw [HKV.out]; exact own7) gr7 la7
     obtain ⟨aw7,cw7,rfl⟩:=rowN_shape own7
     have HS7:=Lib.hid S7
     have ES:So.putTo o (l.take (i + 1)) = (true,out ++ [r]):=by rw [HST.out]; unfold So.putStep; simp [he]
     have FN:=Lib.hid (show PtAt W0 o l (Value.slice aw7 (out.length + 1) cw7) (.bool true) (.int .i64 ((i:Int) + 1)) w7 from ⟨i + 1,HLT.out,by push_cast; rfl,by rw [ES],by rw [ES]; exact HS7.out⟩)
     clear ES
     clear S7 own7 gr7 la7 c1 c2 x1 x2
     go_wp2
     first | exact ⟨FN.out,HM.out⟩ | (rw [hw1]; exact ⟨FN.out,HM.out⟩)
   | false =>
    cases hk:Tb.lt o.key r.1 with
    | false =>
     have zl:Op.bytesLess OK.toList K.toList = false:=by rw [ZL.out,hk]
     by_cases he:r.1 = o.key
     ·have zk:(K.toList == OK.toList) = true:=by rw [ZK.out]; simp [he]
      have ES:So.putTo o (l.take (i + 1)) = (false,out):=by rw [HST.out]; unfold So.putStep; rw [hk]; simp [he]
      have FN:=Lib.hid (show PtAt W0 o l (Value.slice va out.length vc) (.bool false) (.int .i64 ((i:Int) + 1)) wb from ⟨i + 1,HLT.out,by push_cast; rfl,by rw [ES],by rw [ES]; exact SB.out⟩)
      clear ES
      clear zlt'
      go_wp2
      first | exact ⟨FN.out,HM.out⟩ | (rw [hw1]; exact ⟨FN.out,HM.out⟩)
     ·have zk:(K.toList == OK.toList) = false:=by rw [ZK.out]; simp [he]
      have OW:=Lib.hid (fun ob=>(show (wb.alloc ob).ownsRow 0 101 2 (Value.slice va out.length vc) out.length (rowsC (out)) from ownsRow_kept SB.out.own ((Keeps.refl (fun _=>False) wb).alloc ob) (fun _ _ e=>e)))
      go_wp2_with (at_builtin; refine wpList_append_rows _ rfl _ _ 58 rfl 101 i0 (.agg #[.string ⟨#[]⟩,.string ⟨#[]⟩]) 2 32 Tryz.underlying58 hi0 hz0 hz1 hz2 rfl (by decide) _ out.length (rowsC (out)) rfl (OW.out _) (some ⟨wb.heap.size,0,none⟩) 1 1 [.string K,.string V] rfl rfl (fun _=>⟨_,rfl,rowN_new _ _ _ _⟩) (by intro y hy; simp at hy; rcases hy with rfl | rfl <;> rfl) (by have:=OB.out; (try simp only [List.length_append,List.length_singleton]); omega) (by have:=OB.out; (try simp only [List.length_append,List.length_singleton]); omega) ?_)
      intro vw7 w7 own7 gr7 la7
      have S7:=SB.out.push (r:=r) (by rw [HKV.out]; exact own7) gr7 la7
      obtain ⟨aw7,cw7,rfl⟩:=rowN_shape own7
      have HS7:=Lib.hid S7
      have ES:So.putTo o (l.take (i + 1)) = (false,out ++ [r]):=by rw [HST.out]; unfold So.putStep; rw [hk]; simp [he]
      have FN:=Lib.hid (show PtAt W0 o l (Value.slice aw7 (out.length + 1) cw7) (.bool false) (.int .i64 ((i:Int) + 1)) w7 from ⟨i + 1,HLT.out,by push_cast; rfl,by rw [ES],by rw [ES]; exact HS7.out⟩)
      clear ES
      clear S7 own7 gr7 la7 c1 c2 x1 x2
      go_wp2
      first | exact ⟨FN.out,HM.out⟩ | (rw [hw1]; exact ⟨FN.out,HM.out⟩)
    | true =>
     have zl:Op.bytesLess OK.toList K.toList = true:=by rw [ZL.out,hk]
     have he:r.1 ≠ o.key:=fun e=>Tb.lt_ne hk e.symm
     have zk:(K.toList == OK.toList) = false:=by rw [ZK.out]; simp [he]
     have OW:=Lib.hid (fun ob=>(show (wb.alloc ob).ownsRow 0 101 2 (Value.slice va out.length vc) out.length (rowsC (out)) from ownsRow_kept SB.out.own ((Keeps.refl (fun _=>False) wb).alloc ob) (fun _ _ e=>e)))
     go_wp2_with (at_builtin; refine wpList_append_rows _ rfl _ _ 58 rfl 101 i0 (.agg #[.string ⟨#[]⟩,.string ⟨#[]⟩]) 2 32 Tryz.underlying58 hi0 hz0 hz1 hz2 rfl (by decide) _ out.length (rowsC (out)) rfl (OW.out _) (some ⟨wb.heap.size,0,none⟩) 1 1 [.string OK,.string OV] rfl rfl (fun _=>⟨_,rfl,rowN_new _ _ _ _⟩) (by intro y hy; simp at hy; rcases hy with rfl | rfl <;> rfl) (by have:=OB.out; (try simp only [List.length_append,List.length_singleton]); omega) (by have:=OB.out; (try simp only [List.length_append,List.length_singleton]); omega) ?_)
     intro vw7 w7 own7 gr7 la7
     have S7:=SB.out.push (r:=(o.key,o.val)) (by rw [HOKV.out]; exact own7) gr7 la7
     obtain ⟨aw7,cw7,rfl⟩:=rowN_shape own7
     have HS7:=Lib.hid S7
     have Q7:Qt W0 w7:=S7.keep
     have HB7:Bk w7 wr.heap.size 101 [.string K,.string V]:=(Keeps.grown ((Keeps.refl (fun x=>(Value.slice va out.length vc).ownBlock = some x) wb).alloc _) gr7 (fun j _ ej=>ej.symm)).block _ BBB.out.lt (fun e=>RB.out e) |>.trans BBB.out
     have b7:=B0.out.qt Q7
     have c1:=HB7.cell 0 _ rfl
     have c2:=HB7.cell 1 _ rfl
     have e1:=b7.cell 1 _ rfl
     have e2:=b7.cell 2 _ rfl
     clear S7 own7 gr7 la7 Q7 HB7 b7 OW
     have OW:=Lib.hid (fun ob=>(show (w7.alloc ob).ownsRow 0 101 2 (Value.slice aw7 (out.length + 1) cw7) (out ++ [(o.key,o.val)]).length (rowsC (out ++ [(o.key,o.val)])) from ownsRow_kept HS7.out.own ((Keeps.refl (fun _=>False) w7).alloc ob) (fun _ _ e=>e)))
     go_wp2_with (at_builtin; refine wpList_append_rows _ rfl _ _ 58 rfl 101 i0 (.agg #[.string ⟨#[]⟩,.string ⟨#[]⟩]) 2 32 Tryz.underlying58 hi0 hz0 hz1 hz2 rfl (by decide) _ (out ++ [(o.key,o.val)]).length (rowsC (out ++ [(o.key,o.val)])) rfl (OW.out _) (some ⟨w7.heap.size,0,none⟩) 1 1 [.string K,.string V] rfl rfl (fun _=>⟨_,rfl,rowN_new _ _ _ _⟩) (by intro y hy; simp at hy; rcases hy with rfl | rfl <;> rfl) (by have:=OB.out; (try simp only [List.length_append,List.length_singleton]); omega) (by have:=OB.out; (try simp only [List.length_append,List.length_singleton]); omega) ?_)
     intro vw8 w8 own7 gr7 la7
     have S8:=HS7.out.push (r:=r) (by rw [HKV.out,List.length_append,List.length_singleton]; exact own7) gr7 la7
     obtain ⟨aw8,cw8,rfl⟩:=rowN_shape own7
     have HS8:=Lib.hid S8
     have ES:So.putTo o (l.take (i + 1)) = (true,(out ++ [(o.key,o.val)]) ++ [r]):=by rw [HST.out]; unfold So.putStep; rw [hk]; simp [he]
     have FN:=Lib.hid (show PtAt W0 o l (Value.slice aw8 (out.length + 1 + 1) cw8) (.bool true) (.int .i64 ((i:Int) + 1)) w8 from ⟨i + 1,HLT.out,by push_cast; rfl,by rw [ES],by rw [ES]; exact HS8.out⟩)
     clear ES
     clear S8 own7 gr7 la7 c1 c2 x1 x2
     go_wp2
     first | exact ⟨FN.out,HM.out⟩ | (rw [hw1]; exact ⟨FN.out,HM.out⟩)
  ·obtain rfl:i = l.length:=by omega
   have zlt:decide ((l.length:Int) < (l.length:Int)) = false:=decide_eq_false (by omega)
   have zlt':decide (l.length < l.length) = false:=decide_eq_false (by omega)
   have HTL:=Lib.hid (show l.take l.length = l from List.take_length)
   rw [HTL.out] at hS HLN ⊢
   obtain ⟨done,out,hst⟩:∃ d u,So.putTo o l = (d,u):=⟨_,_,rfl⟩
   have HE:=Lib.hid (show So.putEnd o (done,out) = Bt.doOp l o from by rw [<- hst]; exact HP.out)
   rw [hst] at hS HLN ⊢
   have OB:=Lib.hid (show out.length + 3<=maxLen/\(out.length + 3) * 32<=140737488355328 from by have hx:out.length<=l.length + 1:=HLN.out.1; have:=HL.out; unfold maxLen; omega)
   have SB:=Lib.hid hS
   have HOKV:=Lib.hid (show [strV o.key,strV o.val] = [.string OK,.string OV] by rw [HOK.out,HOV.out])
   obtain ⟨va,vc,hva⟩:=rowN_shape hS.own
   subst hva
   clear hS hlt hi
   cases done with
   | true =>
    have FIN:=Lib.hid (show NewR w wr (.slice va out.length vc) (Bt.doOp l o) from by
     rw [<- HE.out]
     exact ⟨SB.out.own,fun g hg=>by have:=SB.out.new g hg; have:=Z0.out; omega,QW.out⟩)
    go_wp2
    go_ret
    exact ⟨_,rfl,FIN.out⟩
   | false =>
    have OW:=Lib.hid (fun ob=>(show (wr.alloc ob).ownsRow 0 101 2 (Value.slice va out.length vc) out.length (rowsC (out)) from ownsRow_kept SB.out.own ((Keeps.refl (fun _=>False) wr).alloc ob) (fun _ _ e=>e)))
    go_wp2_with (at_builtin; refine wpList_append_rows _ rfl _ _ 58 rfl 101 i0 (.agg #[.string ⟨#[]⟩,.string ⟨#[]⟩]) 2 32 Tryz.underlying58 hi0 hz0 hz1 hz2 rfl (by decide) _ out.length (rowsC (out)) rfl (OW.out _) (some ⟨wr.heap.size,0,none⟩) 1 1 [.string OK,.string OV] rfl rfl (fun _=>⟨_,rfl,rowN_new _ _ _ _⟩) (by intro y hy; simp at hy; rcases hy with rfl | rfl <;> rfl) (by have:=OB.out; (try simp only [List.length_append,List.length_singleton]); omega) (by have:=OB.out; (try simp only [List.length_append,List.length_singleton]); omega) ?_)
    intro vw7 w7 own7 gr7 la7
    have S7:=SB.out.push (r:=(o.key,o.val)) (by rw [HOKV.out]; exact own7) gr7 la7
    obtain ⟨aw7,cw7,rfl⟩:=rowN_shape own7
    have FIN:=Lib.hid (show NewR w w7 (.slice aw7 (out.length + 1) cw7) (Bt.doOp l o) from by
     rw [<- HE.out]
     exact ⟨S7.own,fun g hg=>by have:=S7.new g hg; have:=Z0.out; omega,Qt.trans Q0.out S7.keep⟩)
    clear S7 own7 gr7 la7
    go_wp2
    go_ret
    exact ⟨_,rfl,FIN.out⟩
end Go.Proofs.YthjjfjhajadimaaGreatDoor
