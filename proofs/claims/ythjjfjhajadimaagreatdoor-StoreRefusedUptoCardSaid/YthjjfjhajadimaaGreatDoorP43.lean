/-
  Joined: OFix, OFmtP, OPutP, OPut, OBehind, OFmtLaw, OFl, ORefP, ModU.
-/
import Derived.Test.YthjjfjhajadimaaGreatDoorP42
import Derived.Deep.RegionHeld3
import Derived.LoopTactic
import Derived.BigQuiet
import Derived.IntWalk
namespace Go.Proofs.YthjjfjhajadimaaGreatDoor
open Go.RowKit Go.WideShapes
set_option maxRecDepth 100000
set_option maxHeartbeats 8000000 in
theorem fixed13_any (ad:Nat->Addr) (w:World) (hE:Errs ad w) (hT:Tab w):Calls Tryz.prog 10 #[] w fun e w'=>e = .returned (.bool true)/\Qt w w':=by
 obtain ⟨d1,d2,s2,d3,s3,o0,f1,o1,v2,r2,c2,r3,f3,w1,w2,w3⟩:=So.fixed_plain
 have HE:=Lib.hid hE
 have HT:=Lib.hid hT
 have NW:=new_any ad 64 w hE
 have HO0:=Lib.hid o0
 have HF1:=Lib.hid f1
 have HO1:=Lib.hid o1
 have HV2:=Lib.hid v2
 have HR2:=Lib.hid r2
 have HC2:=Lib.hid c2
 have HR3:=Lib.hid r3
 have HF3:=Lib.hid f3
 have HW1:=Lib.hid w1
 have HW2:=Lib.hid w2
 have HW3:=Lib.hid w3
 clear hE hT o0 f1 o1 v2 r2 c2 r3 f3 w1 w2 w3
 go_enter Tryz.func10,Tryz.ntmps10
 go_wp2_with fail
 refine NW.mono ?_
 rintro e w1 (⟨hno,rfl,q1⟩ | ⟨n1,n2,b,rfl,hD,q1⟩)
 ·exact absurd ⟨by decide,by decide⟩ hno
 have D1:=Lib.hid (show Dk w.heap.size ad w1 b (DS.newD 64) (Grow (fun _=>False) w w1) from dk_start HE.out HT.out hD q1)
 have OP0:=Lib.hid (open13_any D1.out ⟨by decide,by decide,by decide,by decide⟩)
 rw [HO0.out] at OP0
 clear NW hD n1 n2
 go_wp2_with fail
 refine OP0.out.mono ?_
 rintro e w2 ⟨S2,he,hd2⟩
 rw [errV_pos ad (by decide)] at he
 subst he
 have D2:=Lib.hid hd2.dk
 have Q2:=Lib.hid (show Keeps (fun k=>w.heap.size<=k) w w2 from Keeps.trans (q1.mono (fun _ _ e=>e.elim)) hd2.keeps (fun k hk e=>D1.out.low k e))
 obtain ⟨WL,hWL,qL,bL,hzL⟩:=box_own w2 87 #[.bool false,.string ⟨#[98]⟩,.string ⟨#[50]⟩,.bool false,.string ⟨#[97]⟩,.string ⟨#[49]⟩]
 have OI:=Lib.hid (show OpsIn WL (.slice (some ⟨w2.heap.size,0,none⟩) 2 2) w2.heap.size 0 So.fixA from recs_block (l:=So.fixA) opC_len bL (by decide))
 have D3:=Lib.hid (D2.out.qt qL)
 have FM:=Lib.hid (format13_any D3.out ⟨by decide,by decide,by decide,by decide⟩ OI.out ⟨by decide,by decide⟩)
 rw [HF1.out] at FM
 have QL:=Lib.hid qL
 clear hd2 q1 qL bL hzL OP0
 go_wp2_with fail
 refine FM.out.mono ?_
 rintro e w3 ⟨S3,he,hd3⟩
 obtain rfl:e = .returned .nilIface:=he
 have D4:=Lib.hid hd3.dk
 have Q3:=Lib.hid (show Keeps (fun k=>w.heap.size<=k) w w3 from Keeps.trans (Keeps.trans Q2.out (QL.out.mono (fun _ _ e=>e.elim)) (fun k hk e=>e)) hd3.keeps (fun k hk e=>D3.out.low k e))
 have NU:=Lib.hid (fun W (x:Qt w3 W)=>(num_any ad 14 W (D4.out.errs.qt x) (by decide)))
 rw [errV_pos ad (by decide)] at NU
 have OP1:=Lib.hid (fun W (x:Qt w3 W)=>open13_any (D4.out.qt x) HW1.out.s)
 rw [HO1.out] at OP1
 clear hd3 FM
 go_wp2_with fail
 refine (NU.out _ (Qt.refl w3)).mono ?_
 rintro e w4 ⟨rfl,q4⟩
 have Q4:=Lib.hid q4
 clear q4
 go_wp2_with fail
 refine (OP1.out _ Q4.out).mono ?_
 rintro e w5 ⟨p,O,H,rfl,st,ho,hh,kk⟩
 have ST:=Lib.hid st
 have HO:=Lib.hid (show ∀ k,O k->w.heap.size<=k from st.sub.2.1)
 have Q5:=Lib.hid (show Keeps (fun k=>w.heap.size<=k) w w5 from Keeps.trans (Keeps.trans Q3.out (Q4.out.mono (fun _ _ e=>e.elim)) (fun k hk e=>e)) kk (fun k hk e=>D4.out.low k e))
 clear st ho hh kk
 go_wp2_with fail
 have VE:Calls Tryz.prog 25 #[.pointer (some ⟨p,0,none⟩)] w5 fun e w'=>e = .returned (.int .i64 2)/\w' = w5:=by
  have k:=version_sto ST.out
  rw [HV2.out] at k
  exact k
 refine VE.mono ?_
 rintro e w6 ⟨rfl,rfl⟩
 clear VE
 have SZ:Calls Tryz.prog 40 #[.pointer (some ⟨p,0,none⟩)] w6 fun e w'=>e = .returned (.int .i64 9)/\Qt w6 w':=by
  have k:=size_sto ST.out
  rw [HR2.out,So.fix_apply.2.2.1] at k
  exact k
 go_wp2_with fail
 refine SZ.mono ?_
 rintro e w7 ⟨rfl,q7⟩
 have ST7:=Lib.hid (ST.out.qt q7)
 have RW:=Lib.hid (rows_sto ST7.out)
 rw [HR2.out] at RW
 have Q7:=Lib.hid (Keeps.trans Q5.out (q7.mono (fun _ _ e=>e.elim)) (fun k hk e=>e))
 clear SZ q7
 go_wp2_with fail
 refine RW.out.mono ?_
 rintro e w8 ⟨v,rfl,N⟩
 obtain ⟨g8,hr8,_⟩:=newR_in N (by decide)
 have q8:=N.qt
 obtain ⟨WL,hWL,qL,bL,hzL⟩:=box_own w8 101 #[.string ⟨#[97]⟩,.string ⟨#[49]⟩,.string ⟨#[98]⟩,.string ⟨#[50]⟩]
 have RI:RowsIn WL (.slice (some ⟨w8.heap.size,0,none⟩) 2 2) w8.heap.size 0 So.fixR:=recs_block (l:=So.fixR) rowC_len bL (by decide)
 have SM:=Lib.hid (sameR12_yes (recs_turn hr8 qL) RI)
 have ST9:=Lib.hid ((ST7.out.qt q8).qt qL)
 have Q9:=Lib.hid (Keeps.trans Q7.out ((Qt.trans q8 qL).mono (fun _ _ e=>e.elim)) (fun k hk e=>e))
 clear N hr8 q8 qL bL hzL RI
 go_wp2_with fail
 refine SM.out.mono ?_
 rintro e w9 ⟨rfl,q9⟩
 have ST10:=Lib.hid (ST9.out.qt q9)
 have Q10:=Lib.hid (Keeps.trans Q9.out (q9.mono (fun _ _ e=>e.elim)) (fun k hk e=>e))
 clear q9
 obtain ⟨WK,hWK,qK,bK,hzK⟩:=box_own w9 87 #[.bool true,.string ⟨#[97]⟩,.string ⟨#[]⟩,.bool false,.string ⟨#[99]⟩,.string ⟨#[]⟩]
 have OI:=Lib.hid (show OpsIn WK (.slice (some ⟨w9.heap.size,0,none⟩) 2 2) w9.heap.size 0 So.fixB from recs_block (l:=So.fixB) opC_len bK (by decide))
 have CM:=Lib.hid (commit_sto (ST10.out.qt qK) HW2.out OI.out (by decide) (by decide))
 rw [HC2.out] at CM
 have Q11:=Lib.hid (Keeps.trans Q10.out (qK.mono (fun _ _ e=>e.elim)) (fun k hk e=>e))
 clear qK bK hzK
 go_wp2_with fail
 refine CM.out.mono ?_
 rintro e w10 ⟨he,O2,H2,st2,ho2,hh2,kk2⟩
 obtain rfl:e = .returned .nilIface:=he
 have ST12:=Lib.hid st2
 have Q12:=Lib.hid (show Keeps (fun k=>w.heap.size<=k) w w10 from Keeps.trans Q11.out kk2 (fun k hk e=>HO.out k e))
 have GT:Calls Tryz.prog 47 #[.pointer (some ⟨p,0,none⟩),.string ⟨#[98]⟩] w10 fun e w'=>e = .returned (.tuple #[.string ⟨#[50]⟩,.bool true])/\w' = w10:=by
  have k:=get_sto ST12.out ⟨#[98]⟩
  rw [HR3.out] at k
  exact k
 clear st2 ho2 hh2 kk2 CM
 go_wp2_with fail
 refine GT.mono ?_
 rintro e w11 ⟨rfl,rfl⟩
 clear GT
 have SZ:Calls Tryz.prog 40 #[.pointer (some ⟨p,0,none⟩)] w11 fun e w'=>e = .returned (.int .i64 8)/\Qt w11 w':=by
  have k:=size_sto ST12.out
  rw [HR3.out,So.fix_apply.2.2.2] at k
  exact k
 go_wp2_with fail
 refine SZ.mono ?_
 rintro e w12 ⟨rfl,q12⟩
 obtain ⟨S13,D13,hS13,_⟩:=(ST12.out.qt q12).disk
 have FM:=format13_any D13 HW3.out.s (recs_none (f:=opC)) ⟨by decide,by decide⟩
 rw [HF3.out] at FM
 have Q13:=Lib.hid (Keeps.trans Q12.out (q12.mono (fun _ _ e=>e.elim)) (fun k hk e=>e))
 have HD13:=Lib.hid D13
 clear SZ q12 hS13 D13
 go_wp2_with fail
 refine FM.mono ?_
 rintro e w13 ⟨S14,he,hd14⟩
 obtain rfl:e = .returned (.iface 335 (.pointer (some (ad 21)))):=he
 have NU2:=num_any ad 21 w13 hd14.dk.errs (by decide)
 rw [errV_pos ad (by decide)] at NU2
 have Q14:=Lib.hid (show Keeps (fun k=>w.heap.size<=k) w w13 from Keeps.trans Q13.out hd14.keeps (fun k hk e=>HD13.out.low k e))
 clear FM hd14
 go_wp2_with fail
 refine NU2.mono ?_
 rintro e w14 ⟨rfl,q14⟩
 have FIN:=Lib.hid (show Qt w w14 from (Keeps.trans Q14.out (q14.mono (fun _ _ e=>e.elim)) (fun k hk e=>e)).mono (fun k hk e=>absurd hk (Nat.not_lt.2 e)))
 clear q14
 go_wp2
 go_ret
 exact ⟨rfl,FIN.out⟩
end Go.Proofs.YthjjfjhajadimaaGreatDoor
namespace Go.Proofs.YthjjfjhajadimaaGreatDoor.So
open Go.Proofs.YthjjfjhajadimaaGreatDoor.Tb
set_option maxRecDepth 100000
end Go.Proofs.YthjjfjhajadimaaGreatDoor.So
namespace Go.Proofs.YthjjfjhajadimaaGreatDoor
open Go.RowKit Go.WideShapes
set_option maxRecDepth 100000
set_option maxHeartbeats 1600000 in
theorem copied13_any {v:Value} {g off:Nat} {ops:List Bt.O} (w:World) (hr:OpsIn w v g off ops) (hl:ops.length<=8388608) :
  Calls Tryz.prog 27 #[v] w fun e w'=>∃ v',e = .returned v'/\NewO w w' v' ops:=by
 have HR:=Lib.hid hr
 have HL:=Lib.hid hl
 obtain ⟨a,cap,rfl,ha⟩:=hr.val
 clear hr ha hl
 obtain ⟨i0,hi0,hz0,hz1,hz2⟩:=info_parts infoOp12
 obtain ⟨W0,hW0⟩:∃ W,w.alloc (.cells #[] 87) = W:=⟨_,rfl⟩
 have Q0:=Lib.hid (show Qt w W0 from hW0 ▸ (Qt.refl w).alloc _)
 have OW:=Lib.hid (show W0.ownsRow 0 87 3 (.slice (some ⟨w.heap.size,0,none⟩) 0 0) 0 (opsC []) from hW0 ▸ op_new0 w)
 have NW:=Lib.hid (recs_news opC_len (by decide) (recs_turn HR.out Q0.out))
 go_enter Tryz.func27,Tryz.ntmps27
 go_wp2_with (at_builtin; refine wpList_append_rows _ rfl _ _ 38 rfl 87 i0 (.agg #[.bool false,.string ⟨#[]⟩,.string ⟨#[]⟩]) 3 40 Tryz.underlying38 hi0 hz0 hz1 hz2 rfl (by decide) _ 0 (opsC []) rfl OW.out a ops.length cap (opsC ops) rfl (opsC_length ops) NW.out (opsC_one' ops) (by have:=HL.out; unfold maxLen; omega) (by have:=HL.out; omega) ?_)
 intro v2 w2 own2 gr2 la2
 have FIN:=Lib.hid (show NewO w w2 v2 ops from by
  have K2:Keeps (fun x=>(Value.slice (some ⟨w.heap.size,0,none⟩) 0 0).ownBlock = some x) W0 w2:=Keeps.grown (Keeps.refl _ W0) gr2 (fun j _ ej=>ej.symm)
  refine ⟨?_,fun x hx=>?_,Keeps.trans Q0.out K2 (fun j hj e=>?_)⟩
  ·exact own2
  ·rcases la2 with q | ⟨y,q,hy⟩
   ·rw [hx] at q
    injection q with q
    exact Nat.le_of_eq q.symm
   ·rw [hx] at q
    injection q with q
    have:=Q0.out.size
    omega
  ·injection e with e
   have e2:w.heap.size = j:=e
   omega)
 obtain ⟨a2,c2,rfl⟩:∃ a c,v2 = .slice a ops.length c:=by
  rcases FIN.out.own.2 with ⟨rfl,h0⟩ | ⟨g,cap,cur,e,_⟩
  ·rw [h0]; exact ⟨_,_,rfl⟩
  ·exact ⟨_,_,e⟩
 clear own2 gr2 la2
 go_wp2
 go_ret
 exact ⟨_,rfl,FIN.out⟩
abbrev Ov (n:Nat) (w w':World):Prop:=Keeps (fun k=>n<=k) w w'
theorem ov_qt {n:Nat} {w w1 w2:World} (h:Ov n w w1) (q:Qt w1 w2):Ov n w w2:=Keeps.trans h (q.mono (fun _ _ e=>e.elim)) (fun _ _ e=>e)
theorem ov_to {n:Nat} {w w1 w2:World} {S:Nat->Prop} (h:Ov n w w1) (k:Keeps S w1 w2) (hS:∀ k,S k->n<=k):Ov n w w2:=Keeps.trans h k (fun i _ e=>hS i e)
theorem ov_end {w w1:World} {n:Nat} (hn:w.heap.size<=n) (h:Ov n w w1):Qt w w1:=h.mono (fun _ hk e=>absurd hk (Nat.not_lt.2 (Nat.le_trans hn e)))
theorem ops_ov {n:Nat} {w w1:World} {v:Value} {g o:Nat} {l:List Bt.O} (hn:w.heap.size<=n) (h:OpsIn w v g o l) (k:Ov n w w1):OpsIn w1 v g o l:=recs_turn h (ov_end hn k)
theorem bool_neq (a b:Bool) (w:World):(binOp .neq 4 (.bool a) (.bool b)).run Tryz.prog w = .ok (.bool (a != b)) w:=by
 cases a <;> cases b <;> kernel_rfl
end Go.Proofs.YthjjfjhajadimaaGreatDoor
namespace Go.Proofs.YthjjfjhajadimaaGreatDoor.So
open Go.Proofs.YthjjfjhajadimaaGreatDoor.Tb
set_option maxRecDepth 100000
section
variable {d:DS} {s:St} {j:J.JS}
theorem writeD_fl (d:DS) (i:Int) (t:List UInt8):(d.writeD i t).fl = d.fl:=by
 unfold DS.writeD
 repeat' split
 all_goals rfl
theorem flushD_fl (h:d.flushE = 0):d.flushD.fl = d.fl + 1:=by
 unfold DS.flushE at h
 unfold DS.flushD
 split at h
 ·cases h
 ·rename_i ho
  split at h
  ·cases h
  ·rename_i ha
   rw [if_neg ho,if_neg ha]
theorem areaGo_fl {i st:Nat} {v:List UInt8}:∀ (m k:Nat) (d:DS),(DS.areaGo i st v m k d).1 = 0->(DS.areaGo i st v m k d).2.fl = d.fl + 1
 | 0,k,d,h=>flushD_fl h
 | m + 1,k,d,h=>by
  rw [DS.areaGo] at h ⊢
  split at h
  ·rename_i hne
   exact absurd h hne
  ·rename_i hne
   rw [if_neg hne,areaGo_fl m (k + 1) _ h,writeD_fl]
theorem areaW_fl {i n:Int} {st:Nat} {v:List UInt8} (h:(d.areaW i n st v).1 = 0):(d.areaW i n st v).2.fl = d.fl + 1:=by
 unfold DS.areaW at h ⊢
 split at h
 ·cases h
 ·rename_i h1
  split at h
  ·cases h
  ·rename_i h2
   rw [if_neg h1,if_neg h2]
   exact areaGo_fl _ _ _ h
theorem slotsD_fl {i v:Int} {p:List UInt8} (h:d.slotsE i v p = 0):(d.slotsD i v p).fl = d.fl + 1:=by
 unfold DS.slotsE at h
 unfold DS.slotsD
 split at h
 ·cases h
 ·rename_i h1
  split at h
  ·cases h
  ·rename_i h2
   split at h
   ·rename_i h3
    exact absurd h h3
   ·rename_i h3
    rw [if_neg h1,if_neg h2,if_neg h3,flushD_fl h,writeD_fl]
theorem make_fl {rows:List R} {v:Nat} (h:(make d rows v).1 = 0):(make d rows v).2.fl = d.fl + 2:=by
 unfold make at h ⊢
 simp only at h ⊢
 split at h
 ·rename_i h1
  exact absurd h h1
 ·rename_i h1
  rw [if_neg h1]
  simp only at h ⊢
  rw [slotsD_fl h,areaW_fl (Classical.byContradiction h1)]
theorem go_fl {v:List UInt8}:∀ (m k:Nat) (d:DS),(j.go v m k d).2.fl = d.fl
 | 0,k,d=>rfl
 | m + 1,k,d=>by
  rw [J.JS.go]
  split
  ·exact writeD_fl _ _ _
  ·rw [go_fl m (k + 1)]
   exact writeD_fl _ _ _
theorem append_fl (v:List UInt8):(j.append d v).2.2.fl = d.fl:=by
 unfold J.JS.append
 split
 ·rfl
 ·split
  ·rfl
  ·split
   ·exact go_fl _ _ _
   ·exact go_fl _ _ _
theorem sync_fl (h:(j.sync d).1 = 0):(j.sync d).2.2.fl = d.fl + 1:=by
 unfold J.JS.sync at h ⊢
 split at h
 ·cases h
 ·rename_i h1
  split at h
  ·rename_i h2
   exact absurd h h2
  ·rename_i h2
   rw [if_neg h1,if_neg h2]
   exact flushD_fl (Classical.byContradiction h2)
theorem log_fl {t:Txt} {rows:List R} {was:Nat} (h:(s.log d t rows was).1 = 0):(s.log d t rows was).2.2.fl = d.fl + 1/\(s.log d t rows was).2.1.ver = s.ver/\(s.log d t rows was).2.1.rows = rows:=by
 unfold St.log at h ⊢
 simp only at h ⊢
 split at h
 ·rename_i h1
  exact absurd h h1
 ·rename_i h1
  split at h
  ·rename_i h2
   exact absurd h h2
  ·rename_i h2
   rw [if_neg h1,if_neg h2]
   exact ⟨by show ((s.j.append d t).2.1.sync (s.j.append d t).2.2).2.2.fl = _; rw [sync_fl (Classical.byContradiction h2),append_fl],rfl,rfl⟩
theorem next_fl (h:(s.next d).1 = 0):(s.next d).2.2.fl = d.fl + 2/\(s.next d).2.1.ver = s.ver + 1:=by
 unfold St.next at h ⊢
 split at h
 ·cases h
 ·rename_i h1
  split at h
  ·rename_i h2
   exact absurd h h2
  ·rename_i h2
   rw [if_neg h1,if_neg h2]
   exact ⟨make_fl (Classical.byContradiction h2),rfl⟩
theorem commit_fl {m:Nat} {ops:List Bt.O} (hn:Bt.normal ops ≠ []) (h:(s.commit d m ops).1 = 0):(s.commit d m ops).2.1.rows = Bt.apply s.rows ops/\(((s.commit d m ops).2.2.fl = d.fl + 1/\(s.commit d m ops).2.1.ver = s.ver)\/((s.commit d m ops).2.2.fl = d.fl + 3/\(s.commit d m ops).2.1.ver = s.ver + 1)):=by
 generalize hr:s.commit d m ops = r at h ⊢
 unfold St.commit at hr
 split at hr
 ·rw [<- hr] at h; cases h
 ·split at hr
  ·rw [<- hr] at h; cases h
  ·split at hr
   ·rw [<- hr] at h; cases h
   ·split at hr
    ·rw [<- hr] at h ⊢
     obtain ⟨a,b,c⟩:=log_fl h
     exact ⟨c,.inl ⟨a,b⟩⟩
    ·simp only at hr
     split at hr
     ·rename_i h6
      rw [<- hr] at h
      exact absurd h h6
     ·rename_i h6
      rw [<- hr] at h ⊢
      obtain ⟨a,b⟩:=next_fl (Classical.byContradiction h6)
      obtain ⟨e,f,g⟩:=log_fl h
      exact ⟨g,.inr ⟨by rw [e,a],by rw [f,b]⟩⟩
end
theorem normal_nil {ops:List Bt.O}:Bt.normal ops = [] ↔ ops = []:=by
 unfold Bt.normal
 rw [List.map_eq_nil_iff,ofL_empty]
 unfold Bt.codes
 rw [List.map_eq_nil_iff]
theorem Live.most_len {D:List Txt} {s:St} {d:DS} {snap:List R} {recs:List Txt} (h:Live D s d snap recs):D.length = d.dur.length/\64<=d.dur.length/\d.dur.length<=65536:=by
 have hl:=h.len
 have h1:=h.fresh.low
 have h2:=h.fresh.high
 exact ⟨hl.symm,by omega,by omega⟩
theorem Live.commit_on {D:List Txt} {s:St} {d:DS} {snap:List R} {recs:List Txt} (h:Live D s d snap recs) (hmax:d.dur.length<=1000) (hv:s.ver + 2<=1099511627776) (ha:d.armed = -1) (ops:List Bt.O) (hl:ops.length<=262144) (ht:∀ z ∈ ops,z.key.length<=1048576/\z.val.length<=1048576) :
  (ops = []/\s.commit d (most d.dur.length) ops = (0,s,d)) \/
  (s.commit d (most d.dur.length) ops = (18,s,d)) \/
  (room d.dur.length < s.after ops/\s.commit d (most d.dur.length) ops = (17,s,d)) \/
  (ops ≠ []/\∃ D2 s' d2 snap2 recs2,s.commit d (most d.dur.length) ops = (0,s',d2)/\Live D2 s' d2 snap2 recs2/\d2.dur.length = d.dur.length/\s'.rows = Bt.apply s.rows ops/\d2.armed = -1/\d2.cr = d.cr/\d2.wr<=d.wr + 131073/\((d2.fl = d.fl + 1/\s'.ver = s.ver)\/(d2.fl = d.fl + 3/\s'.ver = s.ver + 1))):=by
 obtain ⟨l1,l2,l3⟩:=h.most_len
 have hm:=many_ge l2
 have he:each d.dur.length<=1000:=by unfold each; omega
 have hn:s.j.n<=65536:=by rw [h.n,l1]; omega
 have R:=Ran.commit s d (most d.dur.length) ops l3 hn
 have hnl:(Bt.normal ops).length<=262144:=Nat.le_trans (Bt.normal_length ops) hl
 have hnt:=normal_texts ht
 rcases h.commit (most:=most d.dur.length) (by rw [l1]; exact Nat.le_refl _) (by unfold most; omega) hv (by omega) ops (fun o ho=>⟨by have:=(hnt o ho).1; omega,by have:=(hnt o ho).2; omega⟩) (by omega) with ⟨x,e⟩ | ⟨_,e⟩ | ⟨x,e⟩ | ⟨D2,s',d2,snap2,recs2,e,L,_,r,_,_⟩ | ⟨s',d2,e,o,_⟩
 ·exact .inl ⟨normal_nil.1 x,e⟩
 ·exact .inr (.inl e)
 ·exact .inr (.inr (.inl ⟨by rw [<- l1]; exact x,e⟩))
 ·by_cases hne:Bt.normal ops = []
  ·have h0:=normal_nil.1 hne
   refine .inl ⟨h0,?_⟩
   have e2:s.commit d (most d.dur.length) ops = (0,s,d):=by
    generalize hr:s.commit d (most d.dur.length) ops = q
    unfold St.commit at hr
    rw [if_neg (by rw [h.up]; simp),if_pos hne] at hr
    exact hr.symm
   exact e2
  ·have F:=commit_fl (s:=s) (d:=d) (m:=most d.dur.length) hne (by rw [e])
   rw [e] at F R
   exact .inr (.inr (.inr ⟨fun k=>hne (normal_nil.2 k),D2,s',d2,snap2,recs2,e,L,R.len,r,(R.still h.calm.off ha).2,R.cr,R.wr,F.2⟩))
 ·rw [e] at R
  obtain ⟨k,_⟩:=R.still h.calm.off ha
  simp only at k
  rw [k] at o
  cases o
theorem first_on {n:Nat} (h1:64<=n) (h2:n<=1000) (A:List Bt.O) :
  (format (DS.newD n) A = (17,DS.newD n)) \/
  ∃ d1 s d2,format (DS.newD n) A = (0,d1)/\d1.FewC/\opens d1 = (.inr s,d2)/\s.rows = Bt.apply [] A/\s.ver = 2/\Live d2.dur s d2 (Bt.apply [] A) []/\d2.armed = -1/\d2.dur.length = n/\d2.cr = 0/\d2.wr<=131074/\d2.fl<=4:=by
 have hl:=newD_len n
 have C0:=newD_calm n
 have B0:Blank (DS.newD n).dur:=blank_new h1 (by omega)
 by_cases hz:size (Bt.apply [] A)<=room (DS.newD n).dur.length
 ·right
  obtain ⟨d1,e1,C1,c1,l1,F1,f1,g1⟩:=format_on C0 B0 rfl A hz
  have R1:=Ran.format (DS.newD n) A
  rw [e1] at R1
  obtain ⟨d2,e2,C2,c2,l2,L2,g2⟩:=rest_opens_on C1 (F1.rest13 C1 (by decide)) (by decide) g1
  have R2:=Ran.opens d1
  rw [e2] at R2
  have w0:(DS.newD n).wr = 0/\(DS.newD n).fl = 0/\(DS.newD n).cr = 0/\(DS.newD n).ways.length = 0:=⟨rfl,rfl,rfl,rfl⟩
  obtain ⟨w1,w2,w3,w4⟩:=w0
  have k1:=R1.ways
  have k2:=R1.wr
  have k3:=R1.fl
  have k5:=R2.wr
  have k6:=R2.fl
  simp only at k1 k2 k3 k5 k6
  exact ⟨d1,_,d2,e1,⟨by omega,by omega,by omega,by omega⟩,e2,rfl,rfl,L2,g2,by rw [l2,l1,hl],by omega,by omega,by omega⟩
 ·left
  rcases blank_format C0 B0 (by show -1<=(-1:Int); decide) A with ⟨_,e2⟩ | ⟨d2,e2,_⟩ | ⟨d2,e2,_⟩
  ·exact e2
  ·exfalso
   unfold format at e2
   rw [if_neg (by rw [lay_ok B0.low B0.high]; simp),if_neg (by rw [C0.off]; simp),if_neg (by rw [B0.tells C0]; decide),if_pos (by omega)] at e2
   cases e2
  ·exfalso
   unfold format at e2
   rw [if_neg (by rw [lay_ok B0.low B0.high]; simp),if_neg (by rw [C0.off]; simp),if_neg (by rw [B0.tells C0]; decide),if_pos (by omega)] at e2
   cases e2
end Go.Proofs.YthjjfjhajadimaaGreatDoor.So
namespace Go.Proofs.YthjjfjhajadimaaGreatDoor
open Go.RowKit Go.WideShapes
def modU (x:Int) (m:Nat):Nat:=(x % 18446744073709551616).toNat % m
theorem modU_wrap (x:Int) (m:Nat) (hm:0 < m) (hm2:m<=1000000):wrap64 ((IntKind.u64.wrap x).tmod (m:Int)) = (modU x m:Int):=by
 rw [IntKind.wrap_u64]
 unfold modU
 have h0:0<=x % 18446744073709551616:=by omega
 obtain ⟨y,hy⟩:=Int.eq_ofNat_of_zero_le h0
 rw [hy,Int.toNat_natCast,show ((y:Int).tmod (m:Int)) = ((y % m:Nat):Int) from by rw [Int.tmod_eq_emod_of_nonneg (by omega)]; exact (Int.natCast_emod y m).symm]
 have:=Nat.mod_lt y hm
 unfold wrap64
 omega
end Go.Proofs.YthjjfjhajadimaaGreatDoor
