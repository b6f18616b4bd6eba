/-
  Joined: ORefused, RecsO, ReachA.
-/
import Derived.Test.YthjjfjhajadimaaGreatDoorP43
import Derived.ChangeSlices
import Derived.SizedLaws
import Derived.Deep.Slices
import Derived.OpenShut
import Derived.ChangeAt
import Derived.WideShapes
namespace Go.Proofs.YthjjfjhajadimaaGreatDoor
open Go.RowKit Go.WideShapes
set_option maxRecDepth 100000
structure OpsLs (W:World) (v:Value) (g off:Nat) (l:List (List Bt.O)):Prop where
 val:∃ a cap,v = .slice a l.length cap/\(l ≠ []->a = some ⟨g,off,none⟩)
 le:l.length<=1048576
 each:∀ (k:Nat) (ops:List Bt.O),l[k]? = some ops->ops.length<=262144/\(∀ z ∈ ops,z.key.length<=1048576/\z.val.length<=1048576)/\∃ u g2 o2,W.cell? ⟨g,off + k,none⟩ = some u/\OpsIn W u g2 o2 ops
def rfW (i:Nat):Nat:=131073 * (i + 2)
def rfF (i:Nat):Nat:=3 * (i + 2)
theorem rf_ver {v i n:Nat} (h:v<=2 + i) (h2:i<=n/\n<=1048576):v + 2<=1099511627776:=by omega
theorem rf_len {x m:Nat} (h:x = 64 + m) (h2:m<=29):x<=1000:=by omega
theorem rfW_zero {x:Nat} (h:x<=131074):x<=rfW 0:=by unfold rfW; omega
theorem rfF_zero {x:Nat} (h:x<=4):x<=rfF 0:=by unfold rfF; omega
theorem rfW_most {x i:Nat} (h:x<=rfW i) (hi:i<=1048576):x<=137441000000:=by unfold rfW at h; omega
theorem rfF_most {x i:Nat} (h:x<=rfF i) (hi:i<=1048576):x<=3145734:=by unfold rfF at h; omega
theorem rfW_succ {x y i:Nat} (h:x<=rfW i) (hy:y<=x + 131073):y<=rfW (i + 1):=by unfold rfW at h ⊢; omega
theorem rfF_succ {x y i:Nat} (h:x<=rfF i) (hy:y<=x + 3):y<=rfF (i + 1):=by unfold rfF at h ⊢; omega
def RfAt (n0:Nat) (ad:Nat->Addr) (W0:World) (p b N:Nat) (l:List (List Bt.O)) (iv:Value) (wr:World):Prop :=
 ∃ (i:Nat) (s:So.St) (d:DS) (D:List Tb.Txt) (snap:List Tb.R) (recs:List Tb.Txt) (O H:Nat->Prop),i<=l.length/\iv = .int .i64 i/\Sto n0 ad wr p b s d O H/\So.Live D s d snap recs/\d.armed = -1/\d.dur.length = N/\s.ver<=2 + i/\d.cr = 0/\d.wr<=rfW i/\d.fl<=rfF i/\Ov n0 W0 wr
theorem counts_k {n0:Nat} {ad:Nat->Addr} {w:World} {b:Nat} {d:DS} {S:Nat->Prop} (h:Dk n0 ad w b d S):Calls Tryz.prog 15 #[.pointer (some ⟨b,0,none⟩)] w fun e w'=>e = .returned (.tuple #[.int .i64 d.wr,.int .i64 d.fl])/\Qt w w':=counts_any h.disk
set_option maxHeartbeats 16000000 in
theorem refused13_any (ad:Nat->Addr) {fv lv:Value} {g1 o1 g2 o2:Nat} {A:List Bt.O} {l:List (List Bt.O)} (n:Int) (w:World) (hE:Errs ad w) (hT:Tab w)
  (hA:OpsIn w fv g1 o1 A) (hlA:A.length<=262144) (htA:∀ z ∈ A,z.key.length<=1048576/\z.val.length<=1048576) (hL:OpsLs w lv g2 o2 l) :
  Calls Tryz.prog 7 #[.int .i64 n,fv,lv] w fun e w'=>e = .returned (.bool true)/\Qt w w':=by
 have hmw:wrap64 ((IntKind.u64.wrap n).tmod 30) = (modU n 30:Int):=modU_wrap n 30 (by decide) (by decide)
 have hm:modU n 30<=29:=by have:=Nat.mod_lt ((n % 18446744073709551616).toNat) (show 0 < 30 by decide); unfold modU; omega
 generalize modU n 30 = m at *
 have HE:=Lib.hid hE
 have HT:=Lib.hid hT
 have HA:=Lib.hid hA
 have LA:=Lib.hid hlA
 have TA:=Lib.hid htA
 have HL:=Lib.hid hL
 have HM0:=Lib.hid hm
 have PL:=Lib.hid (So.first_on (n:=64 + m) (by omega) (by omega) A)
 obtain ⟨lva,lvc,rfl,_⟩:=hL.val
 have FX:=fixed13_any ad w hE hT
 clear hE hT hA hlA htA hL
 go_enter Tryz.func7,Tryz.ntmps7
 go_wp2_with fail
 refine FX.mono ?_
 rintro e w1 ⟨rfl,q1⟩
 have Q1:=Lib.hid q1
 have NW:=Lib.hid (new_any ad (64 + (m:Int)) w1 (HE.out.qt q1))
 have Z1:=Lib.hid (show w.heap.size<=w1.heap.size from q1.size)
 clear q1 FX
 go_wp2_with fail
 refine NW.out.mono ?_
 rintro e w2 (⟨hno,rfl,q2⟩ | ⟨n1,n2,b,rfl,hD,q2⟩)
 ·exact absurd ⟨by omega,by omega⟩ hno
 rw [show ((64:Int) + (m:Int)).toNat = 64 + m from by omega] at hD
 have D3:=Lib.hid (show Dk w1.heap.size ad w2 b (DS.newD (64 + m)) (Grow (fun _=>False) w1 w2) from dk_start (HE.out.qt Q1.out) (HT.out.qt Q1.out) hD q2)
 have V3:=Lib.hid (show Ov w1.heap.size w w2 from ov_qt (Q1.out.mono (fun _ _ e=>e.elim)) q2)
 have CP:=Lib.hid (copied13_any w2 (ops_ov Z1.out HA.out V3.out) (by have:=LA.out; omega))
 clear hD q2 n1 n2 NW hmw hm
 go_wp2_with fail
 refine CP.out.mono ?_
 rintro e w4 ⟨cv,rfl,N4⟩
 obtain ⟨g4,hi4,_⟩:=newO_in N4 (by have:=LA.out; omega)
 have D4:=Lib.hid (D3.out.qt N4.qt)
 have V4:=Lib.hid (ov_qt V3.out N4.qt)
 have FM:=Lib.hid (format13_any D4.out ⟨show (0:Nat)<=1072000000 by decide,show (0:Nat)<=288230376151711744 by decide,show (0:Nat)<=288230376151711744 by decide,show (0:Nat)<=288230376151711744 by decide⟩ hi4 (small_of LA.out TA.out))
 clear N4 hi4 CP
 rcases PL.out with ef | ⟨d1,s0,d2,ef,f1,eo,hr0,hv0,hlv,harm,hlen,hcr,hwr,hfl⟩
 ·rw [ef] at FM
  clear ef
  go_wp2_with fail
  refine FM.out.mono ?_
  rintro e w5 ⟨S5,he,hd5⟩
  obtain rfl:e = .returned (.iface 335 (.pointer (some (ad 17)))):=he
  have D5:=Lib.hid hd5.dk
  have V5:=Lib.hid (ov_to V4.out hd5.keeps (fun k e=>D4.out.low k e))
  clear hd5 FM
  have CT:Calls Tryz.prog 15 #[.pointer (some ⟨b,0,none⟩)] w5 fun e w'=>e = .returned (.tuple #[.int .i64 0,.int .i64 0])/\Qt w5 w':=counts_k D5.out
  go_wp2_with fail
  refine CT.mono ?_
  rintro e w6 ⟨rfl,q6⟩
  have D6:=Lib.hid (D5.out.qt q6)
  have V6:=Lib.hid (ov_qt V5.out q6)
  clear q6 CT
  have NU:Calls Tryz.prog 21 #[.iface 335 (.pointer (some (ad 17)))] w6 fun e w'=>e = .returned (.int .i64 17)/\Qt w6 w':=num_any ad 17 w6 D6.out.errs (by decide)
  go_wp2_with fail
  refine NU.mono ?_
  rintro e w7 ⟨rfl,q7⟩
  have FIN:=Lib.hid (ov_end Z1.out (ov_qt V6.out q7))
  clear q7 NU
  go_wp2
  go_ret
  exact ⟨rfl,FIN.out⟩
 ·rw [ef] at FM
  have EO:=Lib.hid eo
  have F1:=Lib.hid f1
  have HLV:=Lib.hid (show So.Live d2.dur s0 d2 (Bt.apply [] A) []/\d2.armed = -1/\d2.dur.length = 64 + m/\s0.ver<=2 + 0/\d2.cr = 0/\d2.wr<=rfW 0/\d2.fl<=rfF 0 from ⟨hlv,harm,hlen,by omega,hcr,rfW_zero hwr,rfF_zero hfl⟩)
  clear ef eo f1 hr0 hv0 hlv harm hlen hcr hwr hfl
  go_wp2_with fail
  refine FM.out.mono ?_
  rintro e w5 ⟨S5,he,hd5⟩
  obtain rfl:e = .returned .nilIface:=he
  have D5:=Lib.hid hd5.dk
  have V5:=Lib.hid (ov_to V4.out hd5.keeps (fun k e=>D4.out.low k e))
  have OP:=Lib.hid (open13_any D5.out F1.out.s)
  rw [EO.out] at OP
  clear hd5 FM
  go_wp2_with fail
  refine OP.out.mono ?_
  rintro e w6 ⟨p,O,H,rfl,st,_,_,kk⟩
  have START:=Lib.hid (show RfAt w1.heap.size ad w p b (64 + m) l (.int .i64 0) w6 from ⟨0,s0,d2,_,_,_,O,H,Nat.zero_le _,rfl,st,HLV.out.1,HLV.out.2.1,HLV.out.2.2.1,HLV.out.2.2.2.1,HLV.out.2.2.2.2.1,HLV.out.2.2.2.2.2.1,HLV.out.2.2.2.2.2.2,ov_to V5.out kk (fun k e=>D5.out.low k e)⟩)
  clear st kk OP
  go_wp2
  go_loopw [74] (fun iv wr=>RfAt w1.heap.size ad w p b (64 + m) l iv wr) (fun iv _=>l.length - (intOf iv).toNat)
  case atStart=>exact START.out
  case round =>
   as_aux_lemma =>
    obtain ⟨i,s,d,DD,snap,recs,O,H,hi,rfl,hst,hlv,harm,hlen,hver,hcr,hwr,hfl,hov⟩:=hrel
    have ST:=Lib.hid hst
    have LV:=Lib.hid hlv
    have VR:=Lib.hid hov
    have NB:=Lib.hid (show d.armed = -1/\d.dur.length = 64 + m/\s.ver<=2 + i/\d.cr = 0/\d.wr<=rfW i/\d.fl<=rfF i/\i<=l.length/\l.length<=1048576 from ⟨harm,hlen,hver,hcr,hwr,hfl,hi,HL.out.le⟩)
    have FC:=Lib.hid (show d.FewC from ⟨by rw [hlv.calm.ways]; exact Nat.zero_le _,by have:=rfW_most hwr (by have:=NB.out; omega); omega,by have:=rfF_most hfl (by have:=NB.out; omega); omega,by rw [hcr]; decide⟩)
    have QW:=Lib.hid (ov_end Z1.out hov)
    by_cases hlt:i < l.length
    ·have zlt:decide ((i:Int) < (l.length:Int)) = true:=decide_eq_true (by omega)
     have zlt':decide (i < l.length) = true:=decide_eq_true hlt
     obtain ⟨ops,hri⟩:∃ x,l[i]? = some x:=⟨l[i],List.getElem?_eq_getElem hlt⟩
     obtain ⟨hln,hlt2,u,g7,o7,hcu,hou⟩:=HL.out.each i ops hri
     obtain ⟨a',c',e0,ha'⟩:=HL.out.val
     injection e0 with e0 q1 q2
     clear q1 q2
     have ha2:=ha' (by rintro rfl; simp at hlt)
     rw [ha2] at e0
     subst e0
     obtain ⟨oa,oc,rfl,_⟩:=hou.val
     have x1:=QW.out.cellv hcu
     have OU:=Lib.hid hou
     have ON:=Lib.hid hln
     have OT:=Lib.hid hlt2
     have k0:(0:Int)<=(i:Int):=by omega
     have k1:(i:Int) < (l.length:Int):=by omega
     have hw1:=pl_w1 (k:=i) (by have:=NB.out.2.2.2.2.2.2; omega)
     have HM:=Lib.hid (pl_meas hlt)
     have HLT:=Lib.hid hlt
     have CM:=Lib.hid (LV.out.commit_on (rf_len NB.out.2.1 HM0.out) (rf_ver NB.out.2.2.1 NB.out.2.2.2.2.2.2) NB.out.1 ops hln hlt2)
     clear hst hlv hov harm hlen hver hcr hwr hfl hi hlt hri hln hlt2 hcu hou ha' ha2
     obtain ⟨S1,D1,hS1,_⟩:=ST.out.disk
     have CT:=Lib.hid (counts_k D1)
     clear D1 hS1
     go_wp2_with fail
     refine CT.out.mono ?_
     rintro e w1' ⟨rfl,q1'⟩
     have ST1:=Lib.hid (ST.out.qt q1')
     have V1:=Lib.hid (ov_qt VR.out q1')
     have CQ:=Lib.hid (copied13_any w1' (ops_ov Z1.out OU.out V1.out) (by have:=ON.out; omega))
     clear q1' CT
     go_wp2_with fail
     refine CQ.out.mono ?_
     rintro e w2' ⟨cv2,rfl,N2⟩
     obtain ⟨gc2,hi2,_⟩:=newO_in N2 (by have:=ON.out; omega)
     have ST2:=Lib.hid (ST1.out.qt N2.qt)
     have V2:=Lib.hid (ov_qt V1.out N2.qt)
     have AF:=Lib.hid (after_sto ST2.out hi2 (small_of ON.out OT.out))
     obtain ⟨af,haf⟩:∃ x,s.after ops = x:=⟨_,rfl⟩
     have HAF:=Lib.hid haf
     rw [haf] at AF
     clear N2 hi2 CQ haf
     go_wp2_with fail
     refine AF.out.mono ?_
     rintro e w3' ⟨rfl,q3'⟩
     have ST3:=Lib.hid (ST2.out.qt q3')
     have V3':=Lib.hid (ov_qt V2.out q3')
     have RW:=Lib.hid (rows_sto ST3.out)
     clear q3' AF
     as_aux_lemma =>
      go_wp2_with fail
      refine RW.out.mono ?_
      rintro e w4' ⟨rv,rfl,NR⟩
      have ST4:=Lib.hid (ST3.out.qt NR.qt)
      have V4':=Lib.hid (ov_qt V3'.out NR.qt)
      obtain ⟨gw,hrw,hgw⟩:=newR_in NR (by have:=ST3.out.most.1; omega)
      have WAS:=Lib.hid hrw
      have GWN:=Lib.hid (show s.rows ≠ []->¬ O gw from fun hne e=>by have h2:=ST3.out.sub.2.2 gw (ST3.out.sub.1 gw e); have:=(hgw hne).1; omega)
      have VE:=Lib.hid (version_sto ST4.out)
      clear NR hrw hgw RW
      go_wp2_with fail
      refine VE.out.mono ?_
      rintro e w5' ⟨rfl,rfl⟩
      have SZ:=Lib.hid (size_sto ST4.out)
      obtain ⟨sz,hsz⟩:∃ x,So.size s.rows = x:=⟨_,rfl⟩
      have HSZ:=Lib.hid hsz
      have RML:=Lib.hid (show sz<=So.room d.dur.length from by rw [<- hsz]; exact ST4.out.most.2)
      rw [hsz] at SZ
      clear VE hsz
      go_wp2_with fail
      refine SZ.out.mono ?_
      rintro e w6' ⟨rfl,q6'⟩
      have ST6:=Lib.hid (ST4.out.qt q6')
      have V6:=Lib.hid (ov_qt V4'.out q6')
      have AN:=Lib.hid (show Calls Tryz.prog 39 #[.pointer (some ⟨p,0,none⟩),.slice none 0 0] w6' fun e w'=>e = .returned (.int .i64 (sz:Int))/\Qt w6' w' from by
       have k:=after_sto ST6.out (recs_none (f:=opC)) ⟨by decide,by decide⟩
       rw [show s.after [] = So.size s.rows from rfl,HSZ.out] at k
       exact k)
      have WAS6:=Lib.hid (recs_turn WAS.out q6')
      clear q6' SZ
      have z1:((sz:Int) != (sz:Int)) = false:=bne_self_eq_false _
      as_aux_lemma =>
       go_wp2_with fail
       refine AN.out.mono ?_
       rintro e w7' ⟨rfl,q7'⟩
       have ST7:=Lib.hid (ST6.out.qt q7')
       have V7:=Lib.hid (ov_qt V6.out q7')
       have WAS7:=Lib.hid (recs_turn WAS6.out q7')
       have SZ7:=Lib.hid (size_sto ST7.out)
       rw [HSZ.out] at SZ7
       clear q7' AN
       go_wp2_with fail
       refine SZ7.out.mono ?_
       rintro e w8' ⟨rfl,q8'⟩
       have ST8:=Lib.hid (ST7.out.qt q8')
       have V8:=Lib.hid (ov_qt V7.out q8')
       have WAS8:=Lib.hid (recs_turn WAS7.out q8')
       have RM:=Lib.hid (room_sto ST8.out)
       obtain ⟨rm,hrm⟩:∃ x,So.room d.dur.length = x:=⟨_,rfl⟩
       have HRM:=Lib.hid hrm
       rw [hrm] at RM RML
       clear q8' SZ7 hrm
       have z2:decide ((rm:Int) < (sz:Int)) = false:=decide_eq_false (by have:=RML.out; omega)
       have z2':decide (rm < sz) = false:=decide_eq_false (by have:=RML.out; omega)
       as_aux_lemma =>
        go_wp2_with fail
        refine RM.out.mono ?_
        rintro e w9' ⟨rfl,q9'⟩
        have ST9:=Lib.hid (ST8.out.qt q9')
        have V9:=Lib.hid (ov_qt V8.out q9')
        have WAS9:=Lib.hid (recs_turn WAS8.out q9')
        have CQ2:=Lib.hid (copied13_any w9' (ops_ov Z1.out OU.out V9.out) (by have:=ON.out; omega))
        clear q9' RM
        go_wp2_with fail
        refine CQ2.out.mono ?_
        rintro e wa ⟨cv3,rfl,N3⟩
        obtain ⟨gc3,hi3,_⟩:=newO_in N3 (by have:=ON.out; omega)
        have STa:=Lib.hid (ST9.out.qt N3.qt)
        have Va:=Lib.hid (ov_qt V9.out N3.qt)
        have WASa:=Lib.hid (recs_turn WAS9.out N3.qt)
        have CC:=Lib.hid (commit_sto STa.out FC.out hi3 ON.out OT.out)
        have QN:=Lib.hid (fun k (e:O k)=>STa.out.sub.2.1 k e)
        clear N3 hi3 CQ2
        as_aux_lemma =>
         rcases CM.out with ⟨he0,ec⟩ | ec | ⟨hfu,ec⟩ | ⟨hne,D2,s2,d2',snap2,recs2,ec,L2,len2,r2,a2,c2,wr2,hcase⟩
         ·as_aux_lemma =>
          rw [ec] at CC
          have HE0:=Lib.hid he0
          clear ec he0
          go_wp2_with fail
          refine CC.out.mono ?_
          rintro e wb ⟨he,Ob,Hb,stb,hob,hhb,kkb⟩
          obtain rfl:e = .returned .nilIface:=he
          have STb:=Lib.hid stb
          have Vb:=Lib.hid (ov_to Va.out kkb QN.out)
          have WASb:=Lib.hid (recs_kept WASa.out kkb GWN.out)
          obtain ⟨Sb,Db,hSb,_⟩:=stb.disk
          have CTb:=Lib.hid (counts_k Db)
          clear stb hob hhb kkb Db hSb CC
          have zl:((ops.length:Int) == 0) = true:=by rw [HE0.out]; rfl
          have zl2:decide ((0:Int) < (ops.length:Int)) = false:=by rw [HE0.out]; rfl
          have zl2':decide (0 < ops.length) = false:=by rw [HE0.out]; rfl
          have zl3:ops.length = 0:=by rw [HE0.out]; rfl
          have zf:((d.fl:Int) == (d.fl:Int)) = true:=beq_self_eq_true _
          have hbn:=fun (w:World)=>bool_neq true true w
          have zaf:((sz:Int) != (af:Int)) = false:=by
           have e1:af = sz:=by rw [<- HAF.out,<- HSZ.out,HE0.out]; rfl
           rw [e1]
           exact bne_self_eq_false _
          go_wp2_with fail
          refine CTb.out.mono ?_
          rintro e wc ⟨rfl,qc⟩
          have STc:=Lib.hid (STb.out.qt qc)
          have Vc:=Lib.hid (ov_qt Vb.out qc)
          have WASc:=Lib.hid (recs_turn WASb.out qc)
          clear qc CTb
          obtain ⟨Sc,Dc,_,_⟩:=STc.out.disk
          have NU:=Lib.hid (show Calls Tryz.prog 21 #[.nilIface] wc fun e w'=>e = .returned (.int .i64 0)/\Qt wc w' from num_any ad 0 wc Dc.errs (by decide))
          clear Dc
          go_wp2_with fail
          refine NU.out.mono ?_
          rintro e wd ⟨rfl,qd⟩
          have STd:=Lib.hid (STc.out.qt qd)
          have Vd:=Lib.hid (ov_qt Vc.out qd)
          have WASd:=Lib.hid (recs_turn WASc.out qd)
          clear qd NU
          have SZd:=Lib.hid (size_sto STd.out)
          rw [HSZ.out] at SZd
          go_wp2_with fail
          refine SZd.out.mono ?_
          rintro e we ⟨rfl,qe⟩
          have STe:=Lib.hid (STd.out.qt qe)
          have Ve:=Lib.hid (ov_qt Vd.out qe)
          clear qe SZd
          have zv:decide ((s.ver:Int) + 1 < (s.ver:Int)) = false:=decide_eq_false (by omega)
          have zv2:wrap64 ((s.ver:Int) + 1) = (s.ver:Int) + 1:=by have:=NB.out.2.2.1; have:=NB.out.2.2.2.2.2.2; unfold wrap64; omega
          have VE1:Calls Tryz.prog 25 #[.pointer (some ⟨p,0,none⟩)] we fun e w'=>e = .returned (.int .i64 (s.ver:Int))/\w' = we:=by
           have k:=version_sto STe.out
           exact k
          go_wp2_with fail
          refine VE1.mono ?_
          rintro e wv1 ⟨rfl,rfl⟩
          clear VE1
          have FN:=Lib.hid (show RfAt w1.heap.size ad w p b (64 + m) l (.int .i64 ((i:Int) + 1)) wv1 from ⟨i + 1,s,d,_,_,_,_,_,HLT.out,by push_cast; rfl,STe.out,LV.out,NB.out.1,NB.out.2.1,Nat.le_succ_of_le NB.out.2.2.1,NB.out.2.2.2.1,rfW_succ NB.out.2.2.2.2.1 (Nat.le_add_right _ _),rfF_succ NB.out.2.2.2.2.2.1 (Nat.le_add_right _ _),Ve.out⟩)
          go_wp2
          first | exact ⟨FN.out,HM.out⟩ | (rw [hw1]; exact ⟨FN.out,HM.out⟩)
         ·as_aux_lemma =>
          rw [ec] at CC
          clear ec
          go_wp2_with fail
          refine CC.out.mono ?_
          rintro e wb ⟨he,Ob,Hb,stb,hob,hhb,kkb⟩
          obtain rfl:e = .returned (.iface 335 (.pointer (some (ad 18)))):=he
          have STb:=Lib.hid stb
          have Vb:=Lib.hid (ov_to Va.out kkb QN.out)
          have WASb:=Lib.hid (recs_kept WASa.out kkb GWN.out)
          obtain ⟨Sb,Db,hSb,_⟩:=stb.disk
          have CTb:=Lib.hid (counts_k Db)
          clear stb hob hhb kkb Db hSb CC
          have zx:((d.wr:Int) != (d.wr:Int)) = false:=bne_self_eq_false _
          have zy:((d.fl:Int) != (d.fl:Int)) = false:=bne_self_eq_false _
          have zv:((s.ver:Int) != (s.ver:Int)) = false:=bne_self_eq_false _
          go_wp2_with fail
          refine CTb.out.mono ?_
          rintro e wc ⟨rfl,qc⟩
          have STc:=Lib.hid (STb.out.qt qc)
          have Vc:=Lib.hid (ov_qt Vb.out qc)
          have WASc:=Lib.hid (recs_turn WASb.out qc)
          clear qc CTb
          obtain ⟨Sc,Dc,_,_⟩:=STc.out.disk
          have NU:=Lib.hid (show Calls Tryz.prog 21 #[.iface 335 (.pointer (some (ad 18)))] wc fun e w'=>e = .returned (.int .i64 18)/\Qt wc w' from num_any ad 18 wc Dc.errs (by decide))
          clear Dc
          go_wp2_with fail
          refine NU.out.mono ?_
          rintro e wd ⟨rfl,qd⟩
          have STd:=Lib.hid (STc.out.qt qd)
          have Vd:=Lib.hid (ov_qt Vc.out qd)
          have WASd:=Lib.hid (recs_turn WASc.out qd)
          clear qd NU
          have RWe:=Lib.hid (rows_sto STd.out)
          go_wp2_with fail
          refine RWe.out.mono ?_
          rintro e wf ⟨rv2,rfl,NF⟩
          obtain ⟨gf,hrf,_⟩:=newR_in NF (by have:=STd.out.most.1; omega)
          have STf:=Lib.hid (STd.out.qt NF.qt)
          have Vf:=Lib.hid (ov_qt Vd.out NF.qt)
          have SM:=Lib.hid (sameR12_yes hrf (recs_turn WASd.out NF.qt))
          clear NF hrf RWe
          go_wp2_with fail
          refine SM.out.mono ?_
          rintro e wg ⟨rfl,qg⟩
          have STg:=Lib.hid (STf.out.qt qg)
          have Vg:=Lib.hid (ov_qt Vf.out qg)
          clear qg SM
          have VE1:Calls Tryz.prog 25 #[.pointer (some ⟨p,0,none⟩)] wg fun e w'=>e = .returned (.int .i64 (s.ver:Int))/\w' = wg:=by
           have k:=version_sto STg.out
           exact k
          go_wp2_with fail
          refine VE1.mono ?_
          rintro e wv1 ⟨rfl,rfl⟩
          clear VE1
          have FN:=Lib.hid (show RfAt w1.heap.size ad w p b (64 + m) l (.int .i64 ((i:Int) + 1)) wv1 from ⟨i + 1,s,d,_,_,_,_,_,HLT.out,by push_cast; rfl,STg.out,LV.out,NB.out.1,NB.out.2.1,Nat.le_succ_of_le NB.out.2.2.1,NB.out.2.2.2.1,rfW_succ NB.out.2.2.2.2.1 (Nat.le_add_right _ _),rfF_succ NB.out.2.2.2.2.2.1 (Nat.le_add_right _ _),Vg.out⟩)
          go_wp2
          first | exact ⟨FN.out,HM.out⟩ | (rw [hw1]; exact ⟨FN.out,HM.out⟩)
         ·as_aux_lemma =>
          rw [ec] at CC
          clear ec
          have zfu:decide ((af:Int)<=(rm:Int)) = false:=decide_eq_false (by have h:=hfu; rw [HAF.out,HRM.out] at h; omega)
          have zfu':decide (af<=rm) = false:=decide_eq_false (by have h:=hfu; rw [HAF.out,HRM.out] at h; omega)
          clear hfu
          go_wp2_with fail
          refine CC.out.mono ?_
          rintro e wb ⟨he,Ob,Hb,stb,hob,hhb,kkb⟩
          obtain rfl:e = .returned (.iface 335 (.pointer (some (ad 17)))):=he
          have STb:=Lib.hid stb
          have Vb:=Lib.hid (ov_to Va.out kkb QN.out)
          have WASb:=Lib.hid (recs_kept WASa.out kkb GWN.out)
          obtain ⟨Sb,Db,hSb,_⟩:=stb.disk
          have CTb:=Lib.hid (counts_k Db)
          clear stb hob hhb kkb Db hSb CC
          have zx:((d.wr:Int) != (d.wr:Int)) = false:=bne_self_eq_false _
          have zy:((d.fl:Int) != (d.fl:Int)) = false:=bne_self_eq_false _
          have zv:((s.ver:Int) != (s.ver:Int)) = false:=bne_self_eq_false _
          go_wp2_with fail
          refine CTb.out.mono ?_
          rintro e wc ⟨rfl,qc⟩
          have STc:=Lib.hid (STb.out.qt qc)
          have Vc:=Lib.hid (ov_qt Vb.out qc)
          have WASc:=Lib.hid (recs_turn WASb.out qc)
          clear qc CTb
          obtain ⟨Sc,Dc,_,_⟩:=STc.out.disk
          have NU:=Lib.hid (show Calls Tryz.prog 21 #[.iface 335 (.pointer (some (ad 17)))] wc fun e w'=>e = .returned (.int .i64 17)/\Qt wc w' from num_any ad 17 wc Dc.errs (by decide))
          clear Dc
          go_wp2_with fail
          refine NU.out.mono ?_
          rintro e wd ⟨rfl,qd⟩
          have STd:=Lib.hid (STc.out.qt qd)
          have Vd:=Lib.hid (ov_qt Vc.out qd)
          have WASd:=Lib.hid (recs_turn WASc.out qd)
          clear qd NU
          have RMd:=Lib.hid (room_sto STd.out)
          rw [HRM.out] at RMd
          go_wp2_with fail
          refine RMd.out.mono ?_
          rintro e we ⟨rfl,qe⟩
          have STe:=Lib.hid (STd.out.qt qe)
          have Ve:=Lib.hid (ov_qt Vd.out qe)
          have WASe:=Lib.hid (recs_turn WASd.out qe)
          clear qe RMd
          have RWe:=Lib.hid (rows_sto STe.out)
          go_wp2_with fail
          refine RWe.out.mono ?_
          rintro e wf ⟨rv2,rfl,NF⟩
          obtain ⟨gf,hrf,_⟩:=newR_in NF (by have:=STe.out.most.1; omega)
          have STf:=Lib.hid (STe.out.qt NF.qt)
          have Vf:=Lib.hid (ov_qt Ve.out NF.qt)
          have SM:=Lib.hid (sameR12_yes hrf (recs_turn WASe.out NF.qt))
          clear NF hrf RWe
          go_wp2_with fail
          refine SM.out.mono ?_
          rintro e wg ⟨rfl,qg⟩
          have STg:=Lib.hid (STf.out.qt qg)
          have Vg:=Lib.hid (ov_qt Vf.out qg)
          clear qg SM
          have VE1:Calls Tryz.prog 25 #[.pointer (some ⟨p,0,none⟩)] wg fun e w'=>e = .returned (.int .i64 (s.ver:Int))/\w' = wg:=by
           have k:=version_sto STg.out
           exact k
          go_wp2_with fail
          refine VE1.mono ?_
          rintro e wv1 ⟨rfl,rfl⟩
          clear VE1
          have FN:=Lib.hid (show RfAt w1.heap.size ad w p b (64 + m) l (.int .i64 ((i:Int) + 1)) wv1 from ⟨i + 1,s,d,_,_,_,_,_,HLT.out,by push_cast; rfl,STg.out,LV.out,NB.out.1,NB.out.2.1,Nat.le_succ_of_le NB.out.2.2.1,NB.out.2.2.2.1,rfW_succ NB.out.2.2.2.2.1 (Nat.le_add_right _ _),rfF_succ NB.out.2.2.2.2.2.1 (Nat.le_add_right _ _),Vg.out⟩)
          go_wp2
          first | exact ⟨FN.out,HM.out⟩ | (rw [hw1]; exact ⟨FN.out,HM.out⟩)
         ·as_aux_lemma =>
          rw [ec] at CC
          have HNE:=Lib.hid (show 0 < ops.length from List.length_pos_iff.2 hne)
          have LV2:=Lib.hid L2
          have NB2:=Lib.hid (show d2'.dur.length = d.dur.length/\s2.rows = Bt.apply s.rows ops/\d2'.armed = -1/\d2'.cr = d.cr/\d2'.wr<=d.wr + 131073 from ⟨len2,r2,a2,c2,wr2⟩)
          clear ec hne L2 len2 r2 a2 c2 wr2
          go_wp2_with fail
          refine CC.out.mono ?_
          rintro e wb ⟨he,Ob,Hb,stb,hob,hhb,kkb⟩
          obtain rfl:e = .returned .nilIface:=he
          have STb:=Lib.hid stb
          have Vb:=Lib.hid (ov_to Va.out kkb QN.out)
          have WASb:=Lib.hid (recs_kept WASa.out kkb GWN.out)
          obtain ⟨Sb,Db,hSb,_⟩:=stb.disk
          have CTb:=Lib.hid (counts_k Db)
          clear stb hob hhb kkb Db hSb CC
          have zl:((ops.length:Int) == 0) = false:=by rw [beq_eq_false_iff_ne]; have:=HNE.out; omega
          have zl2:decide ((0:Int) < (ops.length:Int)) = true:=decide_eq_true (by have:=HNE.out; omega)
          have zl2':decide (0 < ops.length) = true:=decide_eq_true HNE.out
          have hbn:=fun (w:World)=>bool_neq false false w
          have SZ2:=Lib.hid (show So.size s2.rows = af from by rw [NB2.out.2.1]; exact HAF.out)
          have zaf:((af:Int) != (af:Int)) = false:=bne_self_eq_false _
          obtain ⟨F,hF⟩:∃ x,d.fl = x:=⟨_,rfl⟩
          obtain ⟨VV,hVV⟩:∃ x,s.ver = x:=⟨_,rfl⟩
          have HFV:=Lib.hid (show d.fl = F/\s.ver = VV from ⟨hF,hVV⟩)
          rw [hF,hVV] at hcase ⊢
          clear hF hVV
          have BV:=Lib.hid (show VV<=1048600/\F<=3145800 from ⟨by have:=NB.out.2.2; have:=HFV.out.2; omega,by have h:=rfF_most NB.out.2.2.2.2.2.1 (by have:=NB.out.2.2.2.2.2.2; omega); have:=HFV.out.1; omega⟩)
          rcases hcase with ⟨hf2,hv2⟩ | ⟨hf2,hv2⟩
          ·have HC2:=Lib.hid (show d2'.fl = F + 1/\s2.ver = VV + 0 from ⟨hf2,hv2⟩)
           clear hf2 hv2
           rw [HC2.out.1,show (((F + 1:Nat)):Int) = (F:Int) + 1 from by omega] at CTb
           have zf:(((F:Int) + 1) == (F:Int)) = false:=by rw [beq_eq_false_iff_ne]; omega
           have zs1:(F:Int) + 1 - (F:Int) = 1:=by omega
           have zs2:(VV:Int) - (VV:Int) = 0:=by omega
           have zv:decide ((VV:Int) + 1 < (VV:Int)) = false:=decide_eq_false (by omega)
           have zb1:wrap64 ((VV:Int) + 1) = (VV:Int) + 1:=by have:=BV.out; unfold wrap64; omega
           go_wp2_with fail
           refine CTb.out.mono ?_
           rintro e wc ⟨rfl,qc⟩
           have STc:=Lib.hid (STb.out.qt qc)
           have Vc:=Lib.hid (ov_qt Vb.out qc)
           have WASc:=Lib.hid (recs_turn WASb.out qc)
           clear qc CTb
           obtain ⟨Sc,Dc,_,_⟩:=STc.out.disk
           have NU:=Lib.hid (show Calls Tryz.prog 21 #[.nilIface] wc fun e w'=>e = .returned (.int .i64 0)/\Qt wc w' from num_any ad 0 wc Dc.errs (by decide))
           clear Dc
           go_wp2_with fail
           refine NU.out.mono ?_
           rintro e wd ⟨rfl,qd⟩
           have STd:=Lib.hid (STc.out.qt qd)
           have Vd:=Lib.hid (ov_qt Vc.out qd)
           have WASd:=Lib.hid (recs_turn WASc.out qd)
           clear qd NU
           have SZd:=Lib.hid (size_sto STd.out)
           rw [SZ2.out] at SZd
           go_wp2_with fail
           refine SZd.out.mono ?_
           rintro e we ⟨rfl,qe⟩
           have STe:=Lib.hid (STd.out.qt qe)
           have Ve:=Lib.hid (ov_qt Vd.out qe)
           clear qe SZd
           have VE1:Calls Tryz.prog 25 #[.pointer (some ⟨p,0,none⟩)] we fun e w'=>e = .returned (.int .i64 (VV:Int))/\w' = we:=by
            have k:=version_sto STe.out
            rw [HC2.out.2] at k
            exact k
           go_wp2_with fail
           refine VE1.mono ?_
           rintro e wv1 ⟨rfl,rfl⟩
           clear VE1
           have VE2:Calls Tryz.prog 25 #[.pointer (some ⟨p,0,none⟩)] wv1 fun e w'=>e = .returned (.int .i64 (VV:Int))/\w' = wv1:=by
            have k:=version_sto STe.out
            rw [HC2.out.2] at k
            exact k
           go_wp2_with fail
           refine VE2.mono ?_
           rintro e wv2 ⟨rfl,rfl⟩
           clear VE2
           have FN:=Lib.hid (show RfAt w1.heap.size ad w p b (64 + m) l (.int .i64 ((i:Int) + 1)) wv2 from ⟨i + 1,s2,d2',_,_,_,_,_,HLT.out,by push_cast; rfl,STe.out,LV2.out,NB2.out.2.2.1,by have:=NB2.out.1; have:=NB.out.2.1; omega,by have:=HC2.out.2; have:=HFV.out.2; have:=NB.out.2.2.1; omega,NB2.out.2.2.2.1.trans NB.out.2.2.2.1,rfW_succ NB.out.2.2.2.2.1 NB2.out.2.2.2.2,rfF_succ NB.out.2.2.2.2.2.1 (by have:=HC2.out.1; have:=HFV.out.1; omega),Ve.out⟩)
           go_wp2
           first | exact ⟨FN.out,HM.out⟩ | (rw [hw1]; exact ⟨FN.out,HM.out⟩)
          ·have HC2:=Lib.hid (show d2'.fl = F + 3/\s2.ver = VV + 1 from ⟨hf2,hv2⟩)
           clear hf2 hv2
           rw [HC2.out.1,show (((F + 3:Nat)):Int) = (F:Int) + 3 from by omega] at CTb
           have zf:(((F:Int) + 3) == (F:Int)) = false:=by rw [beq_eq_false_iff_ne]; omega
           have zs1:(F:Int) + 3 - (F:Int) = 3:=by omega
           have zs2:((VV:Int) + 1) - (VV:Int) = 1:=by omega
           have zv:decide ((VV:Int) + 1 < ((VV:Int) + 1)) = false:=decide_eq_false (by omega)
           have zb1:wrap64 ((VV:Int) + 1) = (VV:Int) + 1:=by have:=BV.out; unfold wrap64; omega
           go_wp2_with fail
           refine CTb.out.mono ?_
           rintro e wc ⟨rfl,qc⟩
           have STc:=Lib.hid (STb.out.qt qc)
           have Vc:=Lib.hid (ov_qt Vb.out qc)
           have WASc:=Lib.hid (recs_turn WASb.out qc)
           clear qc CTb
           obtain ⟨Sc,Dc,_,_⟩:=STc.out.disk
           have NU:=Lib.hid (show Calls Tryz.prog 21 #[.nilIface] wc fun e w'=>e = .returned (.int .i64 0)/\Qt wc w' from num_any ad 0 wc Dc.errs (by decide))
           clear Dc
           go_wp2_with fail
           refine NU.out.mono ?_
           rintro e wd ⟨rfl,qd⟩
           have STd:=Lib.hid (STc.out.qt qd)
           have Vd:=Lib.hid (ov_qt Vc.out qd)
           have WASd:=Lib.hid (recs_turn WASc.out qd)
           clear qd NU
           have SZd:=Lib.hid (size_sto STd.out)
           rw [SZ2.out] at SZd
           go_wp2_with fail
           refine SZd.out.mono ?_
           rintro e we ⟨rfl,qe⟩
           have STe:=Lib.hid (STd.out.qt qe)
           have Ve:=Lib.hid (ov_qt Vd.out qe)
           clear qe SZd
           have VE1:Calls Tryz.prog 25 #[.pointer (some ⟨p,0,none⟩)] we fun e w'=>e = .returned (.int .i64 ((VV:Int) + 1))/\w' = we:=by
            have k:=version_sto STe.out
            rw [HC2.out.2] at k
            rw [show (((VV + 1:Nat)):Int) = (VV:Int) + 1 from by omega] at k
            exact k
           go_wp2_with fail
           refine VE1.mono ?_
           rintro e wv1 ⟨rfl,rfl⟩
           clear VE1
           have VE2:Calls Tryz.prog 25 #[.pointer (some ⟨p,0,none⟩)] wv1 fun e w'=>e = .returned (.int .i64 ((VV:Int) + 1))/\w' = wv1:=by
            have k:=version_sto STe.out
            rw [HC2.out.2] at k
            rw [show (((VV + 1:Nat)):Int) = (VV:Int) + 1 from by omega] at k
            exact k
           go_wp2_with fail
           refine VE2.mono ?_
           rintro e wv2 ⟨rfl,rfl⟩
           clear VE2
           have FN:=Lib.hid (show RfAt w1.heap.size ad w p b (64 + m) l (.int .i64 ((i:Int) + 1)) wv2 from ⟨i + 1,s2,d2',_,_,_,_,_,HLT.out,by push_cast; rfl,STe.out,LV2.out,NB2.out.2.2.1,by have:=NB2.out.1; have:=NB.out.2.1; omega,by have:=HC2.out.2; have:=HFV.out.2; have:=NB.out.2.2.1; omega,NB2.out.2.2.2.1.trans NB.out.2.2.2.1,rfW_succ NB.out.2.2.2.2.1 NB2.out.2.2.2.2,rfF_succ NB.out.2.2.2.2.2.1 (by have:=HC2.out.1; have:=HFV.out.1; omega),Ve.out⟩)
           go_wp2
           first | exact ⟨FN.out,HM.out⟩ | (rw [hw1]; exact ⟨FN.out,HM.out⟩)
    ·obtain rfl:i = l.length:=by omega
     have zlt:decide ((l.length:Int) < (l.length:Int)) = false:=decide_eq_false (by omega)
     have zlt':decide (l.length < l.length) = false:=decide_eq_false (by omega)
     clear hst hlv hov harm hlen hver hcr hwr hfl hi hlt
     go_wp2
     go_ret
     exact ⟨rfl,QW.out⟩
end Go.Proofs.YthjjfjhajadimaaGreatDoor
namespace Go.Proofs.YthjjfjhajadimaaGreatDoor
open Go.ChangeShapes Go.WideShapes Go.ChangeAt Go.RowKit
set_option maxRecDepth 100000
theorem choose7 {α:Type} {Q:Nat->α->Prop}:∀ (n:Nat),(∀ k,k < n->∃ o,Q k o)->∃ os:List α,os.length = n/\∀ (k:Nat) (o:α),os[k]? = some o->Q k o
 | 0,_=>⟨[],rfl,fun k o h=>by simp at h⟩
 | n + 1,h=>by
  obtain ⟨os,hl,ho⟩:=choose7 n (fun k hk=>h k (by omega))
  obtain ⟨o,hq⟩:=h n (by omega)
  refine ⟨os ++ [o],by simp [hl],fun k o' hk=>?_⟩
  by_cases hkn:k < n
  ·rw [List.getElem?_append_left (by omega)] at hk
   exact ho k o' hk
  ·rw [List.getElem?_append_right (by omega)] at hk
   have hk0:k - os.length = 0:=by
    have:=(List.getElem?_eq_some_iff.1 hk).1
    simp at this
    omega
   rw [hk0] at hk
   simp at hk
   subst hk
   have:k = n:=by omega
   subst this
   exact hq
theorem open_recsQ {α H:Type} {Q:DataW H->Prop} {enc:TypeId × Value->H} {W:World} {T E:TypeId} {n:Nat} {f:α->List Value} {P:α->Prop} (hu:Tryz.prog.underlying T = some (.slice E)) (hn:Tryz.prog.cellsOf E = n) (hn0:0 < n) (hfl:∀ o,(f o).length = n)
  (hone:∀ (fuel:Nat) (cs:List Value) (x:DataW H × List MemPlace),DataW.trod enc Tryz.prog W 0 (fun _=>true) true fuel E cs = some x->Q x.1->∃ o,cs = f o/\P o)
  {fuel:Nat} {c:Value} {y:DataW H × List MemPlace} (h:DataW.trod enc Tryz.prog W 0 (fun _=>true) true fuel T [c] = some y) (hQ:∀ l spare,y.1 = .slice l spare->∀ d ∈ l,Q d) :
  ∃ (g off:Nat) (os:List α),(∀ (k:Nat) (o:α),os[k]? = some o->P o)/\(os.length<=17592186044416->Recs n f W c g off os)/\((y.1 = .nil/\os = [])\/∃ l spare,y.1 = .slice l spare/\l.length = os.length):=by
 rcases Go.Deep.open_slice hu h with ⟨hcs,hx⟩ | ⟨a,len,cap,m,n',D,Pl,hcs,_,hl,hm,hmc,hx,hel⟩
 ·simp at hcs
  subst hcs
  exact ⟨0,0,[],fun k o hk=>by simp at hk,fun _=>⟨⟨none,0,rfl,fun h=>absurd rfl h⟩,by simp,fun k o hk=>by simp at hk⟩,.inl ⟨by rw [hx],rfl⟩⟩
 ·simp at hcs
  subst hcs
  simp only [if_true] at hmc
  rw [hn] at hel
  obtain ⟨b,off,spot⟩:=a
  have hone':∀ k,k < len->∃ (p:α),W.cells? 0 ((⟨b,off,spot⟩:Addr).add (k * n)) n = some (f p)/\P p:=by
   intro k hk
   obtain ⟨cs',hcs',ht⟩:=hel k (by omega)
   obtain ⟨p,rfl,hP⟩:=hone _ _ _ ht (hQ _ _ (by rw [hx]) _ (List.mem_map.2 ⟨k,List.mem_range.2 hk,rfl⟩))
   exact ⟨p,hcs',hP⟩
  obtain ⟨ps,hol,hps⟩:=choose7 len hone'
  have hspot:ps ≠ []->spot = none:=by
   intro hne
   obtain ⟨p,r,rfl⟩:=List.exists_cons_of_ne_nil hne
   have h0:=(World.cells?_some (hps 0 p rfl).1).2.2 0 hn0
   obtain ⟨u,hu0⟩:∃ u,(f p)[0]? = some u:=⟨(f p)[0]'(by rw [hfl]; exact hn0),List.getElem?_eq_getElem _⟩
   rw [hu0] at h0
   simpa [Addr.add] using World.cell?_spot h0
  refine ⟨b,off,ps,fun k o hk=>(hps k o hk).2,fun hle=>⟨⟨some ⟨b,off,spot⟩,cap,by rw [hol],fun hne=>by rw [hspot hne]⟩,hle,fun k p hk j u hj=>?_⟩,.inr ⟨_,_,by rw [hx],by simp [hol]⟩⟩
  have hne:ps ≠ []:=by rintro rfl; simp at hk
  obtain rfl:=hspot hne
  have hj3:j < n:=by have:=(List.getElem?_eq_some_iff.1 hj).1; rw [hfl] at this; exact this
  have h0:=(World.cells?_some (hps k p hk).1).2.2 j hj3
  rw [add_plain,add_plain] at h0
  exact h0.trans hj
theorem open_recsD {α H:Type} {Q:DataW H->Prop} {R:α->DataW H->Prop} {enc:TypeId × Value->H} {W:World} {T E:TypeId} {n:Nat} {f:α->List Value} {P:α->Prop} (hu:Tryz.prog.underlying T = some (.slice E)) (hn:Tryz.prog.cellsOf E = n) (hn0:0 < n) (hfl:∀ o,(f o).length = n)
  (hone:∀ (fuel:Nat) (cs:List Value) (x:DataW H × List MemPlace),DataW.trod enc Tryz.prog W 0 (fun _=>true) true fuel E cs = some x->Q x.1->∃ o,cs = f o/\P o/\R o x.1)
  {fuel:Nat} {c:Value} {y:DataW H × List MemPlace} (h:DataW.trod enc Tryz.prog W 0 (fun _=>true) true fuel T [c] = some y) (hQ:∀ l spare,y.1 = .slice l spare->∀ d ∈ l,Q d) :
  ∃ (g off:Nat) (os:List α),(∀ (k:Nat) (o:α),os[k]? = some o->P o)/\(os.length<=17592186044416->Recs n f W c g off os)/\((y.1 = .nil/\os = [])\/∃ l spare,y.1 = .slice l spare/\l.length = os.length/\∀ (k:Nat) (o:α) (d:DataW H),os[k]? = some o->l[k]? = some d->R o d):=by
 rcases Go.Deep.open_slice hu h with ⟨hcs,hx⟩ | ⟨a,len,cap,m,n',D,Pl,hcs,_,hl,hm,hmc,hx,hel⟩
 ·simp at hcs
  subst hcs
  exact ⟨0,0,[],fun k o hk=>by simp at hk,fun _=>⟨⟨none,0,rfl,fun h=>absurd rfl h⟩,by simp,fun k o hk=>by simp at hk⟩,.inl ⟨by rw [hx],rfl⟩⟩
 ·simp at hcs
  subst hcs
  simp only [if_true] at hmc
  rw [hn] at hel
  obtain ⟨b,off,spot⟩:=a
  have hone':∀ k,k < len->∃ (p:α),W.cells? 0 ((⟨b,off,spot⟩:Addr).add (k * n)) n = some (f p)/\P p/\R p (D k):=by
   intro k hk
   obtain ⟨cs',hcs',ht⟩:=hel k (by omega)
   obtain ⟨p,rfl,hP,hR⟩:=hone _ _ _ ht (hQ _ _ (by rw [hx]) _ (List.mem_map.2 ⟨k,List.mem_range.2 hk,rfl⟩))
   exact ⟨p,hcs',hP,hR⟩
  obtain ⟨ps,hol,hps⟩:=choose7 len hone'
  have hspot:ps ≠ []->spot = none:=by
   intro hne
   obtain ⟨p,r,rfl⟩:=List.exists_cons_of_ne_nil hne
   have h0:=(World.cells?_some (hps 0 p rfl).1).2.2 0 hn0
   obtain ⟨u,hu0⟩:∃ u,(f p)[0]? = some u:=⟨(f p)[0]'(by rw [hfl]; exact hn0),List.getElem?_eq_getElem _⟩
   rw [hu0] at h0
   simpa [Addr.add] using World.cell?_spot h0
  refine ⟨b,off,ps,fun k o hk=>(hps k o hk).2.1,fun hle=>⟨⟨some ⟨b,off,spot⟩,cap,by rw [hol],fun hne=>by rw [hspot hne]⟩,hle,fun k p hk j u hj=>?_⟩,.inr ⟨_,_,by rw [hx],by simp [hol],fun k o d hk hd=>?_⟩⟩
  ·have hne:ps ≠ []:=by rintro rfl; simp at hk
   obtain rfl:=hspot hne
   have hj3:j < n:=by have:=(List.getElem?_eq_some_iff.1 hj).1; rw [hfl] at this; exact this
   have h0:=(World.cells?_some (hps k p hk).1).2.2 j hj3
   rw [add_plain,add_plain] at h0
   exact h0.trans hj
  ·have hk2:k < len:=by have:=(List.getElem?_eq_some_iff.1 hk).1; omega
   rw [List.getElem?_map,List.getElem?_range hk2] at hd
   have e:D k = d:=Option.some.inj hd
   exact e ▸ (hps k o hk).2.2
def Reach {H:Type} (t:TypeId) (d:DataW H):Prop:=∀ n ∈ d.weights Tryz.prog t,n<=reachBytes
theorem weights_all {H:Type} {P:Program} {e:TypeId}:∀ {l:List (DataW H)} {d:DataW H},d ∈ l->∀ n ∈ d.weights P e,n ∈ DataW.weightsAll P e l
 | [],_,h,_,_=>by cases h
 | x :: r,d,h,n,hn=>by
  simp only [DataW.weightsAll,List.mem_append]
  rcases List.mem_cons.1 h with rfl | h
  ·exact .inl hn
  ·exact .inr (weights_all h n hn)
theorem Reach.each {H:Type} {ts:List TypeId} {ds:List (DataW H)} (h:(DataW.weightsEach Tryz.prog ts ds).all (·<=reachBytes) = true) {j:Nat} {t:TypeId} {d:DataW H} (ht:ts[j]? = some t) (hd:ds[j]? = some d):Reach t d:=fun n hn=>by
 have:=List.all_eq_true.1 h _ (DataW.weights_mem_each ht hd n hn)
 simpa using this
theorem Reach.slice {H:Type} {t e:TypeId} {l spare:List (DataW H)} (hu:Tryz.prog.underlying t = some (.slice e)) (h:Reach t (.slice l spare)):l.length * Tryz.prog.bytesOf e<=reachBytes/\∀ d ∈ l,Reach e d:=by
 unfold Reach at h
 simp only [DataW.weights,hu,List.mem_cons,List.mem_append] at h
 refine ⟨?_,fun d hd n hn=>h n (.inr (.inl (weights_all hd n hn)))⟩
 have:=h _ (.inl rfl)
 have h2:=Nat.mul_le_mul_right (Tryz.prog.bytesOf e) (Nat.le_add_right l.length spare.length)
 omega
end Go.Proofs.YthjjfjhajadimaaGreatDoor
