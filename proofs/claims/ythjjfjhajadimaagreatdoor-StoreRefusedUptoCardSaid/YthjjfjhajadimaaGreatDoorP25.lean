/-
  Joined: JCodeS, JRepl, JCodeT, FewM.
-/
import Derived.Test.YthjjfjhajadimaaGreatDoorP24
import Derived.Test.YthjjfjhajadimaaGreatDoorP22
namespace Go.Proofs.YthjjfjhajadimaaGreatDoor
open Go.RowKit Go.WideShapes
set_option maxRecDepth 100000
def recJV:Option (List UInt8)->Value
 | none=>.tuple #[.string ⟨#[]⟩,.bool false]
 | some t=>.tuple #[.string ⟨t.toArray⟩,.bool true]
theorem prefix_yes {s p:List UInt8} (h:Lib.hasPrefix s p = true):s = p ++ s.drop p.length:=by
 obtain ⟨t,rfl⟩:=List.isPrefixOf_iff_prefix.1 h
 rw [List.drop_left]
theorem prefix_no {s p:List UInt8} (h:Lib.hasPrefix s p = false) (t:List UInt8):s ≠ p ++ t:=fun e=>by
 have:Lib.hasPrefix s p = true:=List.isPrefixOf_iff_prefix.2 ⟨t,e.symm⟩
 rw [h] at this; cases this
theorem cut_yes (P H:ByteArray) (w:World) (h:Lib.hasPrefix P.data.toList H.data.toList = true) :
  Calls Tryz.prog 242 #[.string P,.string H] w fun e w'=>e = .returned (.tuple #[.string ⟨(P.data.toList.drop H.data.toList.length).toArray⟩,.bool true])/\w' = w:=by
 have c:=Tryz.strings_CutPrefix P H w
 unfold Lib.trimPrefix at c
 rw [if_pos h,h] at c
 exact c
theorem cut_no (P H:ByteArray) (w:World) (h:Lib.hasPrefix P.data.toList H.data.toList = false) :
  Calls Tryz.prog 242 #[.string P,.string H] w fun e w'=>e = .returned (.tuple #[.string P,.bool false])/\w' = w:=by
 have c:=Tryz.strings_CutPrefix P H w
 unfold Lib.trimPrefix at c
 rw [if_neg (by rw [h]; simp),h] at c
 exact c
def RCAt (w:World) (s:Nat->Option (List UInt8)) (i z:Nat) (pv iv:Value) (wr:World):Prop :=
 ∃ (k:Nat) (o:List UInt8) (T:ByteArray),k<=J.cost z/\iv = .int .i64 k/\pv = .string T/\(k = 0->T = ⟨(J.payN s i).toArray⟩)/\J.Got s i z k o/\Lib.BuilderAt 121 5 w.heap.size w.heap.size (.pointer (some ⟨w.heap.size,0,none⟩)) (Lib.byteCells o) wr/\Below w.heap.size w wr
theorem costJ_bound {z n i:Nat} (h:J.cost z<=n - i) (hn:n<=65536):z<=15270118:=by
 have:=J.cost_le z
 have h1:=J.cost_pos z
 obtain ⟨c,hc⟩:∃ c,J.cost z = c + 1:=⟨J.cost z - 1,by omega⟩
 rw [hc] at this h
 have:z<=229 + 233 * c:=this
 omega
set_option maxHeartbeats 3200000 in
theorem jrecord_any (ad:Nat->Addr) {w:World} {b:Nat} {d:DS} {S:Nat->Prop} (hE:Errs ad w) (hT:Tab w) (h:DiskAt w b d S) (ho:d.off = false) (p n v i:Nat) (h1:1<=v) (h2:v<=1099511627776) (hn:p + n<=d.dur.length) (hi:i < n) :
  Calls Tryz.prog 206 #[placeV b p n v,.int .i64 i] w fun e w'=>e = .returned (recJV (J.rec (J.secs d p v) n i))/\Qt w w':=by
 have hl:d.dur.length<=65536:=by obtain ⟨gd,mb,uv,P,_⟩:=h; exact P.ok.le
 have PL:=Lib.hid (fun (k:Nat) (hk:i + k < n) (W:World) (q:Qt w W)=>(show Calls Tryz.prog 240 #[.agg #[.pointer (some ⟨b,0,none⟩),.int .i64 (p:Int),.int .i64 (n:Int),.int .i64 (v:Int)],.int .i64 ((i:Int) + (k:Int))] W fun e w'=>e = .returned (.string ⟨(J.payN (J.secs d p v) (i + k)).toArray⟩)/\Qt W w' from by
  have h:=jpayload_any ad (hE.kept q (OffErrs.none ad)) (hT.qt q) (DiskAt.qt h q) ho p n v (i + k) h1 h2 hn hk
  rw [Int.natCast_add] at h
  exact h))
 have hnb:n<=65536:=by omega
 clear h hE hT ho h1 h2 hn hl
 obtain ⟨WA,hWA,QA,hb⟩:=place_new w b p n v
 have HWA:=Lib.hid hWA
 have HQA:=Lib.hid QA
 have HB:=Lib.hid hb
 obtain ⟨d0,d1,d2,d3⟩:=place_cells hb
 generalize J.secs d p v = s at *
 have P0:=PL.out 0 hi WA QA
 rw [Nat.add_zero,Int.natCast_zero,Int.add_zero] at P0
 obtain ⟨X,hX,hXl⟩:∃ X:ByteArray,X = ⟨(J.payN s i).toArray⟩/\X.data.toList = J.payN s i:=⟨_,rfl,rfl⟩
 have hXs:X.size = (J.payN s i).length:=by rw [<- hXl]; simp
 rw [<- hX] at P0
 have SZ:=Lib.hid (fun W=>jsizeIn_any X W)
 rw [hXl] at SZ
 have wni:wrap64 ((n:Int) - (i:Int)) = (n:Int) - (i:Int):=by unfold wrap64; omega
 have HNB:=Lib.hid hnb
 have HIN:=Lib.hid hi
 by_cases h5:X.size < 5
 ·have FIN:=Lib.hid (show recJV (J.rec s n i) = .tuple #[.string ⟨#[]⟩,.bool false] by rw [J.rec_few (by rw [<- hXs]; exact h5)]; rfl)
  rw [if_pos h5,decide_eq_false (show ¬ 5<=X.size by omega)] at SZ
  clear hX hXl hXs h5 hWA QA hb hi hnb
  unfold placeV
  go_enter Tryz.func206,Tryz.ntmps206
  go_wp2_with fail
  rw [HWA.out]
  go_wp2_with fail
  refine P0.mono ?_
  rintro e w1 ⟨rfl,q1⟩
  have Q1:=Lib.hid q1
  clear q1 P0 d0 d1 d2 d3
  go_wp2_with fail
  refine (SZ.out _).mono ?_
  rintro e w2 ⟨rfl,q2⟩
  have Q2:=Lib.hid (Qt.trans HQA.out (Qt.trans Q1.out q2))
  clear q2
  go_wp2
  go_quiet (fail)
  go_wp2
  go_ret2
  exact ⟨FIN.out ▸ rfl,Keeps.drewN Q2.out _⟩
 ·rw [if_neg h5,decide_eq_true (show 5<=X.size by omega)] at SZ
  obtain ⟨z,hz⟩:∃ z,J.sizeOf (J.payN s i) = z:=⟨_,rfl⟩
  have hzl:z < 4294967296:=by rw [<- hz]; exact J.size_lt _
  rw [hz] at SZ
  have CO:=Lib.hid (fun W=>jcost_nat z (by omega) W)
  have hcp:=J.cost_pos z
  have hcb:J.cost z<=4294967297:=by unfold J.cost; split <;> omega
  by_cases hw:n < i + J.cost z
  ·have FIN:=Lib.hid (show recJV (J.rec s n i) = .tuple #[.string ⟨#[]⟩,.bool false] by rw [J.rec_wide (by rw [hz]; exact hw)]; rfl)
   have zw:decide ((n:Int) - (i:Int) < ((J.cost z:Nat):Int)) = true:=decide_eq_true (by omega)
   generalize J.cost z = C at *
   clear hX hXl hXs h5 hWA QA hb hi hnb hz hzl hcp hcb hw
   unfold placeV
   go_enter Tryz.func206,Tryz.ntmps206
   go_wp2_with fail
   rw [HWA.out]
   go_wp2_with fail
   refine P0.mono ?_
   rintro e w1 ⟨rfl,q1⟩
   have Q1:=Lib.hid q1
   clear q1 P0 d0 d1 d2 d3
   go_wp2_with fail
   refine (SZ.out _).mono ?_
   rintro e w2 ⟨rfl,q2⟩
   have Q12:=Qt.trans Q1.out q2
   obtain ⟨x0,x1,x2,x3⟩:=place_cells (place_qt HB.out Q12)
   have Q2:=Lib.hid (Qt.trans HQA.out Q12)
   clear q2 Q12
   go_wp2
   go_quiet ((go_at_call 193; with_reducible exact Calls.quiet_of_same (CO.out _)))
   go_wp2
   go_ret2
   exact ⟨FIN.out ▸ rfl,Keeps.drewN Q2.out _⟩
  ·have zw:decide ((n:Int) - (i:Int) < ((J.cost z:Nat):Int)) = false:=decide_eq_false (by omega)
   have hzb:=costJ_bound (z:=z) (n:=n) (i:=i) (by omega) hnb
   obtain ⟨C,hC⟩:∃ C,J.cost z = C:=⟨_,rfl⟩
   have HC:=Lib.hid hC
   have HCN:=Lib.hid (show i + C<=n by omega)
   have HZB:=Lib.hid hzb
   have HZ:=Lib.hid hz
   have HZL:=Lib.hid hzl
   have HX:=Lib.hid hX
   have FAL:=Lib.hid (fun (k:Nat) (hk:k < C) (hbad:∀ t,t.length = J.upto z k - J.ends k->J.payN s (i + k) ≠ J.headZ z k ++ t)=>(show recJV (J.rec s n i) = .tuple #[.string ⟨#[]⟩,.bool false] by rw [J.rec_other hz (by rw [hC]; exact hk) hbad]; rfl))
   rw [hC] at CO zw
   clear hX hXl hXs h5 hWA QA hb hi hnb hz hzl hcp hcb hw hC hzb
   unfold placeV
   go_enter Tryz.func206,Tryz.ntmps206
   go_wp2_with fail
   rw [HWA.out]
   go_wp2_with fail
   refine P0.mono ?_
   rintro e w1 ⟨rfl,q1⟩
   have Q1:=Lib.hid q1
   clear q1 P0 d0 d1 d2 d3
   go_wp2_with fail
   refine (SZ.out _).mono ?_
   rintro e w2 ⟨rfl,q2⟩
   have Q12:=Qt.trans Q1.out q2
   obtain ⟨x0,x1,x2,x3⟩:=place_cells (place_qt HB.out Q12)
   have Q2:=Lib.hid Q12
   clear q2 Q12
   go_wp2
   go_quiet ((go_at_call 193; with_reducible exact Calls.quiet_of_same (CO.out _)))
   clear x0 x1 x2 x3 zw wni
   obtain ⟨w3,hw3⟩:∃ W,w2.drewN nq = W:=⟨_,rfl⟩
   rw [hw3]
   have Q3:=Lib.hid (show Qt WA w3 from hw3 ▸ Keeps.drewN Q2.out nq)
   clear hw3
   have HBK:=Lib.hid (heap_alloc_new w3 (.cells #[.pointer none,.slice none 0 0] 121))
   have BB0:=Lib.hid ((Below.refl w3.heap.size w3).alloc (Nat.le_refl _) (.cells #[.pointer none,.slice none 0 0] 121))
   go_wp2_with fail
   refine (Tryz.Builder_Grow_fresh w3.heap.size w3.heap.size z _ (Nat.le_refl _) HBK.out (by simp) (Nat.le_trans HZB.out (by decide))).mono ?_
   rintro e w4 ⟨rfl,hb1,hB1⟩
   have HB1:=Lib.hid hb1
   have HB2:=Lib.hid (BB0.out.trans hB1)
   clear hb1 hB1
   go_wp2_with fail
   refine (CO.out _).mono ?_
   rintro e w5 ⟨rfl,rfl⟩
   go_wp2
   go_loopw [6,38] (fun pv iv wr=>RCAt w3 s i z pv iv wr) (fun _ iv _=>C - (intOf iv).toNat)
   case atStart=>exact ⟨0,[],X,Nat.zero_le _,rfl,rfl,fun _=>HX.out,J.Got.none s i z,HB1.out,HB2.out⟩
   case round =>
    obtain ⟨k,o,T,hk,rfl,rfl,hT0,hgot,hbr,hBr⟩:=hrel
    have hQ:=Qt.of_below hBr
    have HQ:=Lib.hid (Qt.trans Q3.out hQ)
    rw [HC.out] at hk
    by_cases hlt:k < C
    ·have hkb:k<=65536:=sj_kb hlt HCN.out HNB.out
     have BN:=Lib.hid (jbounds_any z k hkb)
     have HD:=Lib.hid (fun W=>jhead_any z k (sj_u64 (Nat.le_trans HZB.out (by decide))) W)
     have hue:=J.upto_ge (z:=z) (k:=k) (by rw [HC.out]; exact hlt)
     have hul:=J.upto_le z k
     obtain ⟨P,hP,hPl⟩:∃ P:ByteArray,P = ⟨(J.payN s (i + k)).toArray⟩/\P.data.toList = J.payN s (i + k):=⟨_,rfl,rfl⟩
     obtain ⟨H,hH,hHl⟩:∃ H:ByteArray,H = ⟨(J.headZ z k).toArray⟩/\H.data.toList = J.headZ z k:=⟨_,rfl,rfl⟩
     have zlt:=sj_lt hlt
     have zlt':decide (k < C) = true:=decide_eq_true hlt
     have hk1:=sj_w1 hkb
     have hki:=sj_w2 (sj_ib HCN.out HNB.out) hkb
     have wue:=sj_sub hue hul (Nat.le_trans HZB.out (by decide))
     have PK:=PL.out k (sj_room hlt HCN.out) wr (Qt.trans HQA.out HQ.out)
     rw [<- hP] at PK
     rw [<- hH] at HD
     have hol:=sj_ol hgot.len
     have MORE:=Lib.hid (fun (t:List UInt8) (ht:J.payN s (i + k) = J.headZ z k ++ t) (hl:t.length = J.upto z k - J.ends k)=>hgot.more (by rw [HC.out]; exact hlt) (J.got_first ht) hl)
     have HLT:=Lib.hid hlt
     have HBR:=Lib.hid hbr
     have HBW:=Lib.hid hBr
     have HT0:=Lib.hid hT0
     have HPP:=Lib.hid hP
     have HXX:=Lib.hid (show ∀ k0:k = 0,T = P from fun k0=>by rw [hT0 k0,hP,k0,Nat.add_zero])
     obtain ⟨x0,x1,x2,x3⟩:=place_cells (place_qt HB.out HQ.out)
     have FALk:=Lib.hid (FAL.out k hlt)
     by_cases hk0:k = 0
     ·have e0:=(HXX.out hk0).symm
      subst e0
      obtain ⟨zk0,zk0'⟩:=sj_pos0 hk0
      clear hk0
      cases hp:Lib.hasPrefix P.data.toList H.data.toList with
      | false =>
       have CU:=Lib.hid (fun W=>cut_no P H W hp)
       have FN:=Lib.hid (FALk.out (fun t _=>by rw [hPl,hHl] at hp; exact prefix_no hp t))
       clear hp
       clear hPl hHl hH hol hue hul hkb hlt hk hT0 hgot hbr hBr hQ hP
       have Q6:=Lib.hid (Qt.refl wr)
       clear x0 x1 x2 x3 PK
       go_wp2_with fail
       refine (BN.out _).mono ?_
       rintro e5 w7 ⟨rfl,rfl⟩
       go_wp2_with fail
       refine (HD.out _).mono ?_
       rintro e6 w8 ⟨rfl,q8⟩
       have Q8:=Lib.hid (Qt.trans Q6.out q8)
       clear q8
       go_wp2_with fail
       refine (CU.out _).mono ?_
       rintro e7 w9 ⟨rfl,rfl⟩
       have FQ:=Lib.hid (Qt.trans HQA.out (Qt.trans HQ.out Q8.out))
       go_wp2
       go_ret2
       exact ⟨FN.out ▸ rfl,FQ.out⟩
      | true =>
       have CU:=Lib.hid (fun W=>cut_yes P H W hp)
       have hpt:=prefix_yes hp
       rw [hPl,hHl] at hpt
       rw [hHl,hPl] at CU
       obtain ⟨t,ht⟩:∃ t,(J.payN s (i + k)).drop (J.headZ z k).length = t:=⟨_,rfl⟩
       rw [ht] at hpt CU
       obtain ⟨Y,hY,hYl⟩:∃ Y:ByteArray,Y = ⟨t.toArray⟩/\Y.data.toList = t:=⟨_,rfl,rfl⟩
       have hYs:Y.size = t.length:=by rw [<- hYl]; simp
       rw [<- hY] at CU
       by_cases hlen:t.length = J.upto z k - J.ends k
       ·have zp:=sj_ne (hYs.trans hlen)
        have GOT:=Lib.hid (MORE.out t hpt hlen)
        have hbd:(Lib.byteCells o).length + Y.size<=140737488355328:=by rw [Lib.byteCells_length]; exact sj_bd hol (hYs.trans hlen) hul (Nat.le_trans HZB.out (by decide))
        have HY:=Lib.hid (show Lib.byteCells o ++ Lib.strCells Y = Lib.byteCells (o ++ t) by rw [Lib.byteCells_append,<- hYl]; rfl)
        clear hp hpt ht hY hYl hYs hlen
        clear hPl hHl hH hol hue hul hkb hlt hk hT0 hgot hbr hBr hQ hP
        have Q6:=Lib.hid (Qt.refl wr)
        clear x0 x1 x2 x3 PK
        go_wp2_with fail
        refine (BN.out _).mono ?_
        rintro e5 w7 ⟨rfl,rfl⟩
        go_wp2_with fail
        refine (HD.out _).mono ?_
        rintro e6 w8 ⟨rfl,q8⟩
        have Q8:=Lib.hid (Qt.trans Q6.out q8)
        clear q8
        go_wp2_with fail
        refine (CU.out _).mono ?_
        rintro e7 w9 ⟨rfl,rfl⟩
        have BD:=Lib.hid (HBW.out.trans (Keeps.below Q8.out HBW.out.size (fun _ _ e=>e.elim)))
        have TD:=Lib.hid (builder_qt HBR.out Q8.out)
        go_wp2_with fail
        refine (bwriteS_any w3.heap.size w3.heap.size (Lib.byteCells o) Y _ TD.out hbd BD.out.size).mono ?_
        rintro e8 wz ⟨rfl,hb8,hB8⟩
        rw [HY.out] at hb8
        have FN:=Lib.hid (show RCAt w3 s i z (.string P) (.int .i64 ((k:Int) + 1)) wz from ⟨k + 1,_,_,by rw [HC.out]; exact HLT.out,rfl,rfl,fun e=>absurd e (Nat.succ_ne_zero k),GOT.out,hb8,BD.out.trans hB8⟩)
        clear hb8 hB8
        go_wp2
        rw [hk1]
        exact ⟨FN.out,sj_meas HLT.out⟩
       ·have zp:=sj_ne' (fun e=>hlen (hYs.symm.trans e))
        have FN:=Lib.hid (FALk.out (fun t2 ht2 e=>hlen (by rw [hpt] at e; rw [List.append_cancel_left e]; exact ht2)))
        clear hp hpt ht hY hYl hYs hlen
        clear hPl hHl hH hol hue hul hkb hlt hk hT0 hgot hbr hBr hQ hP
        have Q6:=Lib.hid (Qt.refl wr)
        clear x0 x1 x2 x3 PK
        go_wp2_with fail
        refine (BN.out _).mono ?_
        rintro e5 w7 ⟨rfl,rfl⟩
        go_wp2_with fail
        refine (HD.out _).mono ?_
        rintro e6 w8 ⟨rfl,q8⟩
        have Q8:=Lib.hid (Qt.trans Q6.out q8)
        clear q8
        go_wp2_with fail
        refine (CU.out _).mono ?_
        rintro e7 w9 ⟨rfl,rfl⟩
        have FQ:=Lib.hid (Qt.trans HQA.out (Qt.trans HQ.out Q8.out))
        go_wp2
        go_ret2
        exact ⟨FN.out ▸ rfl,FQ.out⟩
     ·obtain ⟨zk0,zk0'⟩:=sj_pos1 hk0
      clear hk0
      cases hp:Lib.hasPrefix P.data.toList H.data.toList with
      | false =>
       have CU:=Lib.hid (fun W=>cut_no P H W hp)
       have FN:=Lib.hid (FALk.out (fun t _=>by rw [hPl,hHl] at hp; exact prefix_no hp t))
       clear hp
       clear hPl hHl hH hol hue hul hkb hlt hk hT0 hgot hbr hBr hQ hP
       go_wp2_with fail
       refine PK.mono ?_
       rintro e4 w6 ⟨rfl,q6⟩
       have Q6:=Lib.hid q6
       clear q6 PK x0 x1 x2 x3
       go_wp2_with fail
       refine (BN.out _).mono ?_
       rintro e5 w7 ⟨rfl,rfl⟩
       go_wp2_with fail
       refine (HD.out _).mono ?_
       rintro e6 w8 ⟨rfl,q8⟩
       have Q8:=Lib.hid (Qt.trans Q6.out q8)
       clear q8
       go_wp2_with fail
       refine (CU.out _).mono ?_
       rintro e7 w9 ⟨rfl,rfl⟩
       have FQ:=Lib.hid (Qt.trans HQA.out (Qt.trans HQ.out Q8.out))
       go_wp2
       go_ret2
       exact ⟨FN.out ▸ rfl,FQ.out⟩
      | true =>
       have CU:=Lib.hid (fun W=>cut_yes P H W hp)
       have hpt:=prefix_yes hp
       rw [hPl,hHl] at hpt
       rw [hHl,hPl] at CU
       obtain ⟨t,ht⟩:∃ t,(J.payN s (i + k)).drop (J.headZ z k).length = t:=⟨_,rfl⟩
       rw [ht] at hpt CU
       obtain ⟨Y,hY,hYl⟩:∃ Y:ByteArray,Y = ⟨t.toArray⟩/\Y.data.toList = t:=⟨_,rfl,rfl⟩
       have hYs:Y.size = t.length:=by rw [<- hYl]; simp
       rw [<- hY] at CU
       by_cases hlen:t.length = J.upto z k - J.ends k
       ·have zp:=sj_ne (hYs.trans hlen)
        have GOT:=Lib.hid (MORE.out t hpt hlen)
        have hbd:(Lib.byteCells o).length + Y.size<=140737488355328:=by rw [Lib.byteCells_length]; exact sj_bd hol (hYs.trans hlen) hul (Nat.le_trans HZB.out (by decide))
        have HY:=Lib.hid (show Lib.byteCells o ++ Lib.strCells Y = Lib.byteCells (o ++ t) by rw [Lib.byteCells_append,<- hYl]; rfl)
        clear hp hpt ht hY hYl hYs hlen
        clear hPl hHl hH hol hue hul hkb hlt hk hT0 hgot hbr hBr hQ hP
        go_wp2_with fail
        refine PK.mono ?_
        rintro e4 w6 ⟨rfl,q6⟩
        have Q6:=Lib.hid q6
        clear q6 PK x0 x1 x2 x3
        go_wp2_with fail
        refine (BN.out _).mono ?_
        rintro e5 w7 ⟨rfl,rfl⟩
        go_wp2_with fail
        refine (HD.out _).mono ?_
        rintro e6 w8 ⟨rfl,q8⟩
        have Q8:=Lib.hid (Qt.trans Q6.out q8)
        clear q8
        go_wp2_with fail
        refine (CU.out _).mono ?_
        rintro e7 w9 ⟨rfl,rfl⟩
        have BD:=Lib.hid (HBW.out.trans (Keeps.below Q8.out HBW.out.size (fun _ _ e=>e.elim)))
        have TD:=Lib.hid (builder_qt HBR.out Q8.out)
        go_wp2_with fail
        refine (bwriteS_any w3.heap.size w3.heap.size (Lib.byteCells o) Y _ TD.out hbd BD.out.size).mono ?_
        rintro e8 wz ⟨rfl,hb8,hB8⟩
        rw [HY.out] at hb8
        have FN:=Lib.hid (show RCAt w3 s i z (.string P) (.int .i64 ((k:Int) + 1)) wz from ⟨k + 1,_,_,by rw [HC.out]; exact HLT.out,rfl,rfl,fun e=>absurd e (Nat.succ_ne_zero k),GOT.out,hb8,BD.out.trans hB8⟩)
        clear hb8 hB8
        go_wp2
        rw [hk1]
        exact ⟨FN.out,sj_meas HLT.out⟩
       ·have zp:=sj_ne' (fun e=>hlen (hYs.symm.trans e))
        have FN:=Lib.hid (FALk.out (fun t2 ht2 e=>hlen (by rw [hpt] at e; rw [List.append_cancel_left e]; exact ht2)))
        clear hp hpt ht hY hYl hYs hlen
        clear hPl hHl hH hol hue hul hkb hlt hk hT0 hgot hbr hBr hQ hP
        go_wp2_with fail
        refine PK.mono ?_
        rintro e4 w6 ⟨rfl,q6⟩
        have Q6:=Lib.hid q6
        clear q6 PK x0 x1 x2 x3
        go_wp2_with fail
        refine (BN.out _).mono ?_
        rintro e5 w7 ⟨rfl,rfl⟩
        go_wp2_with fail
        refine (HD.out _).mono ?_
        rintro e6 w8 ⟨rfl,q8⟩
        have Q8:=Lib.hid (Qt.trans Q6.out q8)
        clear q8
        go_wp2_with fail
        refine (CU.out _).mono ?_
        rintro e7 w9 ⟨rfl,rfl⟩
        have FQ:=Lib.hid (Qt.trans HQA.out (Qt.trans HQ.out Q8.out))
        go_wp2
        go_ret2
        exact ⟨FN.out ▸ rfl,FQ.out⟩
    ·obtain rfl:=sj_eq hk hlt
     have zlt:=sj_ge (Nat.le_refl k)
     have FN:=Lib.hid (show recJV (J.rec s n i) = .tuple #[.string ⟨o.toArray⟩,.bool true] by
      have:=(J.Got.all (n:=n) (HC.out ▸ hgot) HZL.out (by rw [HC.out]; exact HCN.out)).2
      rw [this]; rfl)
     have HS:=Lib.hid (Tryz.Builder_String_any w3.heap.size w3.heap.size _ wr (.inr hbr) hBr.size)
     have HBR:=Lib.hid hBr
     clear hbr hBr hlt hgot hk hQ hT0
     go_wp2_with fail
     refine HS.out.mono ?_
     rintro e wz ⟨rfl,hB2⟩
     have Q2':=Lib.hid (Qt.trans HQA.out (Qt.trans Q3.out (Qt.of_below (HBR.out.trans hB2))))
     clear hB2
     go_wp2
     go_ret2
     exact ⟨FN.out ▸ rfl,Q2'.out⟩
end Go.Proofs.YthjjfjhajadimaaGreatDoor
namespace Go.Proofs.YthjjfjhajadimaaGreatDoor
open Go.RowKit
set_option maxRecDepth 100000
def TextsIn (W:World) (v:Value) (l:List (List UInt8)):Prop:=∃ g off c,(v = .slice (some ⟨g,off,none⟩) l.length c\/(v = .slice none l.length c/\l = []))/\∀ (k:Nat) (t:List UInt8),l[k]? = some t->W.cell? ⟨g,off + k,none⟩ = some (strV t)
theorem NewT.texts {w wr:World} {v:Value} {l:List (List UInt8)} (h:NewT w wr v l):TextsIn wr v l:=by
 rcases h.own.2 with ⟨e,h0⟩ | ⟨g,cap,cur,e,_⟩
 ·have h1:l = []:=List.length_eq_zero_iff.1 h0
  subst h1
  exact ⟨0,0,0,.inr ⟨e,rfl⟩,fun k t hk=>by simp at hk⟩
 ·subst e
  refine ⟨g,0,cap,.inl rfl,fun k t hk=>?_⟩
  obtain ⟨g',e,hc⟩:=newT_cell h hk
  injection e with e
  injection e with e
  rw [Nat.zero_add,e]
  exact hc
def ReplayJ (ad:Nat->Addr) (w:World) (r:List (List UInt8) × Nat) (e:Ending) (w':World):Prop:=∃ l,e = .returned (.tuple #[l,errV ad r.2])/\NewT w w' l r.1
end Go.Proofs.YthjjfjhajadimaaGreatDoor
namespace Go.Proofs.YthjjfjhajadimaaGreatDoor
open Go.RowKit Go.WideShapes
set_option maxRecDepth 100000
theorem NewT.base {w WA W:World} {v:Value} {l:List (List UInt8)} (q:Qt w WA) (h:NewT WA W v l):NewT w W v l:=⟨h.own,fun g hg=>Nat.le_trans q.size (h.new g hg),Qt.trans q h.qt⟩
theorem replayJ_of {ad:Nat->Addr} {w WA W:World} {v:Value} {r:List (List UInt8) × Nat} {l:List (List UInt8)} (q:Qt w WA) (h:NewT WA W v l) (hr:r = (l,0)):ReplayJ ad w r (.returned (.tuple #[v,.nilIface])) W:=by
 subst hr
 exact ⟨v,rfl,h.base q⟩
set_option maxHeartbeats 3200000 in
theorem jreplay_any (ad:Nat->Addr) {w:World} {b:Nat} {d:DS} {S:Nat->Prop} (hE:Errs ad w) (hT:Tab w) (h:DiskAt w b d S) (i n v:Int) (hn:n<=9223372036854775807) :
  Calls Tryz.prog 148 #[.pointer (some ⟨b,0,none⟩),.int .i64 i,.int .i64 n,.int .i64 v] w (ReplayJ ad w (J.replay d i n v)):=by
 have RF:=Lib.hid (fun W (q:Qt w W)=>(show Calls Tryz.prog 184 #[.agg #[.pointer (some ⟨b,0,none⟩),.int .i64 i,.int .i64 n,.int .i64 v]] W fun e w'=>e = .returned (errV ad (J.refE d i n v))/\Qt W w' from
  jrefuse_any ad (hE.kept q (OffErrs.none ad)) (DiskAt.qt h q) i n v hn))
 by_cases hr:J.refE d i n v = 0
 ·have hm:J.may d i n v/\d.off = false:=by
   unfold J.refE at hr
   split at hr
   ·omega
   ·split at hr
    ·omega
    ·rename_i h1 h2
     exact ⟨Decidable.not_not.1 h1,by simpa using h2⟩
  obtain ⟨hmay,ho⟩:=hm
  obtain ⟨i,n,v,rfl,rfl,rfl,hin,hnb,h1,h2⟩:=may_yes hmay
  rw [hr,errV_zero] at RF
  have FIN:=Lib.hid (replay_yes hr)
  obtain ⟨WA,hWA,QA,hb⟩:=place_new w b i n v
  have HWA:=Lib.hid hWA
  have HQA:=Lib.hid QA
  have HB:=Lib.hid hb
  obtain ⟨d0,d1,d2,d3⟩:=place_cells hb
  have RC:=Lib.hid (fun (p:Nat) (hp:p < n) (W:World) (q:Qt WA W)=>(show Calls Tryz.prog 206 #[.agg #[.pointer (some ⟨b,0,none⟩),.int .i64 (i:Int),.int .i64 (n:Int),.int .i64 (v:Int)],.int .i64 (p:Int)] W fun e w'=>e = .returned (recJV (J.rec (J.secs d i v) n p))/\Qt W w' from
   jrecord_any ad (hE.kept (Qt.trans QA q) (OffErrs.none ad)) (hT.qt (Qt.trans QA q)) (DiskAt.qt h (Qt.trans QA q)) ho i n v p h1 h2 hin hp))
  have HNB:=Lib.hid hnb
  have R1:=RF.out WA QA
  obtain ⟨i0,hi0,hz0,hz1,hz2⟩:=info_parts infoStrT
  clear hE hT h hr hmay ho hin hnb h1 h2 hWA QA hb hn
  generalize J.secs d i v = s at *
  go_enter Tryz.func148,Tryz.ntmps148
  go_wp2_with fail
  rw [HWA.out]
  refine R1.mono ?_
  rintro e w1 ⟨rfl,q1⟩
  have HQ1:=Lib.hid q1
  have START:=Lib.hid (show RLAt WA s n (.slice none 0 0) (.int .i64 0) w1 from ⟨0,[],Nat.zero_le _,rfl,NewT.nil q1,rfl,Nat.le_refl _⟩)
  clear q1 d0 d1 d2 d3 R1
  go_wp2
  go_loopw [12,13] (fun ov iv wr=>RLAt WA s n ov iv wr) (fun _ iv _=>n - (intOf iv).toNat)
  case atStart=>exact START.out
  case round =>
   obtain ⟨p,out,hp,rfl,hN,hl,hol⟩:=hrel
   obtain ⟨oa,oc,rfl⟩:=hN.shape
   have HN:=Lib.hid hN
   by_cases hlt:p < n
   ·have zlt:=sj_lt hlt
    have zlt':decide (p < n) = true:=decide_eq_true hlt
    obtain ⟨x0,x1,x2,x3⟩:=place_cells (place_qt HB.out hN.qt)
    have R2:=RC.out p hlt wr hN.qt
    cases hrec:J.rec s n p with
    | none =>
     rw [hrec] at R2
     have HO:=Lib.hid (show out = J.logAll s n by rw [<- hl,J.log_stop hrec,List.append_nil])
     clear hN hl hol hlt hp hrec
     unfold recJV at R2
     go_wp2_with fail
     refine R2.mono ?_
     rintro e w2 ⟨rfl,q2⟩
     have N2:=Lib.hid (HN.out.quiet q2)
     clear q2 R2 x0 x1 x2 x3
     go_wp2
     go_ret2
     exact replayJ_of HQA.out N2.out (by rw [FIN.out,HO.out])
    | some t =>
     rw [hrec] at R2
     obtain ⟨V,hV,hVs⟩:∃ V:ByteArray,strV t = .string V/\V.size = t.length:=⟨⟨t.toArray⟩,rfl,by simp [ByteArray.size]⟩
     have hroom:=(J.rec_whole hrec).room
     have hcp:=J.cost_pos t.length
     obtain ⟨C,hC⟩:∃ C,J.cost t.length = C:=⟨_,rfl⟩
     have CO:=Lib.hid (show ∀ W,Calls Tryz.prog 193 #[.int .i64 (V.size:Int)] W fun e w'=>e = .returned (.int .i64 (C:Int))/\w' = W from fun W=>by
      have h:=jcost_nat t.length (by have:=(J.rec_whole hrec).small; omega) W
      rw [hC,<- hVs] at h
      exact h)
     have R3:=Lib.hid (show Calls Tryz.prog 206 #[.agg #[.pointer (some ⟨b,0,none⟩),.int .i64 (i:Int),.int .i64 (n:Int),.int .i64 (v:Int)],.int .i64 (p:Int)] wr fun e w'=>e = .returned (.tuple #[.string V,.bool true])/\Qt wr w' from by
      have h:=R2
      unfold recJV at h
      have e:(⟨t.toArray⟩:ByteArray) = V:=by have:=hV; unfold strV at this; injection this
      simp only [e] at h
      exact h)
     rw [hC] at hroom hcp
     have wpc:=sj_w2b (i:=p) (k:=C) (Nat.le_trans hp HNB.out) (by have:=HNB.out; omega)
     have HME:=Lib.hid (show n - (intOf (.int .i64 ((p:Int) + (C:Int)))).toNat < n - (intOf (.int .i64 (p:Int))).toNat by rw [<- Int.natCast_add]; exact sj_meas2 (n:=n) (m:=p + C) hlt (by omega))
     have NX:=Lib.hid (fun (w2 w3:World) (v':Value) (k:Qt wr w2) (hown:w3.ownsRow 0 9 1 v' (out.length + 1) (out.map strV ++ [.string V])) (hg:w2.grownBy w3 (Value.slice oa out.length oc).ownBlock) (hl2:Later w2 (Value.slice oa out.length oc).ownBlock v'.ownBlock)=>(show RLAt WA s n v' (.int .i64 ((p:Int) + (C:Int))) w3 from by
      rw [<- hC,<- Int.natCast_add]
      exact RLAt.more hl hrec hol hN k (by rw [hV]; exact hown) hg hl2))
     have hb1:out.length + 1<=maxLen:=by have:=HNB.out; unfold maxLen; omega
     have hb2:(out.length + 1) * 16<=140737488355328:=by have:=HNB.out; omega
     clear R2 hrec hN hl hol hlt hp hV hVs hC hroom hcp
     go_wp2_with fail
     refine R3.out.mono ?_
     rintro e4 w5 ⟨rfl,q5⟩
     have N5:=Lib.hid (HN.out.quiet q5)
     have HQA:=Lib.hid (fun o=>Keeps.alloc q5 o)
     have HOW:=Lib.hid (fun o=>ownsRow_kept N5.out.own ((Keeps.refl (fun _=>False) w5).alloc o) (fun _ _ h=>h))
     clear q5 x0 x1 x2 x3
     go_wp2_with (at_builtin; refine wpList_append_cells0 _ rfl _ _ 49 rfl 9 i0 (.string ⟨#[]⟩) 1 16 Tryz.underlying49 hi0 hz0 hz1 hz2 rfl (by decide) _ out.length _ rfl (HOW.out _) ⟨w5.heap.size,0,none⟩ 1 1 [.string V] rfl rfl ?c1 ?c2 hb1 hb2 ?_)
     case c1=>exact newsT w5 _
     case c2=>intro x hx; simp at hx; subst hx; rfl
     intro v' w7 own7 hg hl7 _
     have FN:=Lib.hid (NX.out _ w7 v' (HQA.out _) own7 hg hl7)
     clear own7 hg hl7
     go_wp2_with fail
     refine (CO.out _).mono ?_
     rintro e8 w8 ⟨rfl,rfl⟩
     go_wp2
     rw [wpc]
     exact ⟨FN.out,HME.out⟩
   ·obtain rfl:=sj_eq hp hlt
    have zlt:=sj_ge (Nat.le_refl p)
    have HO:=Lib.hid (show out = J.logAll s p by rw [<- hl,J.log_end (Nat.le_refl _),List.append_nil])
    clear hN hl hol hlt hp
    go_wp2
    go_ret2
    exact replayJ_of HQA.out HN.out (by rw [FIN.out,HO.out])
 ·have FIN:=Lib.hid (replay_no (u:=d) (i:=i) (n:=n) (v:=v) rfl hr)
  rw [errV_pos ad (Nat.pos_of_ne_zero hr)] at RF
  have EV:=Lib.hid (errV_pos ad (Nat.pos_of_ne_zero hr))
  clear hE hT h
  generalize J.refE d i n v = x at *
  clear hr
  obtain ⟨WA,hWA,QA,hb⟩:=place_new w b i n v
  obtain ⟨d0,d1,d2,d3⟩:=place_cells hb
  have HWA:=Lib.hid hWA
  have HQA:=Lib.hid QA
  have R1:=RF.out WA QA
  clear hWA QA hb
  go_enter Tryz.func148,Tryz.ntmps148
  go_wp2_with fail
  rw [HWA.out]
  refine R1.mono ?_
  rintro e w1 ⟨rfl,q1⟩
  have Q1:=Lib.hid (Qt.trans HQA.out q1)
  clear q1 R1 d0 d1 d2 d3
  go_wp2
  go_ret2
  rw [FIN.out]
  exact ⟨_,by rw [EV.out]; rfl,NewT.nil Q1.out⟩
end Go.Proofs.YthjjfjhajadimaaGreatDoor
namespace Go.Proofs.YthjjfjhajadimaaGreatDoor
set_option maxRecDepth 100000
structure DS.FewM (a m:Nat) (d:DS):Prop where
 ways:d.ways.length<=a
 wr:d.wr<=m
 fl:d.fl<=m
 cr:d.cr<=m
theorem DS.FewM.few {a m:Nat} {d:DS} (h:d.FewM a m) (ha:a<=1073741824) (hm:m<=1152921504606846976):d.Few:=⟨Nat.le_trans h.ways ha,Nat.le_trans h.wr hm,Nat.le_trans h.fl hm,Nat.le_trans h.cr hm⟩
theorem DS.FewM.mono {a m b n:Nat} {d:DS} (h:d.FewM a m) (ha:a<=b) (hm:m<=n):d.FewM b n:=⟨Nat.le_trans h.ways ha,Nat.le_trans h.wr hm,Nat.le_trans h.fl hm,Nat.le_trans h.cr hm⟩
theorem DS.FewM.write {a m:Nat} {d:DS} (h:d.FewM a m) (i:Int) (s:List UInt8):(d.writeD i s).FewM (a + 1) (m + 1):=by
 have h1:=h.ways; have h2:=h.wr; have h3:=h.fl; have h4:=h.cr
 unfold DS.writeD
 split
 ·exact h.mono (by omega) (by omega)
 ·split
  ·exact h.mono (by omega) (by omega)
  ·split
   ·exact ⟨by simp; omega,by simp only; omega,by simp only; omega,by simp only; omega⟩
   ·exact ⟨by simp; omega,by simp only; omega,by simp only; omega,by simp only; omega⟩
end Go.Proofs.YthjjfjhajadimaaGreatDoor
