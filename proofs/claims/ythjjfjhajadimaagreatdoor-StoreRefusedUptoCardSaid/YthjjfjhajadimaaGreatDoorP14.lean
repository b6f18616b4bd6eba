/-
  Joined: ERefS, VRefW, AWrite, ERefO, ELogL, ERefG, JRefA, JRecP, JCodeP.
-/
import Derived.Test.YthjjfjhajadimaaGreatDoorP13
import Derived.Deep.RegionHeld3
import Derived.Laws.MakeOwn
namespace Go.Proofs.YthjjfjhajadimaaGreatDoor
open Go.RowKit Go.WideShapes
set_option maxRecDepth 100000
theorem piece_text (s:ByteArray) (k:Nat) (hk:k < V.nsec s.size):(s.extract (k * 234) (min ((k + 1) * 234) s.size)).data.toList = V.piece s.data.toList k:=by
 have hlt:=V.nsec_lt hk
 have hl:s.data.toList.length = s.size:=by simp
 rw [dslice]
 unfold V.piece
 by_cases h:(k + 1) * 234<=s.size
 ·rw [show min ((k + 1) * 234) s.size - k * 234 = 234 by omega]
 ·rw [List.take_of_length_le (by rw [List.length_drop]; omega),List.take_of_length_le (by rw [List.length_drop]; omega)]
theorem slicePiece (s:ByteArray) (a e:Nat) (h1:a<=e) (h2:e<=s.size) (wx:World):(Instr.slice 9 (.string s) (some (.int .i64 (a:Int))) (some (.int .i64 (e:Int))) none).run Tryz.prog wx = .ok (.string (s.extract a e)) wx:=by
 have:=run_slice_string (P:=Tryz.prog) wx 9 s .i64 .i64 (a:Int) (e:Int) Tryz.underlying9 (by omega) (by omega) (by omega)
 rw [this,Int.toNat_natCast,Int.toNat_natCast]
theorem DS.writeD_grow (d:DS) (i:Int) (s:List UInt8):(d.writeD i s).ways.length<=d.ways.length + 1/\(d.writeD i s).wr<=d.wr + 1/\(d.writeD i s).fl = d.fl/\(d.writeD i s).cr = d.cr:=by
 unfold DS.writeD
 split
 ·exact ⟨by omega,by omega,rfl,rfl⟩
 ·split
  ·exact ⟨by omega,by omega,rfl,rfl⟩
  ·split
   ·exact ⟨by simp,by simp only; omega,rfl,rfl⟩
   ·exact ⟨by simp,by simp only; omega,rfl,rfl⟩
structure DS.GrowN (d:DS) (k:Nat) (u:DS):Prop where
 ways:u.ways.length<=d.ways.length + k
 wr:u.wr<=d.wr + k
 fl:u.fl = d.fl
 cr:u.cr = d.cr
theorem DS.GrowN.write {d u:DS} {k:Nat} (h:d.GrowN k u) (i:Int) (s:List UInt8):d.GrowN (k + 1) (u.writeD i s):=by
 have h1:=h.ways; have h2:=h.wr; have h3:=h.fl; have h4:=h.cr
 obtain ⟨g1,g2,g3,g4⟩:=DS.writeD_grow u i s
 exact ⟨by omega,by omega,by rw [g3,h3],by rw [g4,h4]⟩
theorem DS.GrowN.few {d u:DS} {k:Nat} (h:d.GrowN k u) (hf:d.FewA) (hk:k<=65536):u.Few:=by
 have h1:=h.ways; have h2:=h.wr; have h3:=h.fl; have h4:=h.cr
 have f1:=hf.ways; have f2:=hf.wr; have f3:=hf.fl; have f4:=hf.cr
 exact ⟨by omega,by omega,by omega,by omega⟩
def AWAt (S:Nat->Prop) (w0:World) (b:Nat) (d:DS) (i st:Nat) (v:List UInt8) (iv:Value) (wr:World):Prop :=
 ∃ (k:Nat) (uk:DS),k<=V.nsec v.length/\iv = .int .i64 k/\DiskAt wr b uk S/\Keeps S w0 wr/\DS.areaGo i st v (V.nsec v.length - k) k uk = DS.areaGo i st v (V.nsec v.length) 0 d/\d.GrowN k uk
theorem area_off {i st:Nat} {v:List UInt8} {d:DS} (h:d.off = true):∀ m k,DS.areaGo i st v m k d = (12,d)
 | 0,k=>by rw [DS.areaGo]; unfold DS.flushE DS.flushD; rw [if_pos h,if_pos h]
 | m + 1,k=>by
  have hr:d.reach ((i + k:Nat):Int) = 12:=by unfold DS.reach; rw [if_pos h]
  have h1:d.writeE ((i + k:Nat):Int) (E.sct st (V.piece v k)) = 12:=by unfold DS.writeE; rw [if_pos (by rw [hr]; decide),hr]
  have h2:d.writeD ((i + k:Nat):Int) (E.sct st (V.piece v k)) = d:=by unfold DS.writeD; rw [if_pos (by rw [hr]; decide)]
  rw [DS.areaGo,if_pos (by rw [h1]; decide),h1,h2]
theorem area_no {d:DS} {i n:Int} {st:Nat} {v:List UInt8} (h:d.refN i n st v.length ≠ 0):d.areaW i n st v = (d.refN i n st v.length,d):=by
 unfold DS.refN at h ⊢
 unfold DS.areaW
 by_cases h1:d.mayA i n st
 ·have hnot:¬ (¬ d.mayA i n st\/((v.length:Nat):Int) < 0):=by rintro (k | k); exact k h1; omega
  rw [if_neg hnot] at h ⊢
  rw [if_neg (fun k=>k h1)]
  rw [Int.toNat_natCast] at h ⊢
  by_cases h2:234 * min n.toNat 65536 < v.length
  ·rw [if_pos h2,if_pos h2]
  ·rw [if_neg h2] at h ⊢
   rw [if_neg h2]
   by_cases h3:d.off = true
   ·rw [if_pos h3,area_off h3]
   ·rw [if_neg h3] at h; exact absurd rfl h
 ·rw [if_pos (Or.inl h1),if_pos h1]
theorem area_yes {d:DS} {i n:Int} {st:Nat} {z:Int} (h:d.refN i n st z = 0):d.mayA i n st/\0<=z/\z.toNat<=234 * min n.toNat 65536/\d.off = false:=by
 unfold DS.refN at h
 split at h
 ·omega
 ·rename_i h1
  split at h
  ·omega
  ·split at h
   ·omega
   ·rename_i h2 h3
    exact ⟨Decidable.not_not.1 (fun k=>h1 (.inl k)),by omega,by omega,by simpa using h3⟩
theorem wrapA_add {i k:Nat} (h1:i<=65536) (h2:k<=65536):wrap64 ((i:Int) + (k:Int)) = (i:Int) + (k:Int):=by unfold wrap64; omega
theorem wrapA_mul {k a:Nat} (ha:k * 234 = a):(k:Int) * 234 = (a:Int):=by omega
theorem wrapA_end {a z e:Nat} (h:e<=15335424) (he:a + z = e):wrap64 ((a:Int) + (z:Int)) = (e:Int):=by unfold wrap64; omega
theorem measA {k n:Nat} (h:k < n):n - (intOf (.int .i64 ((k:Int) + 1))).toNat < n - (intOf (.int .i64 (k:Int))).toNat:=by simp [intOf]; omega
theorem subA {K k:Nat} (h:k < K):K - k = (K - (k + 1)) + 1:=by omega
theorem castA_lt {k n:Nat} (h:k < n):decide ((k:Int) < (n:Int)) = true:=decide_eq_true (by omega)
theorem castA_ge {k n:Nat} (h:n<=k):decide ((k:Int) < (n:Int)) = false:=decide_eq_false (by omega)
theorem castA_le {k:Nat} (h:k<=65536):(k:Int)<=65536:=by omega
theorem cutA {k n a z e:Nat} (h:k * 234 < n) (ha:k * 234 = a) (hz:min 234 (n - a) = z) (he:a + z = e):a<=e/\e<=n/\min ((k + 1) * 234) n = e:=by omega
set_option maxHeartbeats 3200000 in
theorem awrite_any (ad:Nat->Addr):AWriteH ad:=by
 intro S w0 w b d R hS h hf i n st s hst hn
 have RF:=arefuse_any ad (R.errs' hS) h i n st (s.size:Int) hn
 have hl:s.data.toList.length = s.size:=by simp
 by_cases hz:d.refN i n st (s.size:Int) = 0
 ·obtain ⟨hm,-,hr,ho⟩:=area_yes hz
  rw [hz,errV_zero] at RF
  rw [Int.toNat_natCast] at hr
  obtain ⟨i,rfl⟩:=Int.eq_ofNat_of_zero_le hm.1
  have FIN:=Lib.hid (show d.areaW i n st s.data.toList = DS.areaGo i st s.data.toList (V.nsec s.data.toList.length) 0 d by unfold DS.areaW; rw [if_neg (fun k=>k hm),if_neg (by omega),Int.toNat_natCast])
  have hz2:s.size<=15335424:=by omega
  have hK:V.nsec s.data.toList.length<=65536:=by rw [hl]; unfold V.nsec; omega
  have hi:i<=65536:=by
   have h1:=hm.2.2.1
   obtain ⟨gd,mb,uv,P,_⟩:=h
   have:=P.ok.le
   omega
  have h0:=hm.2.2.2.2
  have SC:=asecs_any (s.size:Int) w (by omega)
  rw [secsZ_nat] at SC
  have START:=Lib.hid (show AWAt S w0 b d i st s.data.toList (.int .i64 0) w from ⟨0,d,Nat.zero_le _,rfl,h,hS,rfl,⟨by omega,by omega,rfl,rfl⟩⟩)
  have HR:=Lib.hid R
  have HFA:=Lib.hid hf
  have HL:=Lib.hid hl
  have HKB:=Lib.hid hK
  have HI:=Lib.hid hi
  have HZ2:=Lib.hid hz2
  have HS:=Lib.hid (show st ≠ 0/\st < 18446744073709551616 from ⟨h0,hst⟩)
  clear hm h hf hr hst h0 hz R hS ho hn hl hK hi hz2
  go_enter Tryz.func121,Tryz.ntmps121
  go_wp2_with fail
  refine RF.mono ?_
  rintro e w1 ⟨rfl,rfl⟩
  go_wp2_with fail
  refine SC.mono ?_
  rintro e w2 ⟨rfl,rfl⟩
  go_wp2
  go_loopw [30] (fun iv wr=>AWAt S w0 b d i st s.data.toList iv wr) (fun iv _=>V.nsec s.size - (intOf iv).toNat)
  case atStart=>exact START.out
  case round =>
   obtain ⟨k,uk,hk,rfl,hP,hkeep,hgo,hgr⟩:=hrel
   have hk2:k<=V.nsec s.size:=by rw [<- HL.out]; exact hk
   have HP:=Lib.hid hP
   have HK:=Lib.hid hkeep
   have HG:=Lib.hid hgr
   have hk65:k<=65536:=Nat.le_trans hk HKB.out
   have HF:=Lib.hid (hgr.few HFA.out hk65)
   by_cases hlt:k < V.nsec s.size
   ·have hmm:=subA (show k < V.nsec s.data.toList.length by rw [HL.out]; exact hlt)
    rw [hmm,DS.areaGo] at hgo
    have h234:=V.nsec_lt hlt
    have PS:=apiece_any s.size k h234 HZ2.out
    obtain ⟨a,ha⟩:∃ a,k * 234 = a:=⟨_,rfl⟩
    obtain ⟨z,hz⟩:∃ z,min 234 (s.size - a) = z:=⟨_,rfl⟩
    obtain ⟨e,he⟩:∃ e,a + z = e:=⟨_,rfl⟩
    have hae:=cutA h234 ha hz he
    have PT:=piece_text s k hlt
    have SL:=slicePiece s a e hae.1 hae.2.1
    rw [ha,hz] at PS
    rw [hae.2.2,ha] at PT
    obtain ⟨P,hP2⟩:∃ P,s.extract a e = P:=⟨_,rfl⟩
    rw [hP2] at PT SL
    have hpz:P.size<=234:=by rw [<- dlen7,PT]; exact V.piece_le _ _
    obtain ⟨Z,hZ⟩:∃ Z:ByteArray,Z = ⟨(E.sct st (V.piece s.data.toList k)).toArray⟩:=⟨_,rfl⟩
    have hZl:strL Z = E.sct st (V.piece s.data.toList k):=by rw [hZ]; rfl
    have S2:=Lib.hid (show ∀ W,Keeps S w0 W->Calls Tryz.prog 180 #[.int .u64 st,.string P] W fun e w'=>e = .returned (.tuple #[.string Z,.nilIface])/\Qt W w' from fun W q=>by
     have S1:=seal_any (ad 6) (ad 3) (ad 7) st P W HS.out.2 (HR.out.errs' q).e3 (HR.out.tab' q)
     rw [show E.sealR st P.data.toList = (E.sct st (V.piece s.data.toList k),0) by unfold E.sealR; rw [if_neg HS.out.1,if_neg (by rw [dlen7]; omega),PT]] at S1
     rw [hZ]; exact S1)
    have WR:=Lib.hid (fun W (q:DiskAt W b uk S) (hq:Keeps S w0 W)=>(show Calls Tryz.prog 182 #[.pointer (some ⟨b,0,none⟩),.int .i64 ((i:Int) + (k:Int)),.string Z] W fun e w'=>e = .returned (errV ad (uk.writeE ((i + k:Nat):Int) (E.sct st (V.piece s.data.toList k))))/\DiskAt w' b (uk.writeD ((i + k:Nat):Int) (E.sct st (V.piece s.data.toList k))) S/\Keeps S w0 w' from by
     have h:=room_write HR.out hq q HF.out ((i + k:Nat):Int) Z
     rw [hZl,Int.natCast_add] at h
     rw [Int.natCast_add]
     exact h))
    have hai:=wrapA_mul ha
    have hei:=wrapA_end (Nat.le_trans hae.2.1 HZ2.out) he
    have hki:=wrapA_add HI.out hk65
    have hkb:=castA_le hk65
    have zlt:=castA_lt hlt
    have zlt':decide (k < V.nsec s.size) = true:=decide_eq_true hlt
    have HLT:=Lib.hid hlt
    have HGO:=Lib.hid hgo
    have HK65:=Lib.hid hk65
    clear hP hkeep hgr hgo hmm PT hZ hZl hP2 ha he hz h234 hpz hlt hk hk2 hae hk65
    go_wp2_with fail
    refine (PS _).mono ?_
    rintro e2 w4 ⟨rfl,rfl⟩
    go_wp2_with fail
    refine (S2.out w4 HK.out).mono ?_
    rintro e3 w5 ⟨rfl,q5⟩
    have P5:=Lib.hid (HP.out.qt q5)
    have K5:=Lib.hid (keeps_qt HK.out q5)
    clear q5
    have W5:=WR.out w5 P5.out K5.out
    by_cases hE:uk.writeE ((i + k:Nat):Int) (E.sct st (V.piece s.data.toList k)) = 0
    ·have GO:=HGO.out
     rw [if_neg (fun h=>h hE)] at GO
     rw [hE,errV_zero] at W5
     have NXT:=Lib.hid (fun W (q:DiskAt W b (uk.writeD ((i + k:Nat):Int) (E.sct st (V.piece s.data.toList k))) S) (kk:Keeps S w0 W)=>(show AWAt S w0 b d i st s.data.toList (.int .i64 ((k:Int) + 1)) W from
      ⟨k + 1,_,by rw [HL.out]; exact HLT.out,by push_cast; rfl,q,kk,GO,HG.out.write _ _⟩))
     clear GO hE
     go_wp2_with fail
     refine W5.mono ?_
     rintro e4 w6 ⟨rfl,p6,k6⟩
     have FN:=Lib.hid (NXT.out w6 p6 k6)
     clear p6 k6 W5
     go_wp2
     exact ⟨FN.out,measA HLT.out⟩
    ·have GO:=HGO.out
     rw [if_pos hE] at GO
     rw [errV_pos ad (Nat.pos_of_ne_zero hE)] at W5
     have FN:=Lib.hid (fun W (q:DiskAt W b (uk.writeD ((i + k:Nat):Int) (E.sct st (V.piece s.data.toList k))) S) (kk:Keeps S w0 W)=>(show (.returned (.iface 335 (.pointer (some (ad (uk.writeE ((i + k:Nat):Int) (E.sct st (V.piece s.data.toList k))))))):Ending) = .returned (errV ad (d.areaW (i:Int) n st s.data.toList).1)/\DiskAt W b (d.areaW (i:Int) n st s.data.toList).2 S/\Keeps S w0 W from by
      rw [FIN.out,<- GO]; exact ⟨by rw [errV_pos ad (Nat.pos_of_ne_zero hE)],q,kk⟩))
     clear GO hE
     generalize uk.writeE ((i + k:Nat):Int) (E.sct st (V.piece s.data.toList k)) = x at *
     go_wp2_with fail
     refine W5.mono ?_
     rintro e4 w6 ⟨rfl,p6,k6⟩
     have FM:=Lib.hid (FN.out w6 p6 k6)
     clear p6 k6 W5
     go_wp2
     go_ret
     exact FM.out
   ·obtain rfl:k = V.nsec s.data.toList.length:=Nat.le_antisymm hk (by rw [HL.out]; exact Nat.le_of_not_lt hlt)
    rw [Nat.sub_self,DS.areaGo] at hgo
    have zlt:=castA_ge (k:=V.nsec s.data.toList.length) (n:=V.nsec s.size) (by rw [HL.out]; exact Nat.le_refl _)
    have zlt':decide (V.nsec s.data.toList.length < V.nsec s.size) = false:=decide_eq_false (by rw [HL.out]; exact Nat.lt_irrefl _)
    have FL:=Lib.hid (room_flush HR.out hkeep hP HF.out)
    have FN:=Lib.hid (fun W (q:DiskAt W b uk.flushD S) (kk:Keeps S w0 W)=>(show (.returned (errV ad uk.flushE):Ending) = .returned (errV ad (d.areaW (i:Int) n st s.data.toList).1)/\DiskAt W b (d.areaW (i:Int) n st s.data.toList).2 S/\Keeps S w0 W from by
     rw [FIN.out,<- hgo]; exact ⟨rfl,q,kk⟩))
    clear hP hkeep hgr hgo hlt hk hk2 hk65
    generalize V.nsec s.data.toList.length = K at *
    generalize V.nsec s.size = K2 at *
    go_wp2_with fail
    refine FL.out.mono ?_
    rintro e4 w6 ⟨rfl,p6,k6⟩
    have FM:=Lib.hid (FN.out w6 p6 k6)
    clear p6 k6
    go_wp2
    go_ret
    exact FM.out
 ·have FIN:=Lib.hid (show d.areaW i n st s.data.toList = (d.refN i n st (s.size:Int),d) by
   have h2:=area_no (d:=d) (i:=i) (n:=n) (st:=st) (v:=s.data.toList) (by rw [hl]; exact hz)
   rw [hl] at h2
   exact h2)
  have hp:=Nat.pos_of_ne_zero hz
  have FM:=Lib.hid (show (.returned (.iface 335 (.pointer (some (ad (d.refN i n st (s.size:Int)))))):Ending) = .returned (errV ad (d.areaW i n st s.data.toList).1)/\DiskAt w b (d.areaW i n st s.data.toList).2 S/\Keeps S w0 w from by
   rw [FIN.out]; exact ⟨by rw [errV_pos ad hp],h,hS⟩)
  rw [errV_pos ad hp] at RF
  clear hz h hS hp
  generalize d.refN i n st (s.size:Int) = x at *
  go_enter Tryz.func121,Tryz.ntmps121
  go_wp2_with fail
  refine RF.mono ?_
  rintro e w1 ⟨rfl,rfl⟩
  go_wp2
  go_ret
  exact FM.out
namespace E
def logOk (v i:Int):Prop:=1<=v/\v<=1099511627776/\0<=i/\i < 65536
instance (v i:Int):Decidable (logOk v i):=inferInstanceAs (Decidable (_/\_))
def logR (v i:Int):Int × Nat:=if logOk v i then (v * 1048576 + i + 1,0) else (0,6)
end E
set_option maxHeartbeats 1600000 in
theorem log_any (er el ef:Addr) (v i:Int) (w:World) (hv0:-9223372036854775808<=v) (hv1:v<=9223372036854775807) (hi0:-9223372036854775808<=i) (hi1:i<=9223372036854775807) (hE:E3 er el ef w) :
  Calls Tryz.prog 235 #[.int .i64 v,.int .i64 i] w fun e w'=>e = .returned (.tuple #[.int .u64 (E.logR v i).1,e3V er el ef (E.logR v i).2])/\Qt w w':=by
 have h1:=hE.r
 clear hE
 by_cases hk:E.logOk v i
 ·have HV:=Lib.hid (show E.logR v i = (v * 1048576 + i + 1,0) from if_pos hk)
  obtain ⟨a1,a2,a3,a4⟩:=hk
  go_enter Tryz.func235,Tryz.ntmps235
  go_wp2
  go_ret2
  exact ⟨by rw [HV.out]; rfl,Qt.refl _⟩
 ·have HV:=Lib.hid (show E.logR v i = (0,6) from if_neg hk)
  have hk2:v < 1\/1099511627776 < v\/i < 0\/65536<=i:=by unfold E.logOk at hk; omega
  clear hk
  by_cases b1:v < 1
  ·clear hk2
   go_enter Tryz.func235,Tryz.ntmps235
   go_wp2
   go_quiet (fail)
   go_wp2
   go_ret2
   exact ⟨by rw [HV.out]; rfl,Keeps.drewN (Qt.refl w) _⟩
  ·by_cases b2:1099511627776 < v
   ·clear hk2
    go_enter Tryz.func235,Tryz.ntmps235
    go_wp2
    go_quiet (fail)
    go_wp2
    go_ret2
    exact ⟨by rw [HV.out]; rfl,Keeps.drewN (Qt.refl w) _⟩
   ·by_cases b3:i < 0
    ·clear hk2
     go_enter Tryz.func235,Tryz.ntmps235
     go_wp2
     go_quiet (fail)
     go_wp2
     go_ret2
     exact ⟨by rw [HV.out]; rfl,Keeps.drewN (Qt.refl w) _⟩
    ·have b4:65536<=i:=by omega
     clear hk2
     go_enter Tryz.func235,Tryz.ntmps235
     go_wp2
     go_quiet (fail)
     go_wp2
     go_ret2
     exact ⟨by rw [HV.out]; rfl,Keeps.drewN (Qt.refl w) _⟩
def costZ (z:Int):Int:=if z < 0 then 0 else (J.cost z.toNat:Nat)
def largestZ (n:Int):Int:=if n < 1 then -1 else wrap64 (229 + 233 * (n - 1))
theorem costZ_nat (n:Nat):costZ (n:Int) = ((J.cost n:Nat):Int):=by unfold costZ; rw [if_neg (by omega),Int.toNat_natCast]
theorem costZ_one {z:Int} (h0:0<=z) (h1:z<=229):costZ z = 1:=by
 unfold costZ J.cost; rw [if_neg (by omega),if_pos (by omega)]; rfl
theorem costZ_more {z:Int} (h1:¬ z<=229):costZ z = 2 + (z - 230) / 233:=by
 unfold costZ J.cost; rw [if_neg (by omega),if_neg (by omega)]; omega
theorem wrap_wrap (a b:Int):wrap64 (a + wrap64 b) = wrap64 (a + b):=by unfold wrap64; omega
end Go.Proofs.YthjjfjhajadimaaGreatDoor
namespace Go.Proofs.YthjjfjhajadimaaGreatDoor.J
set_option maxRecDepth 100000
theorem rec_no1 {s:Nat->Option (List UInt8)} {n p:Nat} (h:s p = none):rec s n p = none:=rec_none fun v k=>by
 have:=k.each 0 (cost_pos _)
 rw [Nat.add_zero,h] at this
 cases this
theorem rec_room {s:Nat->Option (List UInt8)} {n p:Nat} {q:List UInt8} (h:s p = some q) (hn:n < p + cost (sizeOf q)):rec s n p = none:=rec_none fun v k=>by
 have e:=k.each 0 (cost_pos _)
 rw [Nat.add_zero,h] at e
 injection e with e
 rw [e,size_pay k.small] at hn
 have:=k.room
 omega
def headZ (z:Nat):Nat->List UInt8
 | 0=>1 :: E.low 4 z
 | _ + 1=>[0]
def upto (z k:Nat):Nat:=min (ends (k + 1)) z
theorem ends_leZ {z k:Nat} (h:k < cost z):ends k<=z:=by
 cases k with
 | zero=>exact Nat.zero_le _
 | succ k=>exact Nat.le_of_lt (ends_lt h)
theorem ends_mono:∀ {a b:Nat},a<=b->ends a<=ends b
 | 0,b,_=>Nat.zero_le _
 | a + 1,0,h=>by omega
 | a + 1,b + 1,h=>by show 229 + 233 * a<=229 + 233 * b; omega
theorem upto_ge {z k:Nat} (h:k < cost z):ends k<=upto z k:=by
 have h1:=ends_leZ h
 have h2:=ends_mono (show k<=k + 1 by omega)
 unfold upto; omega
theorem upto_le (z k:Nat):upto z k<=z:=by unfold upto; omega
theorem pay_eq (v:List UInt8) (k:Nat):pay v k = headZ v.length k ++ (v.drop (ends k)).take (upto v.length k - ends k):=by
 cases k with
 | zero =>
  show 1 :: (E.low 4 v.length ++ v.take 229) = 1 :: E.low 4 v.length ++ (v.drop 0).take (min (229 + 233 * 0) v.length - 0)
  rw [List.drop_zero,List.cons_append,Nat.sub_zero]
  congr 2
  rcases Nat.le_total v.length 229 with h | h
  ·rw [List.take_of_length_le h,List.take_of_length_le (by omega)]
  ·rw [show min (229 + 233 * 0) v.length = 229 by omega]
 | succ k =>
  show 0 :: (v.drop (229 + 233 * k)).take 233 = [0] ++ (v.drop (229 + 233 * k)).take (min (229 + 233 * (k + 1)) v.length - (229 + 233 * k))
  rw [List.singleton_append]
  congr 1
  rcases Nat.le_total v.length (229 + 233 * (k + 1)) with h | h
  ·rw [List.take_of_length_le (by rw [List.length_drop]; omega),List.take_of_length_le (by rw [List.length_drop]; omega)]
  ·rw [show min (229 + 233 * (k + 1)) v.length - (229 + 233 * k) = 233 by omega]
theorem piece_length {v:List UInt8} {k:Nat}:((v.drop (ends k)).take (upto v.length k - ends k)).length = upto v.length k - ends k:=by
 have:=upto_le v.length k
 rw [List.length_take,List.length_drop]; omega
structure Got (s:Nat->Option (List UInt8)) (i z k:Nat) (o:List UInt8):Prop where
 len:o.length = min (ends k) z
 each:∀ j,j < k->s (i + j) = some (headZ z j ++ (o.drop (ends j)).take (upto z j - ends j))
theorem Got.none (s:Nat->Option (List UInt8)) (i z:Nat):Got s i z 0 []:=⟨by simp [ends],fun j hj=>absurd hj (Nat.not_lt_zero j)⟩
theorem Got.more {s:Nat->Option (List UInt8)} {i z k:Nat} {o t:List UInt8} (h:Got s i z k o) (hk:k < cost z) (hs:s (i + k) = some (headZ z k ++ t)) (ht:t.length = upto z k - ends k):Got s i z (k + 1) (o ++ t):=by
 have he:=ends_leZ hk
 have hu:=upto_ge hk
 have hl:o.length = ends k:=by rw [h.len]; omega
 refine ⟨?_,fun j hj=>?_⟩
 ·rw [List.length_append,hl,ht]
  show ends k + (min (ends (k + 1)) z - ends k) = _
  unfold upto at hu
  omega
 ·rcases Nat.lt_or_ge j k with hjk | hjk
  ·rw [h.each j hjk]
   have hje:upto z j<=ends k:=by have:=ends_mono (show j + 1<=k by omega); unfold upto; omega
   have hjs:ends j<=ends k:=ends_mono (by omega)
   rw [List.drop_append_of_le_length (by omega),List.take_append_of_le_length (by rw [List.length_drop]; omega)]
  ·obtain rfl:j = k:=by omega
   rw [hs]
   congr 2
   rw [<- hl,List.drop_left,hl,List.take_of_length_le (by omega)]
theorem Got.all {s:Nat->Option (List UInt8)} {n i z:Nat} {o:List UInt8} (h:Got s i z (cost z) o) (hz:z < 4294967296) (hn:i + cost z<=n):o.length = z/\J.rec s n i = some o:=by
 have hl:o.length = z:=by rw [h.len]; have:=cost_le z; omega
 refine ⟨hl,rec_some ⟨by omega,by rw [hl]; exact hn,fun k hk=>?_⟩⟩
 rw [hl] at hk
 rw [h.each k hk,pay_eq,hl]
theorem got_no {s:Nat->Option (List UInt8)} {n i z k:Nat} {q:List UInt8} (h0:s i = some q) (hz:sizeOf q = z) (hk:k < cost z) (hbad:∀ t,t.length = upto z k - ends k->s (i + k) ≠ some (headZ z k ++ t)):rec s n i = none:=rec_none fun v w=>by
 have e:=w.each 0 (cost_pos _)
 rw [Nat.add_zero,h0] at e
 injection e with e
 have ev:v.length = z:=by rw [<- hz,e,size_pay w.small]
 have:=w.each k (by rw [ev]; exact hk)
 rw [pay_eq,ev] at this
 exact hbad _ (by rw [<- ev]; exact piece_length) this
def payN (s:Nat->Option (List UInt8)) (k:Nat):List UInt8:=(s k).getD []
theorem pay_some {s:Nat->Option (List UInt8)} {k:Nat} {p:List UInt8} (h:payN s k = p) (hp:p ≠ []):s k = some p:=by
 unfold payN at h
 cases hq:s k with
 | none=>rw [hq] at h; exact absurd h.symm hp
 | some q=>rw [hq] at h; exact congrArg some h
theorem payN_of {s:Nat->Option (List UInt8)} {k:Nat} {p:List UInt8} (h:s k = some p):payN s k = p:=by unfold payN; rw [h]; rfl
theorem headZ_ne (z k:Nat):headZ z k ≠ []:=by cases k <;> simp [headZ]
theorem got_first {s:Nat->Option (List UInt8)} {i z k:Nat} {t:List UInt8} (h:payN s (i + k) = headZ z k ++ t):s (i + k) = some (headZ z k ++ t):=pay_some h (by have:=headZ_ne z k; simp [this])
theorem rec_few {s:Nat->Option (List UInt8)} {n i:Nat} (h:(payN s i).length < 5):rec s n i = none:=rec_none fun v w=>by
 have e:=w.each 0 (cost_pos _)
 rw [Nat.add_zero] at e
 rw [payN_of e] at h
 have:=pay0_length v
 omega
theorem rec_wide {s:Nat->Option (List UInt8)} {n i:Nat} (hn:n < i + cost (sizeOf (payN s i))):rec s n i = none:=by
 cases hq:s i with
 | none=>exact rec_no1 hq
 | some q=>rw [payN_of hq] at hn; exact rec_room hq hn
theorem rec_other {s:Nat->Option (List UInt8)} {n i z k:Nat} (hz:sizeOf (payN s i) = z) (hk:k < cost z) (hbad:∀ t,t.length = upto z k - ends k->payN s (i + k) ≠ headZ z k ++ t):rec s n i = none:=by
 cases hq:s i with
 | none=>exact rec_no1 hq
 | some q =>
  rw [payN_of hq] at hz
  exact got_no hq hz hk (fun t ht e=>hbad t ht (payN_of e))
end Go.Proofs.YthjjfjhajadimaaGreatDoor.J
