/-
  Joined: EErr, ACode, FewN, NewB, ELow, EOpen, ERefS, VRefW, AWrite.
-/
import Derived.Test.YthjjfjhajadimaaGreatDoorP14
import Derived.Laws.BytesArg
import Derived.Laws.OwnMore
import Derived.Laws.MakeOwn
import Derived.Deep.AppendLies
import Derived.Lib.ReplaceLaws
import Derived.Deep.RegionHeld3
namespace Go.Proofs.YthjjfjhajadimaaGreatDoor
open Go.RowKit
set_option maxRecDepth 100000
theorem Errs.e3 {ad:Nat->Addr} {w:World} (h:Errs ad w):E3 (ad 6) (ad 3) (ad 7) w:=⟨h.cells 5 _ rfl,h.cells 2 _ rfl,h.cells 6 _ rfl⟩
end Go.Proofs.YthjjfjhajadimaaGreatDoor
namespace Go.Proofs.YthjjfjhajadimaaGreatDoor
open Go.RowKit Go.WideShapes
set_option maxRecDepth 100000
theorem apiece_any (z k:Nat) (h:k * 234 < z) (hz:z<=15335424) (w:World):Calls Tryz.prog 181 #[.int .i64 z,.int .i64 k] w fun e w'=>e = .returned (.int .i64 ((min 234 (z - k * 234):Nat):Int))/\w' = w:=by
 have z1:wrap64 ((k:Int) * 234) = (k:Int) * 234:=by unfold wrap64; omega
 have z2:wrap64 ((z:Int) - (k:Int) * 234) = (z:Int) - (k:Int) * 234:=by unfold wrap64; omega
 have z3:min 234 ((z:Int) - (k:Int) * 234) = ((min 234 (z - k * 234):Nat):Int):=by omega
 clear h hz
 generalize min 234 (z - k * 234) = m at *
 go_enter Tryz.func181,Tryz.ntmps181
 go_wp2
 go_ret
 exact ⟨rfl,rfl⟩
theorem aroom_any:ARoomH:=by
 intro n w
 have z1:wrap64 (234 * min (max n 0) 65536) = 234 * min (max n 0) 65536:=by unfold wrap64; omega
 have FIN:=Lib.hid (show 234 * min (max n 0) 65536 = roomZ n from rfl)
 go_enter Tryz.func119,Tryz.ntmps119
 go_wp2
 go_ret
 exact ⟨by rw [<- FIN.out]; rfl,rfl⟩
theorem asecs_any:ASecsH:=by
 intro x w hx
 by_cases h0:x<=0
 ·have FIN:=Lib.hid (show secsZ x = 0 from if_pos h0)
  go_enter Tryz.func179,Tryz.ntmps179
  go_wp2
  go_ret
  exact ⟨by rw [FIN.out]; rfl,rfl⟩
 ·have FIN:=Lib.hid (show secsZ x = (x - 1) / 234 + 1 from if_neg h0)
  have z0:decide (x<=0) = false:=decide_eq_false h0
  have z1:wrap64 (x - 1) = x - 1:=by unfold wrap64; omega
  have z2:(x - 1).tdiv 234 = (x - 1) / 234:=Int.tdiv_eq_ediv_of_nonneg (by omega)
  have z3:wrap64 ((x - 1) / 234 + 1) = (x - 1) / 234 + 1:=by unfold wrap64; omega
  go_enter Tryz.func179,Tryz.ntmps179
  go_wp2
  go_ret
  exact ⟨by rw [FIN.out]; rfl,rfl⟩
def DS.refN (d:DS) (i n:Int) (st:Nat) (z:Int):Nat:=if ¬ d.mayA i n st\/z < 0 then 6 else if 234 * min n.toNat 65536 < z.toNat then 3 else if d.off = true then 12 else 0
theorem arefuse_any (ad:Nat->Addr) {w:World} {b:Nat} {d:DS} {S:Nat->Prop} (hE:Errs ad w) (h:DiskAt w b d S) (i n:Int) (st:Nat) (z:Int) (hn:n<=9223372036854775807) :
  Calls Tryz.prog 178 #[.pointer (some ⟨b,0,none⟩),.int .i64 i,.int .i64 n,.int .u64 st,.int .i64 z] w fun e w'=>e = .returned (errV ad (d.refN i n st z))/\w' = w:=by
 have SZ:=size_any h
 have OF:=off_any h
 have hl:d.dur.length<=65536:=by obtain ⟨gd,mb,uv,h,_⟩:=h; exact h.ok.le
 have e6:w.cell? ⟨0,0,none⟩ = some (.iface 335 (.pointer (some (ad 6)))):=hE.cells 5 _ rfl
 have e3:w.cell? ⟨11,0,none⟩ = some (.iface 335 (.pointer (some (ad 3)))):=hE.cells 2 _ rfl
 have e12:w.cell? ⟨6,0,none⟩ = some (.iface 335 (.pointer (some (ad 12)))):=hE.cells 11 _ rfl
 clear hE h
 have RM:=aroom_any n
 rw [roomZ_nat] at RM
 by_cases c0:i < 0
 ·have FIN:=Lib.hid (show d.refN i n st z = 6 from if_pos (.inl (fun k=>by have q:=k.1; omega)))
  have y0:decide (i < 0) = true:=decide_eq_true c0
  clear hl hn
  generalize 234 * min n.toNat 65536 = R at *
  generalize d.dur.length = L at *
  go_enter Tryz.func178,Tryz.ntmps178
  go_wp2
  go_ret
  exact ⟨by rw [FIN.out]; rfl,rfl⟩
 ·skip
  by_cases c1:n < 0
  ·have FIN:=Lib.hid (show d.refN i n st z = 6 from if_pos (.inl (fun k=>by have q:=k.2.1; omega)))
   have y0:decide (i < 0) = false:=decide_eq_false c0
   have y1:decide (n < 0) = true:=decide_eq_true c1
   clear hl hn
   generalize 234 * min n.toNat 65536 = R at *
   generalize d.dur.length = L at *
   go_enter Tryz.func178,Tryz.ntmps178
   go_wp2
   go_ret
   exact ⟨by rw [FIN.out]; rfl,rfl⟩
  ·skip
   by_cases c2:(d.dur.length:Int) - n < i
   ·have FIN:=Lib.hid (show d.refN i n st z = 6 from if_pos (.inl (fun k=>by have q:=k.2.2.2.1; omega)))
    have y0:decide (i < 0) = false:=decide_eq_false c0
    have y1:decide (n < 0) = false:=decide_eq_false c1
    have w2:wrap64 ((d.dur.length:Int) - n) = (d.dur.length:Int) - n:=by unfold wrap64; omega
    have y2:decide ((d.dur.length:Int) - n < i) = true:=decide_eq_true c2
    clear hl hn
    generalize 234 * min n.toNat 65536 = R at *
    generalize d.dur.length = L at *
    go_enter Tryz.func178,Tryz.ntmps178
    go_wp2_with fail
    refine SZ.mono ?_
    rintro e w1 ⟨rfl,rfl⟩
    go_wp2
    go_ret
    exact ⟨by rw [FIN.out]; rfl,rfl⟩
   ·skip
    by_cases c3:st = 0
    ·have FIN:=Lib.hid (show d.refN i n st z = 6 from if_pos (.inl (fun k=>by have q:=k.2.2.2.2; omega)))
     subst c3
     have y0:decide (i < 0) = false:=decide_eq_false c0
     have y1:decide (n < 0) = false:=decide_eq_false c1
     have w2:wrap64 ((d.dur.length:Int) - n) = (d.dur.length:Int) - n:=by unfold wrap64; omega
     have y2:decide ((d.dur.length:Int) - n < i) = false:=decide_eq_false c2
     clear hl hn
     generalize 234 * min n.toNat 65536 = R at *
     generalize d.dur.length = L at *
     go_enter Tryz.func178,Tryz.ntmps178
     go_wp2_with fail
     refine SZ.mono ?_
     rintro e w1 ⟨rfl,rfl⟩
     go_wp2
     go_ret
     exact ⟨by rw [FIN.out]; rfl,rfl⟩
    ·skip
     by_cases c4:z < 0
     ·have FIN:=Lib.hid (show d.refN i n st z = 6 from if_pos (.inr c4))
      have y0:decide (i < 0) = false:=decide_eq_false c0
      have y1:decide (n < 0) = false:=decide_eq_false c1
      have w2:wrap64 ((d.dur.length:Int) - n) = (d.dur.length:Int) - n:=by unfold wrap64; omega
      have y2:decide ((d.dur.length:Int) - n < i) = false:=decide_eq_false c2
      have y3:((st:Int) == 0) = false:=by rw [beq_eq_false_iff_ne]; omega
      have y4:decide (z < 0) = true:=decide_eq_true c4
      clear hl hn
      generalize 234 * min n.toNat 65536 = R at *
      generalize d.dur.length = L at *
      go_enter Tryz.func178,Tryz.ntmps178
      go_wp2_with fail
      refine SZ.mono ?_
      rintro e w1 ⟨rfl,rfl⟩
      go_wp2
      go_ret
      exact ⟨by rw [FIN.out]; rfl,rfl⟩
     ·skip
      have hnot:¬ (¬ d.mayA i n st\/z < 0):=(fun k=>by rcases k with k | k; exact k ⟨by omega,by omega,by omega,by omega,c3⟩; omega)
      obtain ⟨z,rfl⟩:=Int.eq_ofNat_of_zero_le (show 0<=z by omega)
      have y0:decide (i < 0) = false:=decide_eq_false c0
      have y1:decide (n < 0) = false:=decide_eq_false c1
      have w2:wrap64 ((d.dur.length:Int) - n) = (d.dur.length:Int) - n:=by unfold wrap64; omega
      have y2:decide ((d.dur.length:Int) - n < i) = false:=decide_eq_false c2
      have y3:((st:Int) == 0) = false:=by rw [beq_eq_false_iff_ne]; omega
      have y4:decide ((z:Int) < 0) = false:=decide_eq_false c4
      by_cases c5:234 * min n.toNat 65536 < z
      ·have FIN:=Lib.hid (show d.refN i n st z = 3 from (if_neg hnot).trans (if_pos (by rw [Int.toNat_natCast]; exact c5)))
       have y5:decide (((234 * min n.toNat 65536:Nat):Int) < (z:Int)) = true:=decide_eq_true (by omega)
       have y6:decide (234 * min n.toNat 65536 < z) = true:=decide_eq_true c5
       clear hnot c0 c1 c2 c3 c4 c5
       clear hl hn
       generalize 234 * min n.toNat 65536 = R at *
       generalize d.dur.length = L at *
       go_enter Tryz.func178,Tryz.ntmps178
       go_wp2_with fail
       refine SZ.mono ?_
       rintro e w1 ⟨rfl,rfl⟩
       go_wp2_with fail
       refine (RM _).mono ?_
       rintro e w1 ⟨rfl,rfl⟩
       go_wp2
       go_ret
       exact ⟨by rw [FIN.out]; rfl,rfl⟩
      ·have y5:decide (((234 * min n.toNat 65536:Nat):Int) < (z:Int)) = false:=decide_eq_false (by omega)
       have y6:decide (234 * min n.toNat 65536 < z) = false:=decide_eq_false c5
       cases c6:d.off with
       | true =>
        rw [c6] at OF
        have FIN:=Lib.hid (show d.refN i n st z = 12 from (if_neg hnot).trans ((if_neg (by rw [Int.toNat_natCast]; exact c5)).trans (if_pos c6)))
        clear hnot c0 c1 c2 c3 c4 c5 c6
        clear hl hn
        generalize 234 * min n.toNat 65536 = R at *
        generalize d.dur.length = L at *
        go_enter Tryz.func178,Tryz.ntmps178
        go_wp2_with fail
        refine SZ.mono ?_
        rintro e w1 ⟨rfl,rfl⟩
        go_wp2_with fail
        refine (RM _).mono ?_
        rintro e w1 ⟨rfl,rfl⟩
        go_wp2_with fail
        refine OF.mono ?_
        rintro e w1 ⟨rfl,rfl⟩
        go_wp2
        go_ret
        exact ⟨by rw [FIN.out]; rfl,rfl⟩
       | false =>
        rw [c6] at OF
        have FIN:=Lib.hid (show d.refN i n st z = 0 from (if_neg hnot).trans ((if_neg (by rw [Int.toNat_natCast]; exact c5)).trans (if_neg (by rw [c6]; simp))))
        clear hnot c0 c1 c2 c3 c4 c5 c6
        clear hl hn
        generalize 234 * min n.toNat 65536 = R at *
        generalize d.dur.length = L at *
        go_enter Tryz.func178,Tryz.ntmps178
        go_wp2_with fail
        refine SZ.mono ?_
        rintro e w1 ⟨rfl,rfl⟩
        go_wp2_with fail
        refine (RM _).mono ?_
        rintro e w1 ⟨rfl,rfl⟩
        go_wp2_with fail
        refine OF.mono ?_
        rintro e w1 ⟨rfl,rfl⟩
        go_wp2
        go_ret
        exact ⟨by rw [FIN.out]; rfl,rfl⟩
end Go.Proofs.YthjjfjhajadimaaGreatDoor
namespace Go.Proofs.YthjjfjhajadimaaGreatDoor
set_option maxRecDepth 100000
end Go.Proofs.YthjjfjhajadimaaGreatDoor
namespace Go.Proofs.YthjjfjhajadimaaGreatDoor
open Go.RowKit Go.WideShapes
set_option maxRecDepth 100000
theorem dslice (s:ByteArray) (a b:Nat):(s.extract a b).data.toList = (s.data.toList.drop a).take (b - a):=Lib.extract_data s a b
theorem dlen7 (s:ByteArray):s.data.toList.length = s.size:=by simp
theorem of_list {s:ByteArray} {l:List UInt8} (h:s.data.toList = l):s = ⟨l.toArray⟩:=by subst h; rfl
theorem slice10 (s:ByteArray) (hz:s.size = 256) (n:Nat) (hn:n<=234) (wx:World):(Instr.slice 9 (.string s) (some (.int .i64 10)) (some (.int .i64 (10 + (n:Int)))) none).run Tryz.prog wx = .ok (.string (s.extract 10 (10 + n))) wx:=by
 have:=run_slice_string (P:=Tryz.prog) wx 9 s .i64 .i64 10 (10 + (n:Int)) Tryz.underlying9 (by omega) (by omega) (by omega)
 rw [this,show (10 + (n:Int)).toNat = 10 + n by omega,show (10:Int).toNat = 10 by rfl]
def openV:Option (List UInt8)->Value
 | none=>.tuple #[.string ⟨#[]⟩,.bool false]
 | some p=>.tuple #[.string ⟨p.toArray⟩,.bool true]
theorem open_size {st:Nat} {s:List UInt8} (h:s.length ≠ 256):E.openS st s = none:=if_neg (fun k=>h k.1)
theorem open_wide {st:Nat} {s:List UInt8} (h:234 < E.size s):E.openS st s = none:=if_neg (fun k=>by have:=k.2.2.1; omega)
theorem open_zero {s:List UInt8}:E.openS 0 s = none:=if_neg (fun k=>k.2.1 rfl)
theorem open_no {st:Nat} {s:List UInt8} (h:s ≠ E.sct st (E.pay s)):E.openS st s = none:=if_neg (fun k=>h k.2.2.2)
theorem open_yes {st:Nat} {s:List UInt8} (h1:s.length = 256) (h2:st ≠ 0) (h3:E.size s<=234) (h:s = E.sct st (E.pay s)):E.openS st s = some (E.pay s):=if_pos ⟨h1,h2,h3,h⟩
theorem size_lt (l:List UInt8):E.size l < 65536:=by
 have h:=E.num_lt ((l.drop 8).take 2)
 have h2:((l.drop 8).take 2).length<=2:=by rw [List.length_take]; omega
 exact Nat.lt_of_lt_of_le h (Nat.le_trans (Nat.pow_le_pow_right (by decide) h2) (by decide))
set_option maxHeartbeats 1600000 in
theorem open_any (er el ef:Addr) (st:Nat) (s:ByteArray) (w:World) (hst:st < 18446744073709551616) (hE:E3 er el ef w) (hT:Tab w) :
  Calls Tryz.prog 170 #[.int .u64 st,.string s] w fun e w'=>e = .returned (openV (E.openS st s.data.toList))/\Qt w w':=by
 have hd:=dlen7 s
 by_cases hz:s.size = 256
 ·have hlow:=low_any (s.extract 8 10) w (by rw [ByteArray.size_extract]; omega)
  rw [dslice] at hlow
  have hn:E.num ((s.data.toList.drop 8).take (10 - 8)) = E.size s.data.toList:=rfl
  rw [hn] at hlow
  clear hn
  have hsl:=size_lt s.data.toList
  by_cases h234:234 < E.size s.data.toList
  ·have HV:=Lib.hid (congrArg openV (open_wide (st:=st) h234))
   clear hE hT hd
   generalize E.size s.data.toList = n at *
   go_enter Tryz.func170,Tryz.ntmps170
   go_wp2_with fail
   refine hlow.mono ?_
   rintro e w1 ⟨rfl,rfl⟩
   go_wp2
   go_ret2
   exact ⟨by rw [HV.out]; rfl,Qt.refl _⟩
  ·have hsli:=slice10 s hz (E.size s.data.toList) (by omega)
   have hpl:(s.extract 10 (10 + E.size s.data.toList)).data.toList = E.pay s.data.toList:=by
    rw [dslice,Nat.add_sub_cancel_left]; rfl
   have HP:=Lib.hid (of_list hpl)
   have hseal:=seal_any er el ef st (s.extract 10 (10 + E.size s.data.toList)) w hst hE hT
   rw [hpl] at hseal
   have hlp:=E.pay_length (raw:=s.data.toList) (by omega) (by omega)
   by_cases h0:st = 0
   ·subst h0
    have HV:=Lib.hid (congrArg openV (open_zero (s:=s.data.toList)))
    rw [show E.sealR 0 (E.pay s.data.toList) = ([],6) from if_pos rfl,show e3V er el ef 6 = .iface 335 (.pointer (some er)) from rfl] at hseal
    clear hE hT hd HP hpl hlp
    generalize E.size s.data.toList = n at *
    go_enter Tryz.func170,Tryz.ntmps170
    go_wp2_with fail
    refine hlow.mono ?_
    rintro e w1 ⟨rfl,rfl⟩
    clear hlow
    go_wp2_with fail
    refine hseal.mono ?_
    rintro e w1 ⟨rfl,k⟩
    have K:=Lib.hid k; clear k hseal
    go_wp2
    go_ret2
    exact ⟨by rw [HV.out]; rfl,K.out⟩
   ·rw [show E.sealR st (E.pay s.data.toList) = (E.sct st (E.pay s.data.toList),0) by unfold E.sealR; rw [if_neg h0,if_neg (by omega)],show e3V er el ef 0 = .nilIface from rfl] at hseal
    by_cases hq:s.data.toList = E.sct st (E.pay s.data.toList)
    ·have HV:=Lib.hid (congrArg openV (open_yes (st:=st) (by omega) h0 (by omega) hq))
     have hbe:(s.toList == E.sct st (E.pay s.data.toList)) = true:=by
      rw [Lib.toList_data]; exact beq_iff_eq.2 hq
     clear hE hT hd hpl hlp hq
     generalize E.sct st (E.pay s.data.toList) = sc at *
     generalize E.pay s.data.toList = pl at *
     generalize E.size s.data.toList = n at *
     go_enter Tryz.func170,Tryz.ntmps170
     go_wp2_with fail
     refine hlow.mono ?_
     rintro e w1 ⟨rfl,rfl⟩
     clear hlow
     go_wp2_with fail
     refine hseal.mono ?_
     rintro e w1 ⟨rfl,k⟩
     have K:=Lib.hid k; clear k hseal
     go_wp2
     go_ret2
     exact ⟨by rw [HV.out,HP.out]; rfl,K.out⟩
    ·have HV:=Lib.hid (congrArg openV (open_no hq))
     have hbe:(s.toList == E.sct st (E.pay s.data.toList)) = false:=by
      rw [Lib.toList_data]; exact beq_eq_false_iff_ne.2 hq
     clear hE hT hd HP hpl hlp hq
     generalize E.sct st (E.pay s.data.toList) = sc at *
     generalize E.size s.data.toList = n at *
     go_enter Tryz.func170,Tryz.ntmps170
     go_wp2_with fail
     refine hlow.mono ?_
     rintro e w1 ⟨rfl,rfl⟩
     clear hlow
     go_wp2_with fail
     refine hseal.mono ?_
     rintro e w1 ⟨rfl,k⟩
     have K:=Lib.hid k; clear k hseal
     go_wp2
     go_ret2
     exact ⟨by rw [HV.out]; rfl,K.out⟩
 ·have HV:=Lib.hid (congrArg openV (open_size (st:=st) (s:=s.data.toList) (by omega)))
  clear hE hT hd
  go_enter Tryz.func170,Tryz.ntmps170
  go_wp2
  go_ret2
  exact ⟨by rw [HV.out]; rfl,Qt.refl _⟩
theorem low_q (s:ByteArray) (w:World) (hs:s.size<=8):Calls Tryz.prog 218 #[.string s] w fun e w'=>e = .returned (.int .u64 (E.num s.data.toList:Nat))/\w' = w:=(low_any s w hs).mono fun _ _ h=>⟨h.1,h.2.symm⟩
theorem piece_text (s:ByteArray) (k:Nat) (hk:k < V.nsec s.size):(s.extract (k * 234) (min ((k + 1) * 234) s.size)).data.toList = V.piece s.data.toList k:=by
 have hlt:=V.nsec_lt hk
 have hl:s.data.toList.length = s.size:=by simp
 rw [dslice]
 unfold V.piece
 by_cases h:(k + 1) * 234<=s.size
 ·rw [show min ((k + 1) * 234) s.size - k * 234 = 234 by omega]
 ·rw [List.take_of_length_le (by rw [List.length_drop]; omega),List.take_of_length_le (by rw [List.length_drop]; omega)]
theorem slicePiece (s:ByteArray) (a e:Nat) (h1:a<=e) (h2:e<=s.size) (wx:World):(Instr.slice 9 (.string s) (some (.int .i64 (a:Int))) (some (.int .i64 (e:Int))) none).run Tryz.prog wx = .ok (.string (s.extract a e)) wx:=by
 have:=run_slice_string (P:=Tryz.prog) wx 9 s .i64 .i64 (a:Int) (e:Int) Tryz.underlying9 (by omega) (by omega) (by omega)
 rw [this,Int.toNat_natCast,Int.toNat_natCast]
theorem DS.writeD_grow (d:DS) (i:Int) (s:List UInt8):(d.writeD i s).ways.length<=d.ways.length + 1/\(d.writeD i s).wr<=d.wr + 1/\(d.writeD i s).fl = d.fl/\(d.writeD i s).cr = d.cr:=by
 unfold DS.writeD
 split
 ·exact ⟨by omega,by omega,rfl,rfl⟩
 ·split
  ·exact ⟨by omega,by omega,rfl,rfl⟩
  ·split
   ·exact ⟨by simp,by simp only; omega,rfl,rfl⟩
   ·exact ⟨by simp,by simp only; omega,rfl,rfl⟩
structure DS.GrowN (d:DS) (k:Nat) (u:DS):Prop where
 ways:u.ways.length<=d.ways.length + k
 wr:u.wr<=d.wr + k
 fl:u.fl = d.fl
 cr:u.cr = d.cr
theorem DS.GrowN.write {d u:DS} {k:Nat} (h:d.GrowN k u) (i:Int) (s:List UInt8):d.GrowN (k + 1) (u.writeD i s):=by
 have h1:=h.ways; have h2:=h.wr; have h3:=h.fl; have h4:=h.cr
 obtain ⟨g1,g2,g3,g4⟩:=DS.writeD_grow u i s
 exact ⟨by omega,by omega,by rw [g3,h3],by rw [g4,h4]⟩
theorem DS.GrowN.few {d u:DS} {k:Nat} (h:d.GrowN k u) (hf:d.FewA) (hk:k<=65536):u.Few:=by
 have h1:=h.ways; have h2:=h.wr; have h3:=h.fl; have h4:=h.cr
 have f1:=hf.ways; have f2:=hf.wr; have f3:=hf.fl; have f4:=hf.cr
 exact ⟨by omega,by omega,by omega,by omega⟩
def AWAt (S:Nat->Prop) (w0:World) (b:Nat) (d:DS) (i st:Nat) (v:List UInt8) (iv:Value) (wr:World):Prop :=
 ∃ (k:Nat) (uk:DS),k<=V.nsec v.length/\iv = .int .i64 k/\DiskAt wr b uk S/\Keeps S w0 wr/\DS.areaGo i st v (V.nsec v.length - k) k uk = DS.areaGo i st v (V.nsec v.length) 0 d/\d.GrowN k uk
theorem area_off {i st:Nat} {v:List UInt8} {d:DS} (h:d.off = true):∀ m k,DS.areaGo i st v m k d = (12,d)
 | 0,k=>by rw [DS.areaGo]; unfold DS.flushE DS.flushD; rw [if_pos h,if_pos h]
 | m + 1,k=>by
  have hr:d.reach ((i + k:Nat):Int) = 12:=by unfold DS.reach; rw [if_pos h]
  have h1:d.writeE ((i + k:Nat):Int) (E.sct st (V.piece v k)) = 12:=by unfold DS.writeE; rw [if_pos (by rw [hr]; decide),hr]
  have h2:d.writeD ((i + k:Nat):Int) (E.sct st (V.piece v k)) = d:=by unfold DS.writeD; rw [if_pos (by rw [hr]; decide)]
  rw [DS.areaGo,if_pos (by rw [h1]; decide),h1,h2]
theorem area_no {d:DS} {i n:Int} {st:Nat} {v:List UInt8} (h:d.refN i n st v.length ≠ 0):d.areaW i n st v = (d.refN i n st v.length,d):=by
 unfold DS.refN at h ⊢
 unfold DS.areaW
 by_cases h1:d.mayA i n st
 ·have hnot:¬ (¬ d.mayA i n st\/((v.length:Nat):Int) < 0):=by rintro (k | k); exact k h1; omega
  rw [if_neg hnot] at h ⊢
  rw [if_neg (fun k=>k h1)]
  rw [Int.toNat_natCast] at h ⊢
  by_cases h2:234 * min n.toNat 65536 < v.length
  ·rw [if_pos h2,if_pos h2]
  ·rw [if_neg h2] at h ⊢
   rw [if_neg h2]
   by_cases h3:d.off = true
   ·rw [if_pos h3,area_off h3]
   ·rw [if_neg h3] at h; exact absurd rfl h
 ·rw [if_pos (Or.inl h1),if_pos h1]
theorem area_yes {d:DS} {i n:Int} {st:Nat} {z:Int} (h:d.refN i n st z = 0):d.mayA i n st/\0<=z/\z.toNat<=234 * min n.toNat 65536/\d.off = false:=by
 unfold DS.refN at h
 split at h
 ·omega
 ·rename_i h1
  split at h
  ·omega
  ·split at h
   ·omega
   ·rename_i h2 h3
    exact ⟨Decidable.not_not.1 (fun k=>h1 (.inl k)),by omega,by omega,by simpa using h3⟩
theorem wrapA_add {i k:Nat} (h1:i<=65536) (h2:k<=65536):wrap64 ((i:Int) + (k:Int)) = (i:Int) + (k:Int):=by unfold wrap64; omega
theorem wrapA_mul {k a:Nat} (ha:k * 234 = a):(k:Int) * 234 = (a:Int):=by omega
theorem wrapA_end {a z e:Nat} (h:e<=15335424) (he:a + z = e):wrap64 ((a:Int) + (z:Int)) = (e:Int):=by unfold wrap64; omega
theorem measA {k n:Nat} (h:k < n):n - (intOf (.int .i64 ((k:Int) + 1))).toNat < n - (intOf (.int .i64 (k:Int))).toNat:=by simp [intOf]; omega
theorem subA {K k:Nat} (h:k < K):K - k = (K - (k + 1)) + 1:=by omega
theorem castA_lt {k n:Nat} (h:k < n):decide ((k:Int) < (n:Int)) = true:=decide_eq_true (by omega)
theorem castA_ge {k n:Nat} (h:n<=k):decide ((k:Int) < (n:Int)) = false:=decide_eq_false (by omega)
theorem castA_le {k:Nat} (h:k<=65536):(k:Int)<=65536:=by omega
theorem cutA {k n a z e:Nat} (h:k * 234 < n) (ha:k * 234 = a) (hz:min 234 (n - a) = z) (he:a + z = e):a<=e/\e<=n/\min ((k + 1) * 234) n = e:=by omega
set_option maxHeartbeats 3200000 in
theorem awrite_any (ad:Nat->Addr):AWriteH ad:=by
 intro S w0 w b d R hS h hf i n st s hst hn
 have RF:=arefuse_any ad (R.errs' hS) h i n st (s.size:Int) hn
 have hl:s.data.toList.length = s.size:=by simp
 by_cases hz:d.refN i n st (s.size:Int) = 0
 ·obtain ⟨hm,-,hr,ho⟩:=area_yes hz
  rw [hz,errV_zero] at RF
  rw [Int.toNat_natCast] at hr
  obtain ⟨i,rfl⟩:=Int.eq_ofNat_of_zero_le hm.1
  have FIN:=Lib.hid (show d.areaW i n st s.data.toList = DS.areaGo i st s.data.toList (V.nsec s.data.toList.length) 0 d by unfold DS.areaW; rw [if_neg (fun k=>k hm),if_neg (by omega),Int.toNat_natCast])
  have hz2:s.size<=15335424:=by omega
  have hK:V.nsec s.data.toList.length<=65536:=by rw [hl]; unfold V.nsec; omega
  have hi:i<=65536:=by
   have h1:=hm.2.2.1
   obtain ⟨gd,mb,uv,P,_⟩:=h
   have:=P.ok.le
   omega
  have h0:=hm.2.2.2.2
  have SC:=asecs_any (s.size:Int) w (by omega)
  rw [secsZ_nat] at SC
  have START:=Lib.hid (show AWAt S w0 b d i st s.data.toList (.int .i64 0) w from ⟨0,d,Nat.zero_le _,rfl,h,hS,rfl,⟨by omega,by omega,rfl,rfl⟩⟩)
  have HR:=Lib.hid R
  have HFA:=Lib.hid hf
  have HL:=Lib.hid hl
  have HKB:=Lib.hid hK
  have HI:=Lib.hid hi
  have HZ2:=Lib.hid hz2
  have HS:=Lib.hid (show st ≠ 0/\st < 18446744073709551616 from ⟨h0,hst⟩)
  clear hm h hf hr hst h0 hz R hS ho hn hl hK hi hz2
  go_enter Tryz.func121,Tryz.ntmps121
  go_wp2_with fail
  refine RF.mono ?_
  rintro e w1 ⟨rfl,rfl⟩
  go_wp2_with fail
  refine SC.mono ?_
  rintro e w2 ⟨rfl,rfl⟩
  go_wp2
  go_loopw [30] (fun iv wr=>AWAt S w0 b d i st s.data.toList iv wr) (fun iv _=>V.nsec s.size - (intOf iv).toNat)
  case atStart=>exact START.out
  case round =>
   obtain ⟨k,uk,hk,rfl,hP,hkeep,hgo,hgr⟩:=hrel
   have hk2:k<=V.nsec s.size:=by rw [<- HL.out]; exact hk
   have HP:=Lib.hid hP
   have HK:=Lib.hid hkeep
   have HG:=Lib.hid hgr
   have hk65:k<=65536:=Nat.le_trans hk HKB.out
   have HF:=Lib.hid (hgr.few HFA.out hk65)
   by_cases hlt:k < V.nsec s.size
   ·have hmm:=subA (show k < V.nsec s.data.toList.length by rw [HL.out]; exact hlt)
    rw [hmm,DS.areaGo] at hgo
    have h234:=V.nsec_lt hlt
    have PS:=apiece_any s.size k h234 HZ2.out
    obtain ⟨a,ha⟩:∃ a,k * 234 = a:=⟨_,rfl⟩
    obtain ⟨z,hz⟩:∃ z,min 234 (s.size - a) = z:=⟨_,rfl⟩
    obtain ⟨e,he⟩:∃ e,a + z = e:=⟨_,rfl⟩
    have hae:=cutA h234 ha hz he
    have PT:=piece_text s k hlt
    have SL:=slicePiece s a e hae.1 hae.2.1
    rw [ha,hz] at PS
    rw [hae.2.2,ha] at PT
    obtain ⟨P,hP2⟩:∃ P,s.extract a e = P:=⟨_,rfl⟩
    rw [hP2] at PT SL
    have hpz:P.size<=234:=by rw [<- dlen7,PT]; exact V.piece_le _ _
    obtain ⟨Z,hZ⟩:∃ Z:ByteArray,Z = ⟨(E.sct st (V.piece s.data.toList k)).toArray⟩:=⟨_,rfl⟩
    have hZl:strL Z = E.sct st (V.piece s.data.toList k):=by rw [hZ]; rfl
    have S2:=Lib.hid (show ∀ W,Keeps S w0 W->Calls Tryz.prog 180 #[.int .u64 st,.string P] W fun e w'=>e = .returned (.tuple #[.string Z,.nilIface])/\Qt W w' from fun W q=>by
     have S1:=seal_any (ad 6) (ad 3) (ad 7) st P W HS.out.2 (HR.out.errs' q).e3 (HR.out.tab' q)
     rw [show E.sealR st P.data.toList = (E.sct st (V.piece s.data.toList k),0) by unfold E.sealR; rw [if_neg HS.out.1,if_neg (by rw [dlen7]; omega),PT]] at S1
     rw [hZ]; exact S1)
    have WR:=Lib.hid (fun W (q:DiskAt W b uk S) (hq:Keeps S w0 W)=>(show Calls Tryz.prog 182 #[.pointer (some ⟨b,0,none⟩),.int .i64 ((i:Int) + (k:Int)),.string Z] W fun e w'=>e = .returned (errV ad (uk.writeE ((i + k:Nat):Int) (E.sct st (V.piece s.data.toList k))))/\DiskAt w' b (uk.writeD ((i + k:Nat):Int) (E.sct st (V.piece s.data.toList k))) S/\Keeps S w0 w' from by
     have h:=room_write HR.out hq q HF.out ((i + k:Nat):Int) Z
     rw [hZl,Int.natCast_add] at h
     rw [Int.natCast_add]
     exact h))
    have hai:=wrapA_mul ha
    have hei:=wrapA_end (Nat.le_trans hae.2.1 HZ2.out) he
    have hki:=wrapA_add HI.out hk65
    have hkb:=castA_le hk65
    have zlt:=castA_lt hlt
    have zlt':decide (k < V.nsec s.size) = true:=decide_eq_true hlt
    have HLT:=Lib.hid hlt
    have HGO:=Lib.hid hgo
    have HK65:=Lib.hid hk65
    clear hP hkeep hgr hgo hmm PT hZ hZl hP2 ha he hz h234 hpz hlt hk hk2 hae hk65
    go_wp2_with fail
    refine (PS _).mono ?_
    rintro e2 w4 ⟨rfl,rfl⟩
    go_wp2_with fail
    refine (S2.out w4 HK.out).mono ?_
    rintro e3 w5 ⟨rfl,q5⟩
    have P5:=Lib.hid (HP.out.qt q5)
    have K5:=Lib.hid (keeps_qt HK.out q5)
    clear q5
    have W5:=WR.out w5 P5.out K5.out
    by_cases hE:uk.writeE ((i + k:Nat):Int) (E.sct st (V.piece s.data.toList k)) = 0
    ·have GO:=HGO.out
     rw [if_neg (fun h=>h hE)] at GO
     rw [hE,errV_zero] at W5
     have NXT:=Lib.hid (fun W (q:DiskAt W b (uk.writeD ((i + k:Nat):Int) (E.sct st (V.piece s.data.toList k))) S) (kk:Keeps S w0 W)=>(show AWAt S w0 b d i st s.data.toList (.int .i64 ((k:Int) + 1)) W from
      ⟨k + 1,_,by rw [HL.out]; exact HLT.out,by push_cast; rfl,q,kk,GO,HG.out.write _ _⟩))
     clear GO hE
     go_wp2_with fail
     refine W5.mono ?_
     rintro e4 w6 ⟨rfl,p6,k6⟩
     have FN:=Lib.hid (NXT.out w6 p6 k6)
     clear p6 k6 W5
     go_wp2
     exact ⟨FN.out,measA HLT.out⟩
    ·have GO:=HGO.out
     rw [if_pos hE] at GO
     rw [errV_pos ad (Nat.pos_of_ne_zero hE)] at W5
     have FN:=Lib.hid (fun W (q:DiskAt W b (uk.writeD ((i + k:Nat):Int) (E.sct st (V.piece s.data.toList k))) S) (kk:Keeps S w0 W)=>(show (.returned (.iface 335 (.pointer (some (ad (uk.writeE ((i + k:Nat):Int) (E.sct st (V.piece s.data.toList k))))))):Ending) = .returned (errV ad (d.areaW (i:Int) n st s.data.toList).1)/\DiskAt W b (d.areaW (i:Int) n st s.data.toList).2 S/\Keeps S w0 W from by
      rw [FIN.out,<- GO]; exact ⟨by rw [errV_pos ad (Nat.pos_of_ne_zero hE)],q,kk⟩))
     clear GO hE
     generalize uk.writeE ((i + k:Nat):Int) (E.sct st (V.piece s.data.toList k)) = x at *
     go_wp2_with fail
     refine W5.mono ?_
     rintro e4 w6 ⟨rfl,p6,k6⟩
     have FM:=Lib.hid (FN.out w6 p6 k6)
     clear p6 k6 W5
     go_wp2
     go_ret
     exact FM.out
   ·obtain rfl:k = V.nsec s.data.toList.length:=Nat.le_antisymm hk (by rw [HL.out]; exact Nat.le_of_not_lt hlt)
    rw [Nat.sub_self,DS.areaGo] at hgo
    have zlt:=castA_ge (k:=V.nsec s.data.toList.length) (n:=V.nsec s.size) (by rw [HL.out]; exact Nat.le_refl _)
    have zlt':decide (V.nsec s.data.toList.length < V.nsec s.size) = false:=decide_eq_false (by rw [HL.out]; exact Nat.lt_irrefl _)
    have FL:=Lib.hid (room_flush HR.out hkeep hP HF.out)
    have FN:=Lib.hid (fun W (q:DiskAt W b uk.flushD S) (kk:Keeps S w0 W)=>(show (.returned (errV ad uk.flushE):Ending) = .returned (errV ad (d.areaW (i:Int) n st s.data.toList).1)/\DiskAt W b (d.areaW (i:Int) n st s.data.toList).2 S/\Keeps S w0 W from by
     rw [FIN.out,<- hgo]; exact ⟨rfl,q,kk⟩))
    clear hP hkeep hgr hgo hlt hk hk2 hk65
    generalize V.nsec s.data.toList.length = K at *
    generalize V.nsec s.size = K2 at *
    go_wp2_with fail
    refine FL.out.mono ?_
    rintro e4 w6 ⟨rfl,p6,k6⟩
    have FM:=Lib.hid (FN.out w6 p6 k6)
    clear p6 k6
    go_wp2
    go_ret
    exact FM.out
 ·have FIN:=Lib.hid (show d.areaW i n st s.data.toList = (d.refN i n st (s.size:Int),d) by
   have h2:=area_no (d:=d) (i:=i) (n:=n) (st:=st) (v:=s.data.toList) (by rw [hl]; exact hz)
   rw [hl] at h2
   exact h2)
  have hp:=Nat.pos_of_ne_zero hz
  have FM:=Lib.hid (show (.returned (.iface 335 (.pointer (some (ad (d.refN i n st (s.size:Int)))))):Ending) = .returned (errV ad (d.areaW i n st s.data.toList).1)/\DiskAt w b (d.areaW i n st s.data.toList).2 S/\Keeps S w0 w from by
   rw [FIN.out]; exact ⟨by rw [errV_pos ad hp],h,hS⟩)
  rw [errV_pos ad hp] at RF
  clear hz h hS hp
  generalize d.refN i n st (s.size:Int) = x at *
  go_enter Tryz.func121,Tryz.ntmps121
  go_wp2_with fail
  refine RF.mono ?_
  rintro e w1 ⟨rfl,rfl⟩
  go_wp2
  go_ret
  exact FM.out
end Go.Proofs.YthjjfjhajadimaaGreatDoor
