/-
  Joined: JCodeG, NewT, JRLAt, WireW, WireR, JCodeH, JCodeR, SmallJ.
-/
import Derived.Test.YthjjfjhajadimaaGreatDoorP23
import Derived.Deep.RegionHeld3
import Derived.LoopTactic
import Derived.Test.YthjjfjhajadimaaGreatDoorP18
import Derived.IntWalk
namespace Go.Proofs.YthjjfjhajadimaaGreatDoor
open Go.RowKit Go.WideShapes
set_option maxRecDepth 100000
set_option maxHeartbeats 800000 in
set_option maxHeartbeats 800000 in
theorem jbegin_any (ad:Nat->Addr) {w:World} {b:Nat} {d:DS} {S:Nat->Prop} (hE:Errs ad w) (h:DiskAt w b d S) (i n v:Int) (hn:n<=9223372036854775807) :
  Calls Tryz.prog 125 #[.pointer (some ⟨b,0,none⟩),.int .i64 i,.int .i64 n,.int .i64 v] w (JBeginP ad w b d i n v):=by
 obtain ⟨WA,hWA,QA,hb⟩:=place_new w b i n v
 have R1:=jrefuse_any ad (hE.kept QA (OffErrs.none ad)) (DiskAt.qt h QA) i n v hn
 have HWA:=Lib.hid hWA
 have HQA:=Lib.hid QA
 have HB:=Lib.hid hb
 obtain ⟨d0,d1,d2,d3⟩:=place_cells hb
 have LF:=Lib.hid (fun W (k:Qt WA W)=>life_same (DiskAt.qt h (Qt.trans QA k)))
 unfold placeV at R1
 by_cases hr:J.refE d i n v = 0
 ·have hm:J.may d i n v:=by
   unfold J.refE at hr
   split at hr
   ·omega
   ·rename_i h1
    exact Decidable.not_not.1 h1
  obtain ⟨i,n,v,rfl,rfl,rfl,_,_,_,_⟩:=may_yes hm
  have FIN:=Lib.hid (fun (e:Ending) (w':World) (q:Nat) (hq:w.heap.size<=q) (he:e = .returned (.tuple #[.pointer (some ⟨q,0,none⟩),.nilIface])) (k:Qt w w') (hc:CJ w' q b ⟨(i:Int).toNat,(n:Int).toNat,(v:Int).toNat,0,false,d.cr⟩)=>(show JBeginP ad w b d i n v e w' from ⟨k,by rw [if_pos hr]; exact ⟨q,hq,he,hc⟩⟩))
  rw [hr,errV_zero] at R1
  clear hE h hr hm hWA QA hb hn
  go_enter Tryz.func125,Tryz.ntmps125
  go_wp2_with fail
  rw [HWA.out]
  refine R1.mono ?_
  rintro e w1 ⟨rfl,q1⟩
  have Q1:=Lib.hid q1
  clear d0 d1 d2 d3 R1
  obtain ⟨d0,d1,d2,d3⟩:=place_cells (place_qt HB.out q1)
  clear q1
  have QD:=Lib.hid (Keeps.drew Q1.out)
  have KC:=Lib.hid (fun (W:World) (q:Qt WA W)=>place_cells (place_qt HB.out q))
  go_wp2_with fail
  go_region_held3 (fun W'=>W'.cell? ⟨w.heap.size,0,none⟩ = some (.pointer (some ⟨b,0,none⟩))/\W'.cell? ⟨w.heap.size,1,none⟩ = some (.int .i64 (i:Int))/\W'.cell? ⟨w.heap.size,2,none⟩ = some (.int .i64 (n:Int))/\W'.cell? ⟨w.heap.size,3,none⟩ = some (.int .i64 (v:Int)))
   (first | exact KC.out _ QD.out | exact KC.out _ (Keeps.drew (Keeps.alloc Q1.out _)) | exact KC.out _ (Keeps.alloc QD.out _))
   (first
    | (go_at_call 88; refine (LF.out _ QD.out).mono ?_; rintro e w2 ⟨rfl,rfl⟩))
  go_wp2
  go_ret2
  exact FIN.out _ _ w1.heap.size (Nat.le_trans HQA.out.size Q1.out.size) rfl (Keeps.drew (Keeps.alloc (Qt.trans HQA.out Q1.out) _)) (heap_alloc_new w1 _)
 ·have FIN:=Lib.hid (fun (e:Ending) (w':World) (he:e = .returned (.tuple #[.pointer none,.iface 335 (.pointer (some (ad (J.refE d i n v))))])) (k:Qt w w')=>(show JBeginP ad w b d i n v e w' from ⟨k,by rw [if_neg hr,errV_pos ad (Nat.pos_of_ne_zero hr)]; exact he⟩))
  rw [errV_pos ad (Nat.pos_of_ne_zero hr)] at R1
  clear hE h hr hWA QA hb hn
  generalize J.refE d i n v = x at *
  go_enter Tryz.func125,Tryz.ntmps125
  go_wp2_with fail
  rw [HWA.out]
  refine R1.mono ?_
  rintro e w1 ⟨rfl,q1⟩
  have Q1:=Lib.hid (Qt.trans HQA.out q1)
  clear d0 d1 d2 d3 R1 q1
  go_wp2
  go_ret2
  exact FIN.out _ _ rfl Q1.out
end Go.Proofs.YthjjfjhajadimaaGreatDoor
namespace Go.Proofs.YthjjfjhajadimaaGreatDoor
open Go.RowKit
set_option maxRecDepth 100000
theorem infoStrT:(Tryz.prog.info? 9).map (fun i=>(i.zero,i.size,i.bytes)) = some (some (.string ⟨#[]⟩),1,16):=by kernel_rfl
structure NewT (w wr:World) (v:Value) (l:List (List UInt8)):Prop where
 own:wr.ownsRow 0 9 1 v l.length (l.map strV)
 new:∀ g,v.ownBlock = some g->w.heap.size<=g
 qt:Qt w wr
theorem NewT.nil {w wr:World} (q:Qt w wr):NewT w wr (.slice none 0 0) []:=⟨World.ownsRow_nil wr 0 _ 1,fun g h=>(by cases h),q⟩
theorem NewT.quiet {w wr w2:World} {v:Value} {l:List (List UInt8)} (h:NewT w wr v l) (k:Qt wr w2):NewT w w2 v l:=⟨ownsRow_kept h.own k (fun _ _ e=>e),h.new,Qt.trans h.qt k⟩
theorem NewT.later {w wr w2 w3:World} {v v':Value} {l:List (List UInt8)} {t:List UInt8} (h:NewT w wr v l) (k:Qt wr w2) (hown:w3.ownsRow 0 9 1 v' (l.length + 1) (l.map strV ++ [strV t])) (hg:w2.grownBy w3 v.ownBlock) (hl:Later w2 v.ownBlock v'.ownBlock):NewT w w3 v' (l ++ [t]):=by
 have q2:=Qt.trans h.qt k
 refine ⟨?_,fun g hg'=>?_,?_⟩
 ·rw [List.length_append,List.map_append]; exact hown
 ·rcases hl with e | ⟨x,e,hx⟩
  ·exact h.new g (e ▸ hg')
  ·rw [hg'] at e
   injection e with e
   subst e
   exact Nat.le_trans q2.size hx
 ·exact Keeps.grown q2 hg (fun j hj e=>by have:=h.new j e.symm; omega)
theorem NewT.shape {w wr:World} {v:Value} {l:List (List UInt8)} (h:NewT w wr v l):∃ a c,v = .slice a l.length c:=by
 rcases h.own.2 with ⟨e,h0⟩ | ⟨g,cap,cur,e,_⟩
 ·exact ⟨none,0,by rw [e,h0]⟩
 ·exact ⟨_,_,e⟩
theorem newT_cell {w wr:World} {a:Option Addr} {n c:Nat} {l:List (List UInt8)} (h:NewT w wr (.slice a n c) l) {k:Nat} {t:List UInt8} (hk:l[k]? = some t):∃ g,a = some ⟨g,0,none⟩/\wr.cell? ⟨g,k,none⟩ = some (strV t):=by
 rcases h.own.2 with ⟨e,h0⟩ | ⟨g,cap,cur,e,_⟩
 ·have:=(List.getElem?_eq_some_iff.1 hk).1
  omega
 ·injection e with e1 e2 e3
  subst e1
  refine ⟨g,rfl,?_⟩
  have hx:(l.map strV)[k]? = some (strV t):=by rw [List.getElem?_map,hk]; rfl
  have hc:=h.own.cells (g:=g) rfl k (strV t) hx
  have e:((⟨g,0,none⟩:Addr).add k) = ⟨g,k,none⟩:=by unfold Addr.add; split <;> simp_all
  rw [e] at hc
  exact hc
def RLAt (w:World) (s:Nat->Option (List UInt8)) (n:Nat) (ov iv:Value) (wr:World):Prop :=
 ∃ (p:Nat) (out:List (List UInt8)),p<=n/\iv = .int .i64 p/\NewT w wr ov out/\out ++ J.log s n (n - p) p = J.logAll s n/\out.length<=p
theorem RLAt.more {w wr w2 w3:World} {s:Nat->Option (List UInt8)} {n p:Nat} {out:List (List UInt8)} {t:List UInt8} {ov v':Value} (hl:out ++ J.log s n (n - p) p = J.logAll s n) (hr:J.rec s n p = some t) (ho:out.length<=p) (h:NewT w wr ov out) (k:Qt wr w2)
  (hown:w3.ownsRow 0 9 1 v' (out.length + 1) (out.map strV ++ [strV t])) (hg:w2.grownBy w3 ov.ownBlock) (hlt:Later w2 ov.ownBlock v'.ownBlock):RLAt w s n v' (.int .i64 ((p + J.cost t.length:Nat):Int)) w3:=by
 have hc:=J.cost_pos t.length
 refine ⟨p + J.cost t.length,out ++ [t],(J.rec_whole hr).room,rfl,h.later k hown hg hlt,?_,by rw [List.length_append]; show out.length + 1<=_; omega⟩
 rw [<- hl,J.log_step hr]
 simp
theorem newsT (W:World) (v:Value):∀ (j:Nat) u,[v][j]? = some u->(W.alloc (.cells #[v] 9)).cell? ((⟨W.heap.size,0,none⟩:Addr).add j) = some u:=by
 intro j u hj
 match j,hj with
 | 0,hj=>simp at hj; subst hj; simp [Addr.add]
def LowWAt (b:Nat) (r:Option Nat) (l:List UInt8) (n x:Nat) (w:World) (v i:Value) (wr:World):Prop :=
 ∃ (k:Nat) (r1:Option Nat),k<=n/\i = .int .i64 k/\v = .int .u64 ((x / 256 ^ k:Nat):Int)/\Wr b r1 (l ++ lowB k x) wr/\Kept b r r1 w wr
theorem LowWAt.more {b:Nat} {r r1:Option Nat} {l:List UInt8} {n x k y:Nat} {w wr w1:World} (hk:k < n) (hy:x / 256 ^ k = y) (kk:Kept b r r1 w wr) {c:Int} (hc:c = (y:Int) % 256)
  (h1:Wrote b r1 ((l ++ lowB k x) ++ [c.toNat.toUInt8]) wr w1):LowWAt b r l n x w (.int .u64 ((y:Int) / 256)) (.int .i64 ((k:Int) + 1)) w1:=by
 obtain ⟨r2,h2,k2⟩:=h1
 refine ⟨k + 1,r2,by omega,by simp,?_,?_,kk.trans k2⟩
 ·rw [Nat.pow_succ,<- Nat.div_div_eq_div_mul,hy]; simp
 ·rw [lowB_snoc,hy]
  subst hc
  rw [show ((y:Int) % 256).toNat = y % 256 by omega,List.append_assoc] at h2
  exact h2
set_option maxHeartbeats 400000 in
theorem wlow_any (b:Nat) (r:Option Nat) (l:List UInt8) (n x:Nat) (w:World) (h:Wr b r l w) (hlen:l.length + n<=140737488355328) (hx:x < 18446744073709551616) :
  Calls Tryz.prog 264 #[.pointer (some ⟨b,0,none⟩),.int .u64 x,.int .i64 n] w fun e w'=>e = .returned (.tuple #[])/\Wrote b r (l ++ lowB n x) w w':=by
 go_enter Tryz.func264,Tryz.ntmps264
 go_wp2
 go_loopw [1,7] (fun v i wr=>LowWAt b r l n x w v i wr) (fun _ i _=>n - (intOf i).toNat)
 case atStart=>exact ⟨0,r,Nat.zero_le _,rfl,by simp,by simpa [lowB] using h,Kept.refl _ _ _⟩
 case round =>
  obtain ⟨k,r1,hkn,rfl,rfl,hw,kk⟩:=hrel
  by_cases hlt:k < n
  ·obtain ⟨y,hy⟩:∃ y,x / 256 ^ k = y:=⟨_,rfl⟩
   have hyx:y < 18446744073709551616:=by rw [<- hy]; exact Nat.lt_of_le_of_lt (Nat.div_le_self _ _) hx
   rw [hy]
   have Hy:=Lib.hid hy; clear hy
   have hroom:(l ++ lowB k x).length + 1<=140737488355328:=by rw [List.length_append,lowB_length]; omega
   go_wp2_with fail
   refine (wbyte_any b r1 _ _ _ hw hroom (by omega) (by omega)).mono ?_
   rintro e w1 ⟨rfl,h1⟩
   have fin:=LowWAt.more hlt Hy.out kk rfl h1
   clear h1 kk
   have fin':=Lib.hid fin; clear fin
   go_wp2
   go_roundw
   case rel=>exact fin'.out
   case measure=>simp [intOf]; omega
  ·obtain rfl:k = n:=by omega
   clear hlt
   go_wp2
   go_end0
   exact ⟨rfl,r1,hw,kk⟩
theorem wfixed_any (b:Nat) (r:Option Nat) (l:List UInt8) (x:Nat) (w:World) (h:Wr b r l w) (hlen:l.length + 8<=140737488355328) (hx:x < 18446744073709551616) :
  Calls Tryz.prog 236 #[.pointer (some ⟨b,0,none⟩),.int .u64 x] w fun e w'=>e = .returned (.tuple #[])/\Wrote b r (l ++ lowB 8 x) w w':=by
 go_enter Tryz.func236,Tryz.ntmps236
 go_wp2_with fail
 refine (wlow_any b r l 8 x _ h hlen hx).mono ?_
 rintro e w' ⟨rfl,h1⟩
 go_wp2
 go_end0
 exact ⟨rfl,h1⟩
set_option maxHeartbeats 400000 in
theorem rfixed_ok (b:Nat) (s:ByteArray) (p:Nat) (w:World) (h:Rd b s p w) (hn:p + 8<=s.size) :
  Calls Tryz.prog 265 #[.pointer (some ⟨b,0,none⟩)] w fun y w'=>y = .returned (.tuple #[.int .u64 ((lowN ((rest s p).take 8):Nat):Int),.nilIface])/\Moved b s (p + 8) w w':=by
 have hv:=Lib.hid (rtake_ok b s p 8 w h hn)
 have hq:=Lib.hid (fun w=>number_take s p 8 w hn (by omega))
 clear h
 generalize s.extract p (p + 8) = t at hv hq
 generalize lowN ((rest s p).take 8) = x at hq ⊢
 go_enter Tryz.func265,Tryz.ntmps265
 go_wp2_with fail
 refine hv.out.mono ?_
 rintro x w' ⟨rfl,hm⟩
 go_wp2_with fail
 refine (hq.out w').mono ?_
 rintro x w1 ⟨rfl,rfl⟩
 go_wp2
 go_ret2
 exact ⟨rfl,hm⟩
theorem low_lowB:∀ n x,lowB n x = E.low n x
 | 0,_=>rfl
 | n + 1,x=>by
  rw [lowB,E.low,low_lowB n]
  congr 1
  apply UInt8.toNat_inj.1
  rw [toUInt8_toNat (by omega),E.u8_mod]
theorem lowN_num:∀ l,lowN l = E.num l
 | []=>rfl
 | b :: r=>by rw [lowN,E.num,lowN_num r]
theorem low_take:∀ (m n x:Nat),m<=n->(E.low n x).take m = E.low m x
 | 0,n,x,_=>rfl
 | m + 1,0,x,h=>by omega
 | m + 1,n + 1,x,h=>by rw [E.low,E.low,List.take_succ_cons,low_take m n _ (by omega)]
theorem slice_to (s:ByteArray) (n:Nat) (h:n<=s.size) (W:World):(Instr.slice 9 (.string s) none (some (.int .i64 (n:Int))) none).run Tryz.prog W = .ok (.string (s.extract 0 n)) W:=by
 have e:=run_slice_string_to_if (P:=Tryz.prog) (w:=W) 9 s .i64 (n:Int) Tryz.underlying9
 rw [if_pos ⟨by omega,by omega⟩,Int.toNat_natCast] at e
 exact e
theorem slice_in (s:ByteArray) (a b:Nat) (h1:a<=b) (h2:b<=s.size) (W:World):(Instr.slice 9 (.string s) (some (.int .i64 (a:Int))) (some (.int .i64 (b:Int))) none).run Tryz.prog W = .ok (.string (s.extract a b)) W:=by
 have:=run_slice_string (P:=Tryz.prog) W 9 s .i64 .i64 (a:Int) (b:Int) Tryz.underlying9 (by omega) (by omega) (by omega)
 rw [this,Int.toNat_natCast,Int.toNat_natCast]
theorem jhead_any (z k:Nat) (hz:z < 18446744073709551616) (w:World):Calls Tryz.prog 197 #[.int .i64 z,.int .i64 k] w fun e w'=>e = .returned (.string ⟨(J.headZ z k).toArray⟩)/\Qt w w':=by
 cases k with
 | succ k =>
  have y:decide (0 < ((k + 1:Nat):Int)) = true:=decide_eq_true (by omega)
  have y2:decide (0 < (k:Int) + 1) = true:=decide_eq_true (by omega)
  go_enter Tryz.func197,Tryz.ntmps197
  go_wp2
  go_ret
  exact ⟨rfl,Qt.refl _⟩
 | zero =>
  have wz:IntKind.u64.wrap (z:Int) = (z:Int):=by rw [IntKind.wrap_u64]; omega
  have NEW:=wnew_any w
  go_enter Tryz.func197,Tryz.ntmps197
  go_wp2_with fail
  refine NEW.mono ?_
  rintro e w1 ⟨rfl,r1,k1,s1⟩
  have FX:=wfixed_any w.heap.size none [] z w1 r1 (by decide) hz
  have K1:=Lib.hid k1
  have S1:=Lib.hid s1
  clear r1 k1 s1 NEW
  go_wp2_with fail
  refine FX.mono ?_
  rintro e w2 ⟨rfl,r,r2,k2⟩
  have OU:=wout_any w.heap.size r _ w2 r2
  have HK2:=Lib.hid k2
  obtain ⟨X,hX,hXs,hX4⟩:∃ X:ByteArray,ByteArray.mk ([] ++ lowB 8 z).toArray = X/\4<=X.size/\X.extract 0 4 = ByteArray.mk (E.low 4 z).toArray:=⟨_,rfl,by simp [ByteArray.size,lowB_length],by
   apply ByteArray.ext
   rw [ByteArray.data_extract]
   apply Array.toList_inj.1
   simp [low_lowB,low_take 4 8 z (by decide)]⟩
  have SL:∀ W:World,(Instr.slice 9 (.string X) none (some (.int .i64 4)) none).run Tryz.prog W = .ok (.string (X.extract 0 4)) W:=slice_to X 4 hXs
  rw [hX4] at SL
  rw [hX] at OU
  clear hX4 hXs
  clear r2 k2 FX hX
  go_wp2_with fail
  refine OU.mono ?_
  rintro e w3 ⟨rfl,_,k3⟩
  have FIN:=Lib.hid (show Qt w w3 from Keeps.trans (S:=fun _=>False) (Keeps.trans (S:=fun _=>False) K1.out HK2.out.keeps (fun i hi e=>by
   rcases e with e | e
   ·omega
   ·cases e)) k3 (fun i hi e=>by
    rcases HK2.out.later with q | ⟨g,q,hg⟩
    ·rw [q] at e; cases e
    ·rw [q] at e; injection e with e; have:=S1.out; omega))
  obtain ⟨Y,hY⟩:∃ Y:ByteArray,ByteArray.mk (E.low 4 z).toArray = Y:=⟨_,rfl⟩
  have HY:=Lib.hid (show (⟨(J.headZ z 0).toArray⟩:ByteArray) = (⟨#[1]⟩:ByteArray) ++ Y by
   rw [<- hY]
   apply ByteArray.ext
   simp [J.headZ])
  rw [hY] at SL
  have hb:¬ (9223372036854775807 < 1 + Y.size):=by rw [<- hY]; simp [ByteArray.size,E.low_length]
  clear k3 OU hY
  go_wp2
  go_ret
  exact ⟨by rw [HY.out]; rfl,FIN.out⟩
theorem sizeIn_text (p:List UInt8):lowN ((((p.drop 1).take 4) ++ [0,0,0,0]).take 8) = J.sizeOf p:=by
 unfold J.sizeOf
 have h:((p.drop 1).take 4).length<=4:=by rw [List.length_take]; omega
 rw [List.take_of_length_le (by simp; omega),lowN_num,E.num_append,show E.num [0,0,0,0] = 0 from rfl]
 rfl
theorem jsizeIn_any (s:ByteArray) (w:World):Calls Tryz.prog 241 #[.string s] w fun e w'=>e = .returned (.tuple #[.int .i64 ((if s.size < 5 then 0 else J.sizeOf s.data.toList:Nat):Int),.bool (decide (5<=s.size))])/\Qt w w':=by
 by_cases h5:s.size < 5
 ·have y:decide ((s.size:Int) < 5) = true:=decide_eq_true (by omega)
  have F1:=Lib.hid (show decide (5<=s.size) = false from decide_eq_false (by omega))
  rw [if_pos h5]
  clear h5
  go_enter Tryz.func241,Tryz.ntmps241
  go_wp2
  go_ret2
  exact ⟨by rw [F1.out]; rfl,Qt.refl _⟩
 ·have y:decide ((s.size:Int) < 5) = false:=decide_eq_false (by omega)
  have F1:=Lib.hid (show decide (5<=s.size) = true from decide_eq_true (by omega))
  rw [if_neg h5]
  have SL:∀ W:World,(Instr.slice 9 (.string s) (some (.int .i64 1)) (some (.int .i64 5)) none).run Tryz.prog W = .ok (.string (s.extract 1 5)) W:=slice_in s 1 5 (by decide) (by omega)
  obtain ⟨T,hT,hTs,hTl⟩:∃ T:ByteArray,T = s.extract 1 5/\T.size = 4/\T.data.toList = (s.data.toList.drop 1).take 4:=⟨_,rfl,by simp; omega,by
   rw [ByteArray.data_extract,Array.toList_extract]⟩
  rw [<- hT] at SL
  obtain ⟨U,hU⟩:∃ U:ByteArray,U = T ++ (⟨#[0,0,0,0]⟩:ByteArray):=⟨_,rfl⟩
  have hUl:U.data.toList = (s.data.toList.drop 1).take 4 ++ [0,0,0,0]:=by
   rw [hU,<- hTl]; simp
  have hUs:U.size = 8:=by rw [hU,ByteArray.size_append,hTs]; rfl
  have hb:¬ (9223372036854775807 < T.size + 4):=by omega
  have hr:lowN ((rest U 0).take 8) = J.sizeOf s.data.toList:=by
   unfold rest
   rw [List.drop_zero,hUl,sizeIn_text]
  have RD:=rread_any U w (by omega)
  have HUS:=Lib.hid hUs
  have HR:=Lib.hid hr
  have HU:=Lib.hid hU
  have hlt:=J.size_lt s.data.toList
  have wx:IntKind.i64.wrap ((J.sizeOf s.data.toList:Nat):Int) = ((J.sizeOf s.data.toList:Nat):Int):=by rw [IntKind.wrap_i64]; omega
  have wx2:wrap64 ((J.sizeOf s.data.toList:Nat):Int) = ((J.sizeOf s.data.toList:Nat):Int):=by unfold wrap64; omega
  generalize J.sizeOf s.data.toList = x at *
  clear hT hTl hU hUl hUs hr hlt h5
  go_enter Tryz.func241,Tryz.ntmps241
  go_wp2_with fail
  rw [<- HU.out]
  refine RD.mono ?_
  rintro e w1 ⟨rfl,r1,k1⟩
  have FX:=rfixed_ok w.heap.size U 0 w1 r1 (by rw [HUS.out]; decide)
  rw [HR.out] at FX
  have K1:=Lib.hid k1
  clear r1 k1 RD
  go_wp2_with fail
  refine FX.mono ?_
  rintro e w2 ⟨rfl,m2⟩
  have Q2:=Lib.hid (show Qt w w2 from Keeps.trans (S:=fun _=>False) K1.out m2.keeps (fun i hi e=>by omega))
  clear m2 FX
  go_wp2
  go_quiet (fail)
  go_wp2
  go_ret2
  exact ⟨by rw [F1.out]; rfl,Keeps.drewN Q2.out _⟩
end Go.Proofs.YthjjfjhajadimaaGreatDoor
namespace Go.Proofs.YthjjfjhajadimaaGreatDoor
open Go.RowKit Go.WideShapes
set_option maxRecDepth 100000
theorem jlog_in (ad:Nat->Addr) (v i:Nat) (h1:1<=v) (h2:v<=1099511627776) (h3:i < 65536) (w:World) (hE:Errs ad w) :
  Calls Tryz.prog 235 #[.int .i64 v,.int .i64 i] w fun e w'=>e = .returned (.tuple #[.int .u64 (J.stamp v i:Nat),.nilIface])/\Qt w w':=by
 have h:=log_any (ad 6) (ad 3) (ad 7) (v:Int) (i:Int) w (by omega) (by omega) (by omega) (by omega) hE.e3
 rw [show E.logR (v:Int) (i:Int) = (((J.stamp v i:Nat):Int),0) by
  unfold E.logR J.stamp
  rw [if_pos ⟨by omega,by omega,by omega,by omega⟩]
  congr 1] at h
 exact h
theorem opened (o:Option (List UInt8)):openV o = .tuple #[.string ⟨(o.getD []).toArray⟩,.bool o.isSome]:=by cases o <;> rfl
set_option maxHeartbeats 800000 in
theorem jpayload_any (ad:Nat->Addr) {w:World} {b:Nat} {d:DS} {S:Nat->Prop} (hE:Errs ad w) (hT:Tab w) (h:DiskAt w b d S) (ho:d.off = false) (p n v i:Nat) (h1:1<=v) (h2:v<=1099511627776) (hn:p + n<=d.dur.length) (hi:i < n) :
  Calls Tryz.prog 240 #[placeV b p n v,.int .i64 i] w fun e w'=>e = .returned (.string ⟨(J.payN (J.secs d p v) i).toArray⟩)/\Qt w w':=by
 have hl:d.dur.length<=65536:=by obtain ⟨gd,mb,uv,P,_⟩:=h; exact P.ok.le
 obtain ⟨WA,hWA,QA,hb⟩:=place_new w b p n v
 have HWA:=Lib.hid hWA
 have HQA:=Lib.hid QA
 have HB:=Lib.hid hb
 obtain ⟨d0,d1,d2,d3⟩:=place_cells hb
 have hEA:=hE.kept QA (OffErrs.none ad)
 have hTA:=hT.qt QA
 have hst:=J.stamp_big (v:=v) (k:=i) h2 (by omega)
 have LG:=jlog_in ad v i h1 h2 (by omega) WA hEA
 have RD:=Lib.hid (fun W (q:Qt WA W)=>(show Calls Tryz.prog 110 #[.pointer (some ⟨b,0,none⟩),.int .i64 ((p:Int) + (i:Int))] W fun e w'=>e = .returned (.tuple #[.string ⟨(d.read (p + i)).toArray⟩,.nilIface])/\W = w' from by
  have h1:=read_any ad (hEA.kept q (OffErrs.none ad)) (DiskAt.qt h (Qt.trans QA q)) ((p + i:Nat):Int)
  have hr:d.reach ((p + i:Nat):Int) = 0:=DS.reach_calm ho (by omega)
  have he:d.readE ((p + i:Nat):Int) = d.read (p + i):=by unfold DS.readE; rw [if_pos hr,Int.toNat_natCast]
  rw [hr,he,Int.natCast_add,errV_zero] at h1
  exact h1))
 have OP:=Lib.hid (fun W (q:Qt WA W)=>(show Calls Tryz.prog 170 #[.int .u64 (J.stamp v i:Nat),.string ⟨(d.read (p + i)).toArray⟩] W fun e w'=>e = .returned (.tuple #[.string ⟨(J.payN (J.secs d p v) i).toArray⟩,.bool (J.secs d p v i).isSome])/\Qt W w' from by
  have h:=open_any (ad 6) (ad 3) (ad 7) (J.stamp v i) ⟨(d.read (p + i)).toArray⟩ W hst (hEA.kept q (OffErrs.none ad)).e3 (hTA.qt q)
  rw [opened] at h
  exact h))
 have hw:wrap64 ((p:Int) + (i:Int)) = (p:Int) + (i:Int):=by unfold wrap64; omega
 generalize (⟨(d.read (p + i)).toArray⟩:ByteArray) = X at *
 generalize (⟨(J.payN (J.secs d p v) i).toArray⟩:ByteArray) = Y at *
 generalize (J.secs d p v i).isSome = z at *
 generalize J.stamp v i = st at *
 clear h hE hT hEA hTA hst hl hn hi h1 h2 ho hWA QA hb
 unfold placeV
 go_enter Tryz.func240,Tryz.ntmps240
 go_wp2_with fail
 rw [HWA.out]
 refine LG.mono ?_
 rintro e w1 ⟨rfl,q1⟩
 have Q1:=Lib.hid q1
 obtain ⟨x0,x1,x2,x3⟩:=place_cells (place_qt HB.out q1)
 clear q1 d0 d1 d2 d3 LG
 go_wp2_with fail
 refine (RD.out w1 Q1.out).mono ?_
 rintro e w2 ⟨rfl,rfl⟩
 go_wp2_with fail
 refine (OP.out _ Q1.out).mono ?_
 rintro e w3 ⟨rfl,q3⟩
 have FQ:=Lib.hid (Qt.trans HQA.out (Qt.trans Q1.out q3))
 clear q3
 go_wp2
 go_ret
 exact ⟨rfl,FQ.out⟩
end Go.Proofs.YthjjfjhajadimaaGreatDoor
namespace Go.Proofs.YthjjfjhajadimaaGreatDoor
open Go.RowKit
set_option maxRecDepth 100000
theorem sj_room {k C i n:Nat} (h:k < C) (h2:i + C<=n):i + k < n:=by omega
theorem sj_kb {k C i n:Nat} (h:k < C) (h2:i + C<=n) (h3:n<=65536):k<=65536:=by omega
theorem sj_lt {k C:Nat} (h:k < C):decide ((k:Int) < (C:Int)) = true:=decide_eq_true (by omega)
theorem sj_ge {k C:Nat} (h:C<=k):decide ((k:Int) < (C:Int)) = false:=decide_eq_false (by omega)
theorem sj_w1 {k:Nat} (h:k<=65536):wrap64 ((k:Int) + 1) = (k:Int) + 1:=by unfold wrap64; omega
theorem sj_w2 {i k:Nat} (h:i<=65536) (h2:k<=65536):wrap64 ((i:Int) + (k:Int)) = (i:Int) + (k:Int):=by unfold wrap64; omega
theorem sj_w2i {i k:Nat} (h:i<=65536) (h2:k<=65536):IntKind.i64.wrap ((i:Int) + (k:Int)) = (i:Int) + (k:Int):=by rw [IntKind.wrap_i64]; omega
theorem sj_w2b {i k:Nat} (h:i<=65536) (h2:k<=140737488355328):wrap64 ((i:Int) + (k:Int)) = (i:Int) + (k:Int):=by unfold wrap64; omega
theorem sj_sub {u e z:Nat} (h:e<=u) (h2:u<=z) (h3:z<=1099511627776):wrap64 ((u:Int) - (e:Int)) = ((u - e:Nat):Int):=by unfold wrap64; omega
theorem sj_ib {i C n:Nat} (h:i + C<=n) (h3:n<=65536):i<=65536:=by omega
theorem sj_meas {k n:Nat} (h:k < n):n - (intOf (.int .i64 ((k:Int) + 1))).toNat < n - (intOf (.int .i64 (k:Int))).toNat:=by simp [intOf]; omega
theorem sj_meas2 {k m n:Nat} (h:k < n) (hm:k < m):n - (intOf (.int .i64 ((m:Nat):Int))).toNat < n - (intOf (.int .i64 (k:Int))).toNat:=by simp [intOf]; omega
theorem sj_pos0 {k:Nat} (h:k = 0):decide (0 < (k:Int)) = false/\decide (0 < k) = false:=⟨decide_eq_false (by omega),decide_eq_false (by omega)⟩
theorem sj_pos1 {k:Nat} (h:¬ k = 0):decide (0 < (k:Int)) = true/\decide (0 < k) = true:=⟨decide_eq_true (by omega),decide_eq_true (by omega)⟩
theorem sj_bd {o y z u e:Nat} (h:o<=z) (hy:y = u - e) (hu:u<=z) (hz:z<=1099511627776):o + y<=140737488355328:=by omega
theorem sj_eq {k C:Nat} (h:k<=C) (h2:¬ k < C):k = C:=by omega
theorem sj_u64 {z:Nat} (h:z<=1099511627776):z < 18446744073709551616:=by omega
theorem sj_ol {z k o:Nat} (h:o = min k z):o<=z:=by omega
theorem sj_ne {a b:Nat} (h:a = b):((a:Int) != (b:Int)) = false:=by rw [bne_eq_false_iff_eq,h]
theorem sj_ne' {a b:Nat} (h:a ≠ b):((a:Int) != (b:Int)) = true:=by rw [bne_iff_ne]; omega
end Go.Proofs.YthjjfjhajadimaaGreatDoor
