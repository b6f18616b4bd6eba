/-
  Joined: VCrashP, VTear, CBase, CExt, KeepsQ, Room, Num, DNum, VHyp.
-/
import Derived.Laws.BitsAllLaws
import Derived.LoopTactic
import Derived.WalkLawsBesides
import Derived.Outline
import Derived.Test.YthjjfjhajadimaaGreatDoorP11
import Derived.LaidEql
namespace Go.Proofs.YthjjfjhajadimaaGreatDoor
set_option maxRecDepth 100000
def V.waysA (i st:Nat) (v:List UInt8) (j:Nat):List (Nat × List UInt8):=(List.range j).map fun k=>(i + k,E.sct st (V.piece v k))
theorem V.waysA_succ (i st:Nat) (v:List UInt8) (j:Nat):V.waysA i st v (j + 1) = V.waysA i st v j ++ [(i + j,E.sct st (V.piece v j))]:=by
 unfold V.waysA; rw [List.range_succ,List.map_append]; rfl
theorem V.waysA_get (i st:Nat) (v:List UInt8) {j k:Nat} (h:k < j):(V.waysA i st v j)[k]? = some (i + k,E.sct st (V.piece v k)):=by
 unfold V.waysA; simp [h]
theorem V.waysA_length (i st:Nat) (v:List UInt8) (j:Nat):(V.waysA i st v j).length = j:=by simp [V.waysA]
theorem area_go {i st:Nat} {v:List UInt8}:∀ (m k:Nat) (d:DS),d.off = false->d.ways = V.waysA i st v k->k + m = V.nsec v.length->i + (k + m)<=d.dur.length->-1<=d.armed ->
  ((0<=d.armed/\d.armed<=m)/\∃ d2,DS.areaGo i st v m k d = (12,d2)/\d2.off = true/\d2.dur = d.dur/\d2.ways = V.waysA i st v (min (k + d.armed.toNat + 1) (k + m))/\d2.cr = d.cr/\d2.fl = d.fl/\d2.wr<=d.wr + m) \/
  (¬ (0<=d.armed/\d.armed<=m)/\∃ d2,DS.areaGo i st v m k d = (0,d2)/\d2.off = false/\d2.dur = flushTo d.dur (V.waysA i st v (k + m)) (k + m)/\d2.ways = []/\d2.cr = d.cr/\d2.fl = d.fl + 1/\d2.wr = d.wr + m/\-1<=d2.armed/\d2.armed<=d.armed)
 | 0,k,d,ho,hw,hk,hl,ha=>by
  rw [DS.areaGo]
  unfold DS.flushE DS.flushD
  rw [ho]
  by_cases h0:d.armed = 0
  ·left
   refine ⟨by omega,{ d with off:=true },by rw [if_neg (by simp),if_pos h0,if_neg (by simp),if_pos h0],rfl,rfl,?_,rfl,rfl,by simp⟩
   show d.ways = _
   rw [hw,h0]
   congr 1
   omega
  ·right
   have hd:=dec_le ha
   refine ⟨by omega,{ d with dur:=flushTo d.dur d.ways d.ways.length,ways:=[],armed:=dec d.armed,fl:=d.fl + 1 },by rw [if_neg (by simp),if_neg h0,if_neg (by simp),if_neg h0,<- ho],ho,?_,rfl,rfl,rfl,rfl,hd.1,hd.2⟩
   show flushTo d.dur d.ways d.ways.length = _
   rw [hw,V.waysA_length]
   rfl
 | m + 1,k,d,ho,hw,hk,hl,ha=>by
  have hr:d.reach ((i + k:Nat):Int) = 0:=DS.reach_calm ho (by omega)
  have hlen:=E.sct_length st (V.piece_le v k)
  rw [DS.areaGo]
  by_cases h0:d.armed = 0
  ·have hE:d.writeE ((i + k:Nat):Int) (E.sct st (V.piece v k)) = 12:=by unfold DS.writeE; rw [if_neg (by rw [hr]; simp),if_neg (by rw [hlen]; simp),if_pos h0]
   have hD:d.writeD ((i + k:Nat):Int) (E.sct st (V.piece v k)) = { d with ways:=d.ways ++ [(i + k,E.sct st (V.piece v k))],off:=true }:=by
    unfold DS.writeD; rw [if_neg (by rw [hr]; simp),if_neg (by rw [hlen]; simp),if_pos h0]; rfl
   left
   refine ⟨by omega,{ d with ways:=d.ways ++ [(i + k,E.sct st (V.piece v k))],off:=true },by rw [if_pos (by rw [hE]; decide),hE,hD],rfl,rfl,?_,rfl,rfl,by simp⟩
   show d.ways ++ _ = _
   rw [hw,<- V.waysA_succ,h0]
   congr 1
   omega
  ·have hE:d.writeE ((i + k:Nat):Int) (E.sct st (V.piece v k)) = 0:=by unfold DS.writeE; rw [if_neg (by rw [hr]; simp),if_neg (by rw [hlen]; simp),if_neg h0]
   have hD:d.writeD ((i + k:Nat):Int) (E.sct st (V.piece v k)) = { d with ways:=d.ways ++ [(i + k,E.sct st (V.piece v k))],armed:=dec d.armed,wr:=d.wr + 1 }:=by
    unfold DS.writeD; rw [if_neg (by rw [hr]; simp),if_neg (by rw [hlen]; simp),if_neg h0]; rfl
   rw [if_neg (by rw [hE]; simp),hD]
   have hd:=dec_le ha
   have hds:dec d.armed = if 0 < d.armed then d.armed - 1 else d.armed:=rfl
   rcases area_go m (k + 1) { d with ways:=d.ways ++ [(i + k,E.sct st (V.piece v k))],armed:=dec d.armed,wr:=d.wr + 1 } ho (by show d.ways ++ _ = _; rw [hw,<- V.waysA_succ]) (by omega) (show i + (k + 1 + m)<=d.dur.length by omega) hd.1 with ⟨⟨b1,b2⟩,d2,e1,e2,e3,e4,e5,e6,e7⟩ | ⟨b,d2,e1,e2,e3,e4,e5,e6,e7,e8,e9⟩
   ·have b1:0<=dec d.armed:=b1
    have b2:dec d.armed<=m:=b2
    left
    refine ⟨by split at hds <;> omega,d2,e1,e2,e3,?_,e5,e6,?_⟩
    ·rw [e4]
     congr 1
     show min (k + 1 + (dec d.armed).toNat + 1) (k + 1 + m) = _
     split at hds <;> omega
    ·have:d2.wr<=d.wr + 1 + m:=e7
     omega
   ·have b:¬ (0<=dec d.armed/\dec d.armed<=m):=b
    right
    have e9:d2.armed<=dec d.armed:=e9
    have e7:d2.wr = d.wr + 1 + m:=e7
    refine ⟨by split at hds <;> omega,d2,e1,e2,?_,e4,e5,e6,by omega,e8,by omega⟩
    rw [e3,show k + 1 + m = k + (m + 1) by omega]
namespace V
theorem set_other {D:List (List UInt8)} {p q:Nat} (s:List UInt8) (h:p ≠ q):(D.set p s).getD q [] = D.getD q []:=by simp [List.getD,h]
theorem set_same {D:List (List UInt8)} {p:Nat} (s:List UInt8) (h:p < D.length):(D.set p s).getD p [] = s:=by simp [List.getD,h]
theorem flush_in (D:List (List UInt8)) (i st:Nat) (v:List UInt8) (K:Nat):∀ k,k<=K->i + k<=D.length->∀ j,j < k->(flushTo D (waysA i st v K) k).getD (i + j) [] = E.sct st (piece v j)
 | 0,_,_,j,hj=>by omega
 | k + 1,hk,hD,j,hj=>by
  rw [flushTo,waysA_get i st v (show k < K by omega)]
  by_cases h:j = k
  ·subst h
   exact set_same _ (by rw [flushTo_length]; omega)
  ·exact (set_other _ (show i + k ≠ i + j by omega)).trans (flush_in D i st v K k (by omega) (by omega) j (by omega))
theorem flush_out (D:List (List UInt8)) (i st:Nat) (v:List UInt8) (K:Nat):∀ k,k<=K->∀ q,(q < i\/i + k<=q)->(flushTo D (waysA i st v K) k).getD q [] = D.getD q []
 | 0,_,_,_=>rfl
 | k + 1,hk,q,hq=>by
  rw [flushTo,waysA_get i st v (show k < K by omega)]
  exact (set_other _ (show i + k ≠ q by omega)).trans (flush_out D i st v K k (by omega) q (by omega))
theorem crash_out (f:FT) (D:List (List UInt8)) (i st:Nat) (v:List UInt8) (K:Nat):∀ k,k<=K->∀ q,(q < i\/i + k<=q)->(crashTo f D (waysA i st v K) k).getD q [] = D.getD q []
 | 0,_,_,_=>rfl
 | k + 1,hk,q,hq=>by
  rw [crashTo,waysA_get i st v (show k < K by omega)]
  exact (set_other _ (show i + k ≠ q by omega)).trans (crash_out f D i st v K k (by omega) q (by omega))
theorem crash_in (f:FT) (D:List (List UInt8)) (i st:Nat) (v:List UInt8) (K:Nat):∀ k,k<=K->i + k<=D.length->∀ j,j < k->(crashTo f D (waysA i st v K) k).getD (i + j) [] = E.tear (D.getD (i + j) []) (E.sct st (piece v j)) (f.done j)
 | 0,_,_,j,hj=>by omega
 | k + 1,hk,hD,j,hj=>by
  rw [crashTo,waysA_get i st v (show k < K by omega)]
  by_cases h:j = k
  ·subst h
   refine (set_same _ (by rw [crashTo_length]; omega)).trans ?_
   rw [crash_out f D i st v K j (by omega) (i + j) (by omega)]
   rfl
  ·exact (set_other _ (show i + k ≠ i + j by omega)).trans (crash_in f D i st v K k (by omega) (by omega) j (by omega))
structure Below (D:List (List UInt8)) (i n o:Nat):Prop where
 len:∀ j,j < n->(D.getD (i + j) []).length = 256
 back:∀ j,j < n->E.back (D.getD (i + j) [])<=o
end V
end Go.Proofs.YthjjfjhajadimaaGreatDoor
namespace Go.Proofs.YthjjfjhajadimaaGreatDoor
open Go.RowKit Go.WideShapes
set_option maxRecDepth 100000
theorem ret_i {k:IntKind} {a b:Int} (h:a = b):Ending.returned (.int k a) = .returned (.int k b):=by rw [h]
def Tab (w:World):Prop:=∀ k,k < 16->w.cell? ⟨38,k,none⟩ = some (.int .u32 (C.tab.getD k 0:Nat))
theorem Tab.qt {w w':World} (h:Tab w) (k:Qt w w'):Tab w':=fun i hi=>k.cellv (h i hi)
theorem take_snoc' (s:ByteArray) (k:Nat) (h:k < s.size):s.data.toList.take (k + 1) = s.data.toList.take k ++ [s[k]]:=by
 rw [List.take_succ_eq_append_getElem (by simpa using h)]; rfl
theorem go_snoc (r:Nat) (s:ByteArray) (k:Nat) (h:k < s.size):C.go r (s.data.toList.take (k + 1)) = C.byte8 (C.go r (s.data.toList.take k) ^^^ s[k].toNat):=by
 rw [take_snoc' s k h,C.go_append]; rfl
theorem u32_and15 (a:Nat) (ha:a < 4294967296):bits .and .u32 (a:Int) 15 = ((a % 16:Nat):Int):=by
 have h:=u32_and_nat a 15 ha (by decide)
 rw [Nat.and_two_pow_sub_one_eq_mod a 4] at h
 exact h
theorem u32_not (x:Nat) (hx:x < 4294967296):bits .xor .u32 IntKind.u32.max (x:Int) = ((x ^^^ C.full:Nat):Int):=by
 rw [Nat.xor_comm]
 exact u32_xor_nat C.full x (by decide) hx
theorem tab_lt:∀ k < 16,C.tab.getD k 0 < 4294967296:=by decide
theorem nib_facts {w:World} (hT:Tab w) (r:Nat) (hr:r < 4294967296):∃ t:Nat,w.cell? ⟨38,r % 16,none⟩ = some (.int .u32 t)/\bits .and .u32 (r:Int) 15 = ((r % 16:Nat):Int)/\bits .xor .u32 ((r:Int) / 16) (t:Int) = ((C.nib r:Nat):Int)/\C.nib r < 4294967296:=by
 have hm:=Nat.mod_lt r (show 0 < 16 by decide)
 refine ⟨_,hT _ hm,u32_and15 r hr,?_,C.nib_lt hr⟩
 rw [C.nib_tab r]
 exact u32_xor_nat (r / 16) _ (by omega) (tab_lt _ hm)
set_option maxHeartbeats 800000 in
theorem extend_any (x:Nat) (s:ByteArray) (w:World) (hx:x < 4294967296) (hs:s.size<=maxLen) (hT:Tab w) :
  Calls Tryz.prog 262 #[.int .u32 x,.string s] w fun e w'=>e = .returned (.int .u32 (C.extend x s.data.toList:Nat))/\w = w':=by
 unfold maxLen at hs
 have HT:=Lib.hid hT
 have hx2:x ^^^ C.full < 2 ^ 32:=Nat.xor_lt_two_pow hx (by decide)
 have hn:=u32_not x hx
 have HE:=Lib.hid (show C.extend x s.data.toList = C.go (x ^^^ C.full) s.data.toList ^^^ C.full from rfl)
 generalize hq:x ^^^ C.full = q at *
 clear hq hT
 go_enter Tryz.func262,Tryz.ntmps262
 go_wp2
 go_loop [5,6,11] (fun r _ i=>∃ k:Nat,k<=s.size/\i = .int .i64 k/\r = .int .u32 (C.go q (s.data.toList.take k):Nat)) (fun _ _ i=>s.size - (intOf i).toNat)
 case atStart=>exact ⟨0,Nat.zero_le _,rfl,rfl⟩
 case round =>
  obtain ⟨k,hk,rfl,rfl⟩:=hrel
  have hr:=C.go_lt (s.data.toList.take k) hx2
  by_cases hlt:k < s.size
  ·have HS:=Lib.hid (go_snoc q s k hlt)
   have hc:=s[k].toNat_lt
   generalize C.go q (s.data.toList.take k) = r at *
   have h1:=u32_xor_nat r s[k].toNat hr (by omega)
   have hr1:r ^^^ s[k].toNat < 4294967296:=Nat.xor_lt_two_pow (n:=32) hr (by omega)
   rw [C.byte8_nib] at HS
   generalize r ^^^ s[k].toNat = r1 at *
   obtain ⟨t1,hc1,ha1,hx1,hl1⟩:=nib_facts HT.out r1 hr1
   generalize C.nib r1 = r2 at *
   obtain ⟨t2,hc2,ha2,hx2',hl2⟩:=nib_facts HT.out r2 hl1
   generalize C.nib r2 = r3 at *
   go_wp2
   go_round
   case rel=>exact ⟨k + 1,by omega,by go_num,by rw [HS.out]⟩
   case measure=>simp [intOf]; omega
  ·obtain rfl:k = s.size:=by omega
   have ht:s.data.toList.take s.size = s.data.toList:=List.take_of_length_le (by simp)
   rw [ht] at hr
   have hx3:=u32_not (C.go q s.data.toList) hr
   have HX:=Lib.hid hx3
   rw [ht]
   clear hx3 hlt
   go_wp2
   go_ret
   exact ⟨ret_i (by rw [HE.out,HX.out]),rfl⟩
theorem sum_any (s:ByteArray) (w:World) (hs:s.size<=maxLen) (hT:Tab w) :
  Calls Tryz.prog 229 #[.string s] w fun e w'=>e = .returned (.int .u32 (C.sum s.data.toList:Nat))/\w = w':=by
 go_enter Tryz.func229,Tryz.ntmps229
 go_wp2_with fail
 refine (extend_any 0 s w (by decide) hs hT).mono ?_
 rintro e w' ⟨rfl,rfl⟩
 go_wp2
 go_ret
 exact ⟨rfl,rfl⟩
end Go.Proofs.YthjjfjhajadimaaGreatDoor
namespace Go.Proofs.YthjjfjhajadimaaGreatDoor
open Go.RowKit
set_option maxRecDepth 100000
theorem keeps_qt {S:Nat->Prop} {w0 w w':World} (h:Keeps S w0 w) (q:Qt w w'):Keeps S w0 w':=Keeps.trans h q (fun _ _ e=>e.elim)
end Go.Proofs.YthjjfjhajadimaaGreatDoor
namespace Go.Proofs.YthjjfjhajadimaaGreatDoor
open Go.RowKit Go.WideShapes
set_option maxRecDepth 100000
structure Room (ad:Nat->Addr) (S:Nat->Prop) (w0:World):Prop where
 errs:Errs ad w0
 tab:Tab w0
 off:OffErrs ad S
 offTab:¬ S 38
 up:∀ k,w0.heap.size<=k->S k
section
variable {ad:Nat->Addr} {S:Nat->Prop} {w0 w:World} {b:Nat} {d:DS}
theorem Room.errs' (R:Room ad S w0) (hS:Keeps S w0 w):Errs ad w:=R.errs.kept hS R.off
theorem Room.tab' (R:Room ad S w0) (hS:Keeps S w0 w):Tab w:=fun k hk=>hS.cellv (R.tab k hk) R.offTab
theorem Room.disk (R:Room ad S w0) {w':World} (hS:Keeps S w0 w) (h:DiskAt w' b d (Grow S w w')):DiskAt w' b d S :=
 h.mono (fun k hk=>by
  rcases hk with hk | ⟨hk,_⟩
  ·exact hk
  ·exact R.up k (Nat.le_trans hS.size hk))
theorem Room.keeps {w':World} (hS:Keeps S w0 w) (h:Keeps S w w'):Keeps S w0 w':=Keeps.trans hS h (fun _ _ e=>e)
theorem room_write (R:Room ad S w0) (hS:Keeps S w0 w) (h:DiskAt w b d S) (hf:d.Few) (i:Int) (s:ByteArray) :
  Calls Tryz.prog 182 #[.pointer (some ⟨b,0,none⟩),.int .i64 i,.string s] w fun e w'=>e = .returned (errV ad (d.writeE i (strL s)))/\DiskAt w' b (d.writeD i (strL s)) S/\Keeps S w0 w':=by
 refine (write_any ad (R.errs' hS) R.off h hf i s).mono ?_
 rintro e w' ⟨he,hD,hK⟩
 exact ⟨he,R.disk hS hD,Room.keeps hS hK⟩
theorem room_flush (R:Room ad S w0) (hS:Keeps S w0 w) (h:DiskAt w b d S) (hf:d.Few) :
  Calls Tryz.prog 183 #[.pointer (some ⟨b,0,none⟩)] w fun e w'=>e = .returned (errV ad d.flushE)/\DiskAt w' b d.flushD S/\Keeps S w0 w':=by
 refine (flush_any ad (R.errs' hS) R.off h hf).mono ?_
 rintro e w' ⟨he,hD,hK⟩
 exact ⟨he,R.disk hS hD,Room.keeps hS hK⟩
theorem room_read (R:Room ad S w0) (hS:Keeps S w0 w) (h:DiskAt w b d S) (i:Int) :
  Calls Tryz.prog 110 #[.pointer (some ⟨b,0,none⟩),.int .i64 i] w fun e w'=>e = .returned (.tuple #[.string ⟨(d.readE i).toArray⟩,errV ad (d.reach i)])/\w = w':=read_any ad (R.errs' hS) h i
end
end Go.Proofs.YthjjfjhajadimaaGreatDoor
namespace Go.Proofs.YthjjfjhajadimaaGreatDoor
open Go.RowKit
set_option maxRecDepth 100000
theorem errArr_get (ad:Nat->Addr) {k:Nat} (hk:k < 37):(errArr ad)[k]? = some (.iface 335 (.pointer (some (ad (k + 1))))):=by
 simp [errArr,hk]
theorem run_index_errs (ad:Nat->Addr) {k:Nat} (hk:k < 37) (w:World):(Instr.index 126 (.agg (errArr ad)) (.int .i64 k)).run Tryz.prog w = .ok (.iface 335 (.pointer (some (ad (k + 1))))) w:=by
 have h1:Tryz.prog.underlying 126 = some (.array 37 27):=Tryz.underlying126
 have hg:=errArr_get ad hk
 simp [Instr.index,run_underlying h1,asIntOf,hk,part,hg]
theorem num_nil (w:World):Calls Tryz.prog 21 #[.nilIface] w fun e w'=>e = .returned (.int .i64 0)/\w = w':=by
 go_enter Tryz.func21,Tryz.ntmps21
 go_wp2
 go_ret
 exact ⟨rfl,rfl⟩
set_option maxHeartbeats 400000 in
theorem num_pos (ad:Nat->Addr) (n:Nat) (w:World) (hE:Errs ad w) (h1:n < 37) :
  Calls Tryz.prog 21 #[.iface 335 (.pointer (some (ad (n + 1))))] w fun e w'=>e = .returned (.int .i64 ((n + 1:Nat):Int))/\Keeps (fun _=>False) w w':=by
 obtain ⟨i,hi,hcmp⟩:=Option.map_eq_some_iff.1 compErr
 obtain ⟨j,hj,hjs⟩:=Option.map_eq_some_iff.1 sizeErr
 go_enter Tryz.func21,Tryz.ntmps21
 go_wp2_with fail
 refine (list_any ad w hE).mono ?_
 rintro e w1 ⟨rfl,hk⟩
 have hE1:=Lib.hid (hE.kept hk (OffErrs.none ad))
 have hk':=Lib.hid hk; clear hk hE
 have hidx:=Lib.hid (fun (k:Nat) (hk:k < 37)=>run_index_errs ad hk w1)
 generalize errArr ad = L at *
 go_wp2
 go_loop [3,4,8] (fun _ _ x=>∃ k:Nat,k<=n/\x = .int .i64 k) (fun _ _ x=>37 - (intOf x).toNat)
 case atStart=>exact ⟨0,Nat.zero_le _,rfl⟩
 case round =>
  obtain ⟨k,hk,rfl⟩:=hrel
  have hk37:k < 37:=by omega
  have hix:=hidx.out k hk37
  obtain ⟨ca,ta,hca⟩:=hE1.out.blk n h1
  obtain ⟨cb,tb,hcb⟩:=hE1.out.blk k hk37
  by_cases he:k = n
  ·subst he
   have heq:=run_eql_iface_ptr_same (P:=Tryz.prog) w1 (ad (k + 1)) Tryz.underlying27 Tryz.underlying335 hi hcmp hj
   go_wp2
   go_ret
   exact ⟨by simp,hk'.out⟩
  ·have hne:ad (n + 1) ≠ ad (k + 1):=fun e=>he (hE1.out.apart n k h1 hk37 e).symm
   have heq:=run_eql_iface_ptr_other (P:=Tryz.prog) w1 Tryz.underlying27 Tryz.underlying335 hi hcmp hj (by rw [hjs]; decide) hne hca hcb
   have hkn:k < n:=by omega
   clear hne he hca hcb
   go_wp2
   go_round
   case rel=>exact ⟨k + 1,by omega,by go_num⟩
   case measure=>simp [intOf]; omega
theorem num_any (ad:Nat->Addr) (n:Nat) (w:World) (hE:Errs ad w) (h:n<=37) :
  Calls Tryz.prog 21 #[errV ad n] w fun e w'=>e = .returned (.int .i64 n)/\Keeps (fun _=>False) w w':=by
 cases n with
 | zero=>exact (num_nil w).mono fun _ _ ⟨he,hw⟩=>⟨he,hw ▸ Keeps.refl _ _⟩
 | succ n =>
  rw [errV_pos ad (by omega)]
  exact num_pos ad n w hE (by omega)
end Go.Proofs.YthjjfjhajadimaaGreatDoor
namespace Go.Proofs.YthjjfjhajadimaaGreatDoor
open Go.RowKit Go.WideShapes
set_option maxRecDepth 100000
structure DS.FewA (d:DS):Prop where
 ways:d.ways.length<=1073000000
 wr:d.wr<=576460752303423488
 fl:d.fl<=576460752303423488
 cr:d.cr<=576460752303423488
theorem DS.FewA.few {d:DS} (h:d.FewA):d.Few:=⟨Nat.le_trans h.ways (by decide),Nat.le_trans h.wr (by decide),Nat.le_trans h.fl (by decide),Nat.le_trans h.cr (by decide)⟩
def AWriteH (ad:Nat->Addr):Prop:=∀ (S:Nat->Prop) (w0 w:World) (b:Nat) (d:DS),Room ad S w0->Keeps S w0 w->DiskAt w b d S->d.FewA->∀ (i n:Int) (st:Nat) (s:ByteArray),st < 18446744073709551616->n<=9223372036854775807 ->
 Calls Tryz.prog 121 #[.pointer (some ⟨b,0,none⟩),.int .i64 i,.int .i64 n,.int .u64 st,.string s] w fun e w'=>e = .returned (errV ad (d.areaW i n st s.data.toList).1)/\DiskAt w' b (d.areaW i n st s.data.toList).2 S/\Keeps S w0 w'
def readE9 (ad:Nat->Addr) (r:List UInt8 × Nat):Value:=.tuple #[.string ⟨r.1.toArray⟩,errV ad r.2]
def AReadH (ad:Nat->Addr):Prop:=∀ (S:Nat->Prop) (w0 w:World) (b:Nat) (d:DS),Room ad S w0->Keeps S w0 w->DiskAt w b d S->∀ (i n:Int) (st:Nat) (z:Int),st < 18446744073709551616->n<=9223372036854775807 ->
 Calls Tryz.prog 144 #[.pointer (some ⟨b,0,none⟩),.int .i64 i,.int .i64 n,.int .u64 st,.int .i64 z] w fun e w'=>e = .returned (readE9 ad (d.areaR i n st z))/\DiskAt w' b d S/\Keeps S w0 w'
def ARoomH:Prop:=∀ (n:Int) (w:World),Calls Tryz.prog 119 #[.int .i64 n] w fun e w'=>e = .returned (.int .i64 (roomZ n))/\w' = w
def ASecsH:Prop:=∀ (x:Int) (w:World),x<=9223372036854775807->Calls Tryz.prog 179 #[.int .i64 x] w fun e w'=>e = .returned (.int .i64 (secsZ x))/\w' = w
end Go.Proofs.YthjjfjhajadimaaGreatDoor
