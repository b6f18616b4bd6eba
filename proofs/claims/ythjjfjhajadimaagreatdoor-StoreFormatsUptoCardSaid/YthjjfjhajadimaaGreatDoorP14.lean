/-
  Joined: CExt, KeepsQ, Room, Num, DNum, VHyp, ERow, EPut, ESeal.
-/
import Derived.Test.YthjjfjhajadimaaGreatDoorP13
import Derived.Laws.BitsAllLaws
import Derived.LoopTactic
import Derived.WalkLawsBesides
import Derived.Outline
import Derived.LaidEql
import Derived.Laws.IdiomCopy
import Derived.Lib.LazyBuf
import Derived.Lib.SlBuf
import Derived.StillTailTactics
namespace Go.Proofs.YthjjfjhajadimaaGreatDoor
open Go.RowKit Go.WideShapes
set_option maxRecDepth 100000
def Tab (w:World):Prop:=∀ k,k < 16->w.cell? ⟨38,k,none⟩ = some (.int .u32 (C.tab.getD k 0:Nat))
theorem Tab.qt {w w':World} (h:Tab w) (k:Qt w w'):Tab w':=fun i hi=>k.cellv (h i hi)
theorem take_snoc' (s:ByteArray) (k:Nat) (h:k < s.size):s.data.toList.take (k + 1) = s.data.toList.take k ++ [s[k]]:=by
 rw [List.take_succ_eq_append_getElem (by simpa using h)]; rfl
theorem go_snoc (r:Nat) (s:ByteArray) (k:Nat) (h:k < s.size):C.go r (s.data.toList.take (k + 1)) = C.byte8 (C.go r (s.data.toList.take k) ^^^ s[k].toNat):=by
 rw [take_snoc' s k h,C.go_append]; rfl
theorem u32_and15 (a:Nat) (ha:a < 4294967296):bits .and .u32 (a:Int) 15 = ((a % 16:Nat):Int):=by
 have h:=u32_and_nat a 15 ha (by decide)
 rw [Nat.and_two_pow_sub_one_eq_mod a 4] at h
 exact h
theorem u32_not (x:Nat) (hx:x < 4294967296):bits .xor .u32 IntKind.u32.max (x:Int) = ((x ^^^ C.full:Nat):Int):=by
 rw [Nat.xor_comm]
 exact u32_xor_nat C.full x (by decide) hx
theorem tab_lt:∀ k < 16,C.tab.getD k 0 < 4294967296:=by decide
theorem nib_facts {w:World} (hT:Tab w) (r:Nat) (hr:r < 4294967296):∃ t:Nat,w.cell? ⟨38,r % 16,none⟩ = some (.int .u32 t)/\bits .and .u32 (r:Int) 15 = ((r % 16:Nat):Int)/\bits .xor .u32 ((r:Int) / 16) (t:Int) = ((C.nib r:Nat):Int)/\C.nib r < 4294967296:=by
 have hm:=Nat.mod_lt r (show 0 < 16 by decide)
 refine ⟨_,hT _ hm,u32_and15 r hr,?_,C.nib_lt hr⟩
 rw [C.nib_tab r]
 exact u32_xor_nat (r / 16) _ (by omega) (tab_lt _ hm)
set_option maxHeartbeats 800000 in
theorem extend_any (x:Nat) (s:ByteArray) (w:World) (hx:x < 4294967296) (hs:s.size<=maxLen) (hT:Tab w) :
  Calls Tryz.prog 262 #[.int .u32 x,.string s] w fun e w'=>e = .returned (.int .u32 (C.extend x s.data.toList:Nat))/\w = w':=by
 unfold maxLen at hs
 have HT:=Lib.hid hT
 have hx2:x ^^^ C.full < 2 ^ 32:=Nat.xor_lt_two_pow hx (by decide)
 have hn:=u32_not x hx
 have HE:=Lib.hid (show C.extend x s.data.toList = C.go (x ^^^ C.full) s.data.toList ^^^ C.full from rfl)
 generalize hq:x ^^^ C.full = q at *
 clear hq hT
 go_enter Tryz.func262,Tryz.ntmps262
 go_wp2
 go_loop [5,6,11] (fun r _ i=>∃ k:Nat,k<=s.size/\i = .int .i64 k/\r = .int .u32 (C.go q (s.data.toList.take k):Nat)) (fun _ _ i=>s.size - (intOf i).toNat)
 case atStart=>exact ⟨0,Nat.zero_le _,rfl,rfl⟩
 case round =>
  obtain ⟨k,hk,rfl,rfl⟩:=hrel
  have hr:=C.go_lt (s.data.toList.take k) hx2
  by_cases hlt:k < s.size
  ·have HS:=Lib.hid (go_snoc q s k hlt)
   have hc:=s[k].toNat_lt
   generalize C.go q (s.data.toList.take k) = r at *
   have h1:=u32_xor_nat r s[k].toNat hr (by omega)
   have hr1:r ^^^ s[k].toNat < 4294967296:=Nat.xor_lt_two_pow (n:=32) hr (by omega)
   rw [C.byte8_nib] at HS
   generalize r ^^^ s[k].toNat = r1 at *
   obtain ⟨t1,hc1,ha1,hx1,hl1⟩:=nib_facts HT.out r1 hr1
   generalize C.nib r1 = r2 at *
   obtain ⟨t2,hc2,ha2,hx2',hl2⟩:=nib_facts HT.out r2 hl1
   generalize C.nib r2 = r3 at *
   go_wp2
   go_round
   case rel=>exact ⟨k + 1,by omega,by go_num,by rw [HS.out]⟩
   case measure=>simp [intOf]; omega
  ·obtain rfl:k = s.size:=by omega
   have ht:s.data.toList.take s.size = s.data.toList:=List.take_of_length_le (by simp)
   rw [ht] at hr
   have hx3:=u32_not (C.go q s.data.toList) hr
   have HX:=Lib.hid hx3
   rw [ht]
   clear hx3 hlt
   go_wp2
   go_ret
   exact ⟨ret_i (by rw [HE.out,HX.out]),rfl⟩
theorem sum_any (s:ByteArray) (w:World) (hs:s.size<=maxLen) (hT:Tab w) :
  Calls Tryz.prog 229 #[.string s] w fun e w'=>e = .returned (.int .u32 (C.sum s.data.toList:Nat))/\w = w':=by
 go_enter Tryz.func229,Tryz.ntmps229
 go_wp2_with fail
 refine (extend_any 0 s w (by decide) hs hT).mono ?_
 rintro e w' ⟨rfl,rfl⟩
 go_wp2
 go_ret
 exact ⟨rfl,rfl⟩
end Go.Proofs.YthjjfjhajadimaaGreatDoor
namespace Go.Proofs.YthjjfjhajadimaaGreatDoor
open Go.RowKit
set_option maxRecDepth 100000
theorem keeps_qt {S:Nat->Prop} {w0 w w':World} (h:Keeps S w0 w) (q:Qt w w'):Keeps S w0 w':=Keeps.trans h q (fun _ _ e=>e.elim)
end Go.Proofs.YthjjfjhajadimaaGreatDoor
namespace Go.Proofs.YthjjfjhajadimaaGreatDoor
open Go.RowKit Go.WideShapes
set_option maxRecDepth 100000
structure Room (ad:Nat->Addr) (S:Nat->Prop) (w0:World):Prop where
 errs:Errs ad w0
 tab:Tab w0
 off:OffErrs ad S
 offTab:¬ S 38
 up:∀ k,w0.heap.size<=k->S k
section
variable {ad:Nat->Addr} {S:Nat->Prop} {w0 w:World} {b:Nat} {d:DS}
theorem Room.errs' (R:Room ad S w0) (hS:Keeps S w0 w):Errs ad w:=R.errs.kept hS R.off
theorem Room.tab' (R:Room ad S w0) (hS:Keeps S w0 w):Tab w:=fun k hk=>hS.cellv (R.tab k hk) R.offTab
theorem Room.disk (R:Room ad S w0) {w':World} (hS:Keeps S w0 w) (h:DiskAt w' b d (Grow S w w')):DiskAt w' b d S :=
 h.mono (fun k hk=>by
  rcases hk with hk | ⟨hk,_⟩
  ·exact hk
  ·exact R.up k (Nat.le_trans hS.size hk))
theorem Room.keeps {w':World} (hS:Keeps S w0 w) (h:Keeps S w w'):Keeps S w0 w':=Keeps.trans hS h (fun _ _ e=>e)
theorem room_write (R:Room ad S w0) (hS:Keeps S w0 w) (h:DiskAt w b d S) (hf:d.Few) (i:Int) (s:ByteArray) :
  Calls Tryz.prog 182 #[.pointer (some ⟨b,0,none⟩),.int .i64 i,.string s] w fun e w'=>e = .returned (errV ad (d.writeE i (strL s)))/\DiskAt w' b (d.writeD i (strL s)) S/\Keeps S w0 w':=by
 refine (write_any ad (R.errs' hS) R.off h hf i s).mono ?_
 rintro e w' ⟨he,hD,hK⟩
 exact ⟨he,R.disk hS hD,Room.keeps hS hK⟩
theorem room_flush (R:Room ad S w0) (hS:Keeps S w0 w) (h:DiskAt w b d S) (hf:d.Few) :
  Calls Tryz.prog 183 #[.pointer (some ⟨b,0,none⟩)] w fun e w'=>e = .returned (errV ad d.flushE)/\DiskAt w' b d.flushD S/\Keeps S w0 w':=by
 refine (flush_any ad (R.errs' hS) R.off h hf).mono ?_
 rintro e w' ⟨he,hD,hK⟩
 exact ⟨he,R.disk hS hD,Room.keeps hS hK⟩
theorem room_read (R:Room ad S w0) (hS:Keeps S w0 w) (h:DiskAt w b d S) (i:Int) :
  Calls Tryz.prog 110 #[.pointer (some ⟨b,0,none⟩),.int .i64 i] w fun e w'=>e = .returned (.tuple #[.string ⟨(d.readE i).toArray⟩,errV ad (d.reach i)])/\w = w':=read_any ad (R.errs' hS) h i
end
end Go.Proofs.YthjjfjhajadimaaGreatDoor
namespace Go.Proofs.YthjjfjhajadimaaGreatDoor
open Go.RowKit
set_option maxRecDepth 100000
theorem errArr_get (ad:Nat->Addr) {k:Nat} (hk:k < 37):(errArr ad)[k]? = some (.iface 335 (.pointer (some (ad (k + 1))))):=by
 simp [errArr,hk]
theorem run_index_errs (ad:Nat->Addr) {k:Nat} (hk:k < 37) (w:World):(Instr.index 126 (.agg (errArr ad)) (.int .i64 k)).run Tryz.prog w = .ok (.iface 335 (.pointer (some (ad (k + 1))))) w:=by
 have h1:Tryz.prog.underlying 126 = some (.array 37 27):=Tryz.underlying126
 have hg:=errArr_get ad hk
 simp [Instr.index,run_underlying h1,asIntOf,hk,part,hg]
theorem num_nil (w:World):Calls Tryz.prog 21 #[.nilIface] w fun e w'=>e = .returned (.int .i64 0)/\w = w':=by
 go_enter Tryz.func21,Tryz.ntmps21
 go_wp2
 go_ret
 exact ⟨rfl,rfl⟩
set_option maxHeartbeats 400000 in
theorem num_pos (ad:Nat->Addr) (n:Nat) (w:World) (hE:Errs ad w) (h1:n < 37) :
  Calls Tryz.prog 21 #[.iface 335 (.pointer (some (ad (n + 1))))] w fun e w'=>e = .returned (.int .i64 ((n + 1:Nat):Int))/\Keeps (fun _=>False) w w':=by
 obtain ⟨i,hi,hcmp⟩:=Option.map_eq_some_iff.1 compErr
 obtain ⟨j,hj,hjs⟩:=Option.map_eq_some_iff.1 sizeErr
 go_enter Tryz.func21,Tryz.ntmps21
 go_wp2_with fail
 refine (list_any ad w hE).mono ?_
 rintro e w1 ⟨rfl,hk⟩
 have hE1:=Lib.hid (hE.kept hk (OffErrs.none ad))
 have hk':=Lib.hid hk; clear hk hE
 have hidx:=Lib.hid (fun (k:Nat) (hk:k < 37)=>run_index_errs ad hk w1)
 generalize errArr ad = L at *
 go_wp2
 go_loop [3,4,8] (fun _ _ x=>∃ k:Nat,k<=n/\x = .int .i64 k) (fun _ _ x=>37 - (intOf x).toNat)
 case atStart=>exact ⟨0,Nat.zero_le _,rfl⟩
 case round =>
  obtain ⟨k,hk,rfl⟩:=hrel
  have hk37:k < 37:=by omega
  have hix:=hidx.out k hk37
  obtain ⟨ca,ta,hca⟩:=hE1.out.blk n h1
  obtain ⟨cb,tb,hcb⟩:=hE1.out.blk k hk37
  by_cases he:k = n
  ·subst he
   have heq:=run_eql_iface_ptr_same (P:=Tryz.prog) w1 (ad (k + 1)) Tryz.underlying27 Tryz.underlying335 hi hcmp hj
   go_wp2
   go_ret
   exact ⟨by simp,hk'.out⟩
  ·have hne:ad (n + 1) ≠ ad (k + 1):=fun e=>he (hE1.out.apart n k h1 hk37 e).symm
   have heq:=run_eql_iface_ptr_other (P:=Tryz.prog) w1 Tryz.underlying27 Tryz.underlying335 hi hcmp hj (by rw [hjs]; decide) hne hca hcb
   have hkn:k < n:=by omega
   clear hne he hca hcb
   go_wp2
   go_round
   case rel=>exact ⟨k + 1,by omega,by go_num⟩
   case measure=>simp [intOf]; omega
theorem num_any (ad:Nat->Addr) (n:Nat) (w:World) (hE:Errs ad w) (h:n<=37) :
  Calls Tryz.prog 21 #[errV ad n] w fun e w'=>e = .returned (.int .i64 n)/\Keeps (fun _=>False) w w':=by
 cases n with
 | zero=>exact (num_nil w).mono fun _ _ ⟨he,hw⟩=>⟨he,hw ▸ Keeps.refl _ _⟩
 | succ n =>
  rw [errV_pos ad (by omega)]
  exact num_pos ad n w hE (by omega)
end Go.Proofs.YthjjfjhajadimaaGreatDoor
namespace Go.Proofs.YthjjfjhajadimaaGreatDoor
open Go.RowKit Go.WideShapes
set_option maxRecDepth 100000
structure DS.FewA (d:DS):Prop where
 ways:d.ways.length<=1073000000
 wr:d.wr<=576460752303423488
 fl:d.fl<=576460752303423488
 cr:d.cr<=576460752303423488
theorem DS.FewA.few {d:DS} (h:d.FewA):d.Few:=⟨Nat.le_trans h.ways (by decide),Nat.le_trans h.wr (by decide),Nat.le_trans h.fl (by decide),Nat.le_trans h.cr (by decide)⟩
def AWriteH (ad:Nat->Addr):Prop:=∀ (S:Nat->Prop) (w0 w:World) (b:Nat) (d:DS),Room ad S w0->Keeps S w0 w->DiskAt w b d S->d.FewA->∀ (i n:Int) (st:Nat) (s:ByteArray),st < 18446744073709551616->n<=9223372036854775807 ->
 Calls Tryz.prog 121 #[.pointer (some ⟨b,0,none⟩),.int .i64 i,.int .i64 n,.int .u64 st,.string s] w fun e w'=>e = .returned (errV ad (d.areaW i n st s.data.toList).1)/\DiskAt w' b (d.areaW i n st s.data.toList).2 S/\Keeps S w0 w'
def readE9 (ad:Nat->Addr) (r:List UInt8 × Nat):Value:=.tuple #[.string ⟨r.1.toArray⟩,errV ad r.2]
def AReadH (ad:Nat->Addr):Prop:=∀ (S:Nat->Prop) (w0 w:World) (b:Nat) (d:DS),Room ad S w0->Keeps S w0 w->DiskAt w b d S->∀ (i n:Int) (st:Nat) (z:Int),st < 18446744073709551616->n<=9223372036854775807 ->
 Calls Tryz.prog 144 #[.pointer (some ⟨b,0,none⟩),.int .i64 i,.int .i64 n,.int .u64 st,.int .i64 z] w fun e w'=>e = .returned (readE9 ad (d.areaR i n st z))/\DiskAt w' b d S/\Keeps S w0 w'
def ARoomH:Prop:=∀ (n:Int) (w:World),Calls Tryz.prog 119 #[.int .i64 n] w fun e w'=>e = .returned (.int .i64 (roomZ n))/\w' = w
def ASecsH:Prop:=∀ (x:Int) (w:World),x<=9223372036854775807->Calls Tryz.prog 179 #[.int .i64 x] w fun e w'=>e = .returned (.int .i64 (secsZ x))/\w' = w
namespace E
def put (l:List UInt8) (o:Nat) (s:List UInt8):List UInt8:=l.take o ++ (s ++ l.drop (o + s.length))
theorem put_length {l s:List UInt8} {o:Nat} (h:o + s.length<=l.length):(put l o s).length = l.length:=by unfold put; simp; omega
theorem put_get {l s:List UInt8} {o:Nat} (h:o + s.length<=l.length) (j:Nat):(put l o s)[j]? = if o<=j/\j < o + s.length then s[j - o]? else l[j]?:=by
 unfold put
 by_cases h1:j < o
 ·rw [if_neg (by omega),List.getElem?_append_left (by simp; omega),List.getElem?_take_of_lt h1]
 ·rw [List.getElem?_append_right (by simp; omega)]
  have hl:(l.take o).length = o:=by simp; omega
  rw [hl]
  by_cases h2:j < o + s.length
  ·rw [if_pos ⟨by omega,h2⟩,List.getElem?_append_left (by omega)]
  ·rw [if_neg (by omega),List.getElem?_append_right (by omega),List.getElem?_drop]
   congr 1; omega
theorem put_nil {l:List UInt8} {o:Nat} (h:o<=l.length):put l o [] = l:=by
 apply List.ext_getElem?
 intro j
 rw [put_get (by simpa using h),if_neg (by rw [List.length_nil]; omega)]
theorem put_set {l s:List UInt8} {o:Nat} (h:o + s.length < l.length) (c:UInt8):(put l o s).set (o + s.length) c = put l o (s ++ [c]):=by
 apply List.ext_getElem?
 intro j
 rw [List.getElem?_set,put_get (by omega),put_get (by simp; omega),put_length (by omega),List.length_append,List.length_singleton]
 by_cases e:o + s.length = j
 ·subst e
  rw [if_pos rfl,if_pos h,if_pos ⟨by omega,by omega⟩,List.getElem?_append_right (by omega)]
  simp
 ·rw [if_neg e]
  by_cases h1:o<=j/\j < o + s.length
  ·rw [if_pos h1,if_pos ⟨h1.1,by omega⟩,List.getElem?_append_left (by omega)]
  ·rw [if_neg h1,if_neg (by omega)]
theorem low_snoc:∀ (k x:Nat),low (k + 1) x = low k x ++ [(x / 256 ^ k).toUInt8]
 | 0,x=>by rw [low,low,low,Nat.pow_zero,Nat.div_one]; rfl
 | k + 1,x=>by
  rw [low,low_snoc k (x / 256),low,List.cons_append,Nat.div_div_eq_div_mul,Nat.pow_succ,Nat.mul_comm 256]
theorem put_zeros (a s:List UInt8) {m:Nat}:put (a ++ List.replicate m 0) a.length s = (a ++ s) ++ List.replicate (m - s.length) 0:=by
 unfold put
 rw [List.take_left' rfl,List.drop_append,List.drop_eq_nil_of_le (by omega),List.nil_append,List.drop_replicate]
 simp
end E
structure RawAt (w:World) (g:Nat) (l:List UInt8):Prop where
 at':∀ (j:Nat) (c:UInt8),l[j]? = some c->w.cell? ⟨g,j,none⟩ = some (.int .u8 (c.toNat:Int))/\w.frozen? ⟨g,j,none⟩ = false
theorem RawAt.drew {w:World} {g:Nat} {l:List UInt8} (h:RawAt w g l):RawAt w.drew g l:=⟨fun j c hj=>h.at' j c hj⟩
theorem RawAt.cell {w:World} {g:Nat} {l:List UInt8} (h:RawAt w g l) {j:Nat} (hj:j < l.length):∃ v,w.cell? ⟨g,j,none⟩ = some v/\w.frozen? ⟨g,j,none⟩ = false:=by
 obtain ⟨h1,h2⟩:=h.at' j l[j] (List.getElem?_eq_getElem hj)
 exact ⟨_,h1,h2⟩
theorem RawAt.store {w:World} {g i:Nat} {l:List UInt8} (h:RawAt w g l) (c:UInt8):RawAt (w.setCell ⟨g,i,none⟩ (.int .u8 (c.toNat:Int))) g (l.set i c):=⟨fun j d hj=>by
 rw [List.getElem?_set] at hj
 rw [World.frozen?_setCell]
 by_cases e:i = j
 ·subst e
  rw [if_pos rfl] at hj
  split at hj
  ·rename_i hi
   injection hj with hj
   subst hj
   obtain ⟨v,h1,h2⟩:=h.cell hi
   exact ⟨World.cell?_setCell_same _ _ _ h1,h2⟩
  ·cases hj
 ·rw [if_neg e] at hj
  obtain ⟨h1,h2⟩:=h.at' j d hj
  exact ⟨(World.cell?_setCell_other _ _ _ _ (by intro q; apply e; injection q)).trans h1,h2⟩⟩
theorem keeps_setCell7 (W:World) (b i:Nat) (v:Value):Keeps (fun k=>k = b) W (W.setCell ⟨b,i,none⟩ v):=(Keeps.refl (fun k=>k = b) W).setCell (p:=⟨b,i,none⟩) (fun _=>rfl) v
theorem keeps_setCells7 (b:Nat):∀ (vs:List Value) (o:Nat) (w:World),Keeps (fun k=>k = b) w (w.setCells b o vs)
 | [],_,w=>Keeps.refl _ w
 | v :: r,o,w=>Keeps.trans (keeps_setCell7 w b o v) (keeps_setCells7 b r (o + 1) _) (fun _ _ e=>e)
theorem RawAt.stores {w:World} {g o:Nat} {l:List UInt8} (h:RawAt w g l) {s:List UInt8} (hs:o + s.length<=l.length):RawAt (w.setCells g o (Lib.byteCells s)) g (E.put l o s):=⟨fun j d hj=>by
 rw [E.put_get hs] at hj
 rw [World.frozen?_setCells]
 by_cases e:o<=j/\j < o + s.length
 ·rw [if_pos e] at hj
  obtain ⟨i,rfl⟩:∃ i,j = o + i:=⟨j - o,by omega⟩
  rw [show o + i - o = i by omega] at hj
  obtain ⟨v,h1,h2⟩:=h.cell (j:=o + i) (by omega)
  have hi:i < (Lib.byteCells s).length:=by rw [Lib.byteCells_length]; omega
  have:=World.cell?_setCells_in g (Lib.byteCells s) o w (fun q hq=>by
   obtain ⟨v,h1,_⟩:=h.cell (j:=o + q) (by rw [Lib.byteCells_length] at hq; omega)
   rw [h1]; rfl) i hi
  refine ⟨this.trans ?_,h2⟩
  congr 1
  obtain ⟨q1,q2⟩:=List.getElem?_eq_some_iff.1 hj
  simp [Lib.byteCells,q2]
 ·rw [if_neg e] at hj
  obtain ⟨h1,h2⟩:=h.at' j d hj
  refine ⟨(World.cell?_setCells_out g _ o w ⟨g,j,none⟩ (fun _ _=>?_)).trans h1,h2⟩
  rw [Lib.byteCells_length]
  show j < o\/o + s.length<=j
  omega⟩
theorem strOfNums_nat7 (l:List UInt8):strOfNums (l.map fun b=>((b.toNat:Nat):Int)) = ⟨l.toArray⟩:=by
 unfold strOfNums
 rw [List.map_map]
 congr 2
 conv=>rhs; rw [<- List.map_id l]
 apply List.map_congr_left
 intro b _
 simp
theorem RawAt.conv {w:World} {g:Nat} {l:List UInt8} (h:RawAt w g l) {n:Nat} (hn:n<=l.length) (cap:Nat):(convert 111 9 (.slice (some ⟨g,0,none⟩) n cap)).run Tryz.prog w = .ok (.string ⟨(l.take n).toArray⟩) w:=by
 have hl:(l.take n).length = n:=by simp; omega
 have h1:=run_convert_bytes_arg (P:=Tryz.prog) w 111 5 Tryz.underlying111 Tryz.underlying5 g 0 (l.take n).length cap ((l.take n).map fun b=>((b.toNat:Nat):Int)) (by simp) (fun i hi=>by
  have hi':i < l.length:=by omega
  rw [Nat.zero_add,(h.at' i l[i] (List.getElem?_eq_getElem hi')).1]
  have:i < n:=by omega
  simp [List.getD,this,hi']) 9 Tryz.underlying9
 rw [strOfNums_nat7,hl] at h1
 exact h1
theorem byteSize7 (w:World):(Go.sizeOf 5).run Tryz.prog w = .ok 1 w:=by kernel_rfl
theorem RawAt.copy {w:World} {g o:Nat} {l:List UInt8} (h:RawAt w g l) (s:ByteArray) {n:Nat} (hs:s.size<=n) (hn:o + n<=l.length) (cap:Nat) :
  ∃ W,(Builtin.copy_ #[111,9] 3 #[.slice (some ⟨g,o,none⟩) n cap,.string s]).run Tryz.prog w = .ok (goInt s.size) W/\RawAt W g (E.put l o s.data.toList)/\Keeps (fun k=>k = g) w W:=by
 have hl:s.data.toList.length = s.size:=by simp
 have hr:=run_copy_string (P:=Tryz.prog) w 111 9 3 5 g o n cap s Tryz.underlying111 byteSize7 hs (fun j hj=>by
  obtain ⟨v,h1,_⟩:=h.cell (j:=o + j) (by omega)
  rw [h1]; rfl) (fun j hj=>by
  obtain ⟨v,_,h2⟩:=h.cell (j:=o + j) (by omega)
  exact h2)
 exact ⟨_,hr,h.stores (by omega),keeps_setCells7 g _ o w⟩
def PutAt (w:World) (g o n x:Nat) (l:List UInt8) (xv i:Value) (wr:World):Prop :=
 ∃ k:Nat,k<=n/\i = .int .i64 k/\xv = .int .u64 ((x / 256 ^ k:Nat):Int)/\RawAt wr g (E.put l o (E.low k x))/\Keeps (fun q=>q = g) w wr
theorem PutAt.next {w wr:World} {g o n x k:Nat} {l:List UInt8} (hk:k < n) (hl:o + n<=l.length) (hr:RawAt wr g (E.put l o (E.low k x))) (hs:Keeps (fun q=>q = g) w wr) :
  PutAt w g o n x l (.int .u64 (((x / 256 ^ k:Nat):Int) / 256)) (.int .i64 ((k:Int) + 1)) (wr.setCell ⟨g,o + k,none⟩ (.int .u8 (((x / 256 ^ k:Nat):Int) % 256))):=by
 refine ⟨k + 1,hk,by push_cast; rfl,?_,?_,Keeps.trans hs (keeps_setCell7 wr g (o + k) _) (fun _ _ e=>e)⟩
 ·congr 1
  rw [Nat.pow_succ,<- Nat.div_div_eq_div_mul]; push_cast; rfl
 ·have h1:=hr.store (i:=o + k) ((x / 256 ^ k).toUInt8)
  rw [E.u8_mod] at h1
  have hlen:=E.low_length k x
  have h2:=E.put_set (l:=l) (s:=E.low k x) (o:=o) (by omega) ((x / 256 ^ k).toUInt8)
  rw [hlen] at h2
  rw [h2,<- E.low_snoc] at h1
  push_cast at h1 ⊢
  exact h1
set_option maxHeartbeats 1600000 in
theorem putLow_any (w:World) (g o n c x:Nat) (l:List UInt8) (h:RawAt w g l) (hl:o + n<=l.length) (hc:n<=c) (hx:x < 18446744073709551616) (hn:n<=256) :
  Calls Tryz.prog 228 #[.slice (some ⟨g,o,none⟩) n c,.int .u64 x] w fun e w'=>e = .returned (.tuple #[])/\RawAt w' g (E.put l o (E.low n x))/\Keeps (fun q=>q = g) w w':=by
 have ST:PutAt w g o n x l (.int .u64 x) (.int .i64 0) w:=⟨0,Nat.zero_le _,rfl,by rw [Nat.pow_zero,Nat.div_one],by rw [E.low,E.put_nil (by omega)]; exact h,Keeps.refl _ w⟩
 have HST:=Lib.hid ST
 clear ST h
 go_enter Tryz.func228,Tryz.ntmps228
 go_wp2
 go_loopw [1,4,7] (fun xv _ i wr=>PutAt w g o n x l xv i wr) (fun _ _ i _=>n - (intOf i).toNat)
 case atStart=>exact HST.out
 case round =>
  obtain ⟨k,hk,rfl,rfl,hr,hs⟩:=hrel
  by_cases hlt:k < n
  ·have hlen:(E.put l o (E.low k x)).length = l.length:=E.put_length (by rw [E.low_length]; omega)
   obtain ⟨cv,hcl,hcf⟩:=hr.cell (j:=o + k) (by omega)
   have FIN:=Lib.hid (PutAt.next (n:=n) hlt hl hr hs)
   have hxk:x / 256 ^ k < 18446744073709551616:=Nat.lt_of_le_of_lt (Nat.div_le_self _ _) hx
   generalize x / 256 ^ k = y at *
   clear hr hs hlen
   go_wp2
   exact ⟨FIN.out,by simp [intOf]; omega⟩
  ·obtain rfl:k = n:=by omega
   have FIN:=Lib.hid (And.intro hr hs)
   clear hr hs
   go_wp2
   go_end0
   exact ⟨rfl,FIN.out⟩
theorem or_byte7 (x b:Nat) (hx:x < 72057594037927936) (hb:b < 256):bits .or .u64 ((x:Int) * 256) (b:Int) = ((b + 256 * x:Nat):Int):=by
 rw [show (x:Int) * 256 = ((x * 256:Nat):Int) by omega,u64_or_nat _ _ (by omega) (by omega)]
 congr 1
 have:=Nat.shiftLeft_add_eq_or_of_lt (i:=8) (b:=b) (by omega) x
 rw [Nat.shiftLeft_eq] at this
 rw [<- this]; omega
theorem num_drop (s:ByteArray) (k:Nat) (h:k < s.size):E.num (s.data.toList.drop k) = s[k].toNat + 256 * E.num (s.data.toList.drop (k + 1)):=by
 rw [List.drop_eq_getElem_cons (by simpa using h),E.num]; rfl
def LowAt (s:ByteArray) (x i:Value):Prop:=∃ k:Nat,k<=s.size/\i = .int .i64 ((k:Int) - 1)/\x = .int .u64 (E.num (s.data.toList.drop k):Nat)
set_option maxHeartbeats 1600000 in
theorem low_any (s:ByteArray) (w:World) (hs:s.size<=8) :
  Calls Tryz.prog 218 #[.string s] w fun e w'=>e = .returned (.int .u64 (E.num s.data.toList:Nat))/\w = w':=by
 have HST:=Lib.hid (show LowAt s (.int .u64 0) (.int .i64 ((s.size:Int) - 1)) from ⟨s.size,Nat.le_refl _,rfl,by rw [List.drop_of_length_le (by simp)]; rfl⟩)
 go_enter Tryz.func218,Tryz.ntmps218
 go_wp2
 go_loop [3,4] (fun x i=>LowAt s x i) (fun _ i=>(intOf i + 1).toNat)
 case atStart=>exact HST.out
 case round =>
  obtain ⟨k,hk,rfl,rfl⟩:=hrel
  by_cases h0:0 < k
  ·obtain ⟨j,rfl⟩:∃ j,k = j + 1:=⟨k - 1,by omega⟩
   have hlt:j < s.size:=by omega
   have hd:=num_drop s j hlt
   have hb:=s[j].toNat_lt
   have hlen:=E.num_lt (s.data.toList.drop (j + 1))
   have hll:(s.data.toList.drop (j + 1)).length<=7:=by simp; omega
   have hy:E.num (s.data.toList.drop (j + 1)) < 72057594037927936:=Nat.lt_of_lt_of_le hlen (Nat.le_trans (Nat.pow_le_pow_right (by decide) hll) (by decide))
   have HD:=Lib.hid hd
   clear hd hlen hll
   have hor:=or_byte7 (E.num (s.data.toList.drop (j + 1))) s[j].toNat hy (by omega)
   have FIN:=Lib.hid (show LowAt s (.int .u64 ((s[j].toNat + 256 * E.num (s.data.toList.drop (j + 1)):Nat):Int)) (.int .i64 ((j:Int) - 1)) from ⟨j,by omega,rfl,by rw [HD.out]⟩)
   clear HD
   generalize E.num (s.data.toList.drop (j + 1)) = y at *
   have e1:((j + 1:Nat):Int) - 1 = (j:Int):=by omega
   rw [e1]
   go_wp2
   go_round
   case rel=>exact FIN.out
   case measure=>simp [intOf]
  ·obtain rfl:k = 0:=by omega
   have HV:=Lib.hid (show E.num (s.data.toList.drop 0) = E.num s.data.toList from rfl)
   generalize E.num (s.data.toList.drop 0) = y at *
   go_wp2
   go_ret
   exact ⟨ret_i (by rw [HV.out]),rfl⟩
structure E3 (er el ef:Addr) (w:World):Prop where
 r:w.cell? ⟨0,0,none⟩ = some (.iface 335 (.pointer (some er)))
 l:w.cell? ⟨11,0,none⟩ = some (.iface 335 (.pointer (some el)))
 f:w.cell? ⟨1,0,none⟩ = some (.iface 335 (.pointer (some ef)))
def e3V (er el ef:Addr) (n:Nat):Value:=if n = 0 then .nilIface else .iface 335 (.pointer (some (if n = 6 then er else if n = 3 then el else ef)))
namespace E
def sealR (st:Nat) (p:List UInt8):List UInt8 × Nat:=if st = 0 then ([],6) else if 234 < p.length then ([],3) else (sct st p,0)
theorem r1 (st:Nat):put (List.replicate 256 0) 0 (low 8 st) = low 8 st ++ List.replicate 248 0:=by
 have h:=put_zeros [] (low 8 st) (m:=256)
 rw [low_length] at h
 exact h
theorem r2 (st n:Nat):put (low 8 st ++ List.replicate 248 0) 8 (low 2 n) = (low 8 st ++ low 2 n) ++ List.replicate 246 0:=by
 have h:=put_zeros (low 8 st) (low 2 n) (m:=248)
 rw [low_length,low_length] at h
 exact h
theorem r3 (st n:Nat) (p:List UInt8) (hp:p.length<=234):put ((low 8 st ++ low 2 n) ++ List.replicate 246 0) 10 p = ((low 8 st ++ low 2 n) ++ pad p) ++ List.replicate 12 0:=by
 have h:=put_zeros (low 8 st ++ low 2 n) p (m:=246)
 rw [List.length_append,low_length,low_length] at h
 rw [h]
 unfold pad
 rw [show 246 - p.length = (234 - p.length) + 12 by omega,<- List.replicate_append_replicate]
 simp
theorem r4 (st n x:Nat) (p:List UInt8) (hp:p.length<=234):put (((low 8 st ++ low 2 n) ++ pad p) ++ List.replicate 12 0) 244 (low 4 x) = (((low 8 st ++ low 2 n) ++ pad p) ++ low 4 x) ++ List.replicate 8 0:=by
 have h:=put_zeros ((low 8 st ++ low 2 n) ++ pad p) (low 4 x) (m:=12)
 rw [List.length_append,List.length_append,low_length,low_length,low_length,pad_length hp] at h
 exact h
theorem r5 (st n x:Nat) (p:List UInt8) (hp:p.length<=234):put ((((low 8 st ++ low 2 n) ++ pad p) ++ low 4 x) ++ List.replicate 8 0) 248 (low 8 st) = (((low 8 st ++ low 2 n) ++ pad p) ++ low 4 x) ++ low 8 st:=by
 have h:=put_zeros (((low 8 st ++ low 2 n) ++ pad p) ++ low 4 x) (low 8 st) (m:=8)
 simp only [List.length_append,low_length,pad_length hp] at h
 rw [h]; simp
theorem r6 (st:Nat) (p:List UInt8):(low 8 st ++ low 2 p.length) ++ pad p = front3 st p:=by unfold front3; simp
theorem r7 (st:Nat) (p:List UInt8):(((low 8 st ++ low 2 p.length) ++ pad p) ++ low 4 (C.sum (front3 st p))) ++ low 8 st = sct st p:=by unfold sct front3; simp
end E
theorem zero256:Tryz.zeroCells124 = Array.replicate 256 (.int .u8 0):=by kernel_rfl
theorem RawAt.made (w:World):RawAt (w.alloc (.cells Tryz.zeroCells124 124)) w.heap.size (List.replicate 256 0):=⟨fun j c hj=>by
 have hn:=heap_alloc_new w (.cells Tryz.zeroCells124 124)
 obtain ⟨h1,h2⟩:=List.getElem?_eq_some_iff.1 hj
 have h3:j < 256:=by simpa using h1
 rw [List.getElem_replicate] at h2
 subst h2
 refine ⟨?_,Go.frozen_of_row _ _ _ _ _ hn⟩
 rw [cell_of_row _ _ _ _ _ _ hn,zero256]
 simp [h3]⟩
set_option maxHeartbeats 3200000 in
theorem seal_any (er el ef:Addr) (st:Nat) (s:ByteArray) (w:World) (hst:st < 18446744073709551616) (hE:E3 er el ef w) (hT:Tab w) :
  Calls Tryz.prog 180 #[.int .u64 st,.string s] w fun e w'=>e = .returned (.tuple #[.string ⟨(E.sealR st s.data.toList).1.toArray⟩,e3V er el ef (E.sealR st s.data.toList).2])/\Qt w w':=by
 have hlen:s.data.toList.length = s.size:=by simp
 have h1:=hE.r
 have h2:=hE.l
 by_cases hz:st = 0
 ·subst hz
  have HV:=Lib.hid (show E.sealR 0 s.data.toList = ([],6) from if_pos rfl)
  clear hT hE hlen h2
  go_enter Tryz.func180,Tryz.ntmps180
  go_wp2
  go_quiet (fail)
  go_wp2
  go_ret2
  exact ⟨by rw [HV.out]; rfl,Keeps.drewN (Qt.refl w) _⟩
 ·by_cases hb:234 < s.size
  ·have HV:=Lib.hid (show E.sealR st s.data.toList = ([],3) by unfold E.sealR; rw [if_neg hz,if_pos (by omega)])
   clear hT hE hlen h1
   go_enter Tryz.func180,Tryz.ntmps180
   go_wp2
   go_quiet (fail)
   go_wp2
   go_ret2
   exact ⟨by rw [HV.out]; rfl,Keeps.drewN (Qt.refl w) _⟩
  ·have HV:=Lib.hid (show E.sealR st s.data.toList = (E.sct st s.data.toList,0) by unfold E.sealR; rw [if_neg hz,if_neg (by omega)])
   have hp:s.data.toList.length<=234:=by omega
   have HT:=Lib.hid hT
   have HM:=Lib.hid (RawAt.made w)
   have HQ:=Lib.hid (show Since w.heap.size w (w.alloc (.cells Tryz.zeroCells124 124)) from Qt.since ((Qt.refl w).alloc _))
   have hsum:=C.extend_lt (x:=0) (by decide) (E.front3 st s.data.toList)
   have HS:=Lib.hid (show C.sum (E.front3 st s.data.toList) < 4294967296 from hsum)
   clear hT hE h1 h2 hsum
   go_enter Tryz.func180,Tryz.ntmps180
   go_wp2_with fail
   refine (putLow_any _ w.heap.size 0 8 256 st _ HM.out (by rw [List.length_replicate]; omega) (by omega) hst (by omega)).mono ?_
   rintro e w1 ⟨rfl,m,k⟩
   rw [E.r1] at m
   have M1:=Lib.hid m
   have Q1:=Lib.hid (HQ.out.step k (fun i e=>Nat.le_of_eq e.symm))
   clear m k HM HQ
   go_wp2_with fail
   refine (putLow_any w1 w.heap.size 8 2 248 s.size _ M1.out (by simp [E.low_length]) (by omega) (by omega) (by omega)).mono ?_
   rintro e w2 ⟨rfl,m,k⟩
   rw [E.r2] at m
   have M2:=Lib.hid m
   have Q2:=Lib.hid (Q1.out.step k (fun i e=>Nat.le_of_eq e.symm))
   clear m k M1 Q1
   obtain ⟨w3,hcp,m,k⟩:=M2.out.copy (o:=10) s (n:=246) (by omega) (by simp [E.low_length]) 246
   rw [E.r3 _ _ _ hp] at m
   have M3:=Lib.hid m
   have Q3:=Lib.hid (Q2.out.step k (fun i e=>Nat.le_of_eq e.symm))
   clear m k M2 Q2
   go_wp2_with (refine Lib.wpList_copy_run _ rfl _ _ 111 9 rfl _ _ rfl rfl hcp ?_)
   clear hcp
   refine wp_region_still_tail 5 (by kernel_rfl) (by kernel_rfl) ?_
   simp only [List.take_succ_cons,List.take_zero,List.drop_succ_cons,List.drop_zero]
   have M4:=Lib.hid M3.out.drew
   have Q4:=Lib.hid (show Since w.heap.size w w3.drew from Keeps.drew Q3.out)
   clear M3 Q3
   change wpStill _ _ w3.drew _ _ _
   have hcv:=M4.out.conv (n:=244) (by simp [E.low_length,E.pad_length hp]) 256
   rw [List.take_left' (by simp [E.low_length,E.pad_length hp]),<- hlen,E.r6] at hcv
   have hsm:=sum_any ⟨(E.front3 st s.data.toList).toArray⟩ w3.drew (by show (E.front3 st s.data.toList).toArray.size<=maxLen; rw [List.size_toArray,E.front3_length _ hp]; unfold maxLen; omega) (HT.out.qt (Since.qt Q4.out))
   rw [show (⟨(E.front3 st s.data.toList).toArray⟩:ByteArray).data.toList = E.front3 st s.data.toList from rfl] at hsm
   have HX:=Lib.hid HS.out
   have hX:=HS.out
   have R7:=Lib.hid (E.r7 st s.data.toList)
   rw [hlen] at R7
   generalize C.sum (E.front3 st s.data.toList) = x at *
   generalize E.front3 st s.data.toList = fr at *
   still_step
   still_step
   still_step
   still_call (hsm.mono (fun e w'' h=>⟨h.1,h.2.symm⟩))
   still_step
   refine wpStill_nil ?_
   change wpList _ _ _ _ _ w3.drew
   clear hsm hcv
   generalize w3.drew = w4 at *
   go_wp2_with fail
   refine (putLow_any w4 w.heap.size 244 4 12 x _ M4.out (by simp [E.low_length,E.pad_length hp]) (by omega) (by omega) (by omega)).mono ?_
   rintro e w5 ⟨rfl,m,k⟩
   rw [E.r4 _ _ _ _ hp] at m
   have M5:=Lib.hid m
   have Q5:=Lib.hid (Q4.out.step k (fun i e=>Nat.le_of_eq e.symm))
   clear m k M4 Q4
   go_wp2_with fail
   refine (putLow_any w5 w.heap.size 248 8 8 st _ M5.out (by simp [E.low_length,E.pad_length hp]) (by omega) hst (by omega)).mono ?_
   rintro e w6 ⟨rfl,m,k⟩
   rw [E.r5 _ _ _ _ hp,R7.out] at m
   have Q6:=Lib.hid (Q5.out.step k (fun i e=>Nat.le_of_eq e.symm))
   clear k M5 Q5
   have hcv:=m.conv (n:=256) (by rw [E.sct_length _ hp]; omega) 256
   rw [List.take_of_length_le (by rw [E.sct_length _ hp]; omega)] at hcv
   clear m
   generalize E.sct st s.data.toList = sc at *
   go_wp2
   go_ret2
   exact ⟨by rw [HV.out]; rfl,Since.qt Q6.out⟩
end Go.Proofs.YthjjfjhajadimaaGreatDoor
