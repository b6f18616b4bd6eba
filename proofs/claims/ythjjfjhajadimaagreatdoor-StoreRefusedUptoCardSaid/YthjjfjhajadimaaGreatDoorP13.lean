/-
  Joined: ERow, EPut, ESeal, EErr, ACode, FewN, NewB, ELow, EOpen.
-/
import Derived.Laws.IdiomCopy
import Derived.Lib.LazyBuf
import Derived.LoopTactic
import Derived.WalkLawsBesides
import Derived.Outline
import Derived.Test.YthjjfjhajadimaaGreatDoorP12
import Derived.Lib.SlBuf
import Derived.StillTailTactics
import Derived.Laws.BytesArg
import Derived.Laws.OwnMore
import Derived.Laws.MakeOwn
import Derived.Deep.AppendLies
import Derived.Lib.ReplaceLaws
namespace Go.Proofs.YthjjfjhajadimaaGreatDoor
open Go.RowKit Go.WideShapes
set_option maxRecDepth 100000
namespace E
def put (l:List UInt8) (o:Nat) (s:List UInt8):List UInt8:=l.take o ++ (s ++ l.drop (o + s.length))
theorem put_length {l s:List UInt8} {o:Nat} (h:o + s.length<=l.length):(put l o s).length = l.length:=by unfold put; simp; omega
theorem put_get {l s:List UInt8} {o:Nat} (h:o + s.length<=l.length) (j:Nat):(put l o s)[j]? = if o<=j/\j < o + s.length then s[j - o]? else l[j]?:=by
 unfold put
 by_cases h1:j < o
 ·rw [if_neg (by omega),List.getElem?_append_left (by simp; omega),List.getElem?_take_of_lt h1]
 ·rw [List.getElem?_append_right (by simp; omega)]
  have hl:(l.take o).length = o:=by simp; omega
  rw [hl]
  by_cases h2:j < o + s.length
  ·rw [if_pos ⟨by omega,h2⟩,List.getElem?_append_left (by omega)]
  ·rw [if_neg (by omega),List.getElem?_append_right (by omega),List.getElem?_drop]
   congr 1; omega
theorem put_nil {l:List UInt8} {o:Nat} (h:o<=l.length):put l o [] = l:=by
 apply List.ext_getElem?
 intro j
 rw [put_get (by simpa using h),if_neg (by rw [List.length_nil]; omega)]
theorem put_set {l s:List UInt8} {o:Nat} (h:o + s.length < l.length) (c:UInt8):(put l o s).set (o + s.length) c = put l o (s ++ [c]):=by
 apply List.ext_getElem?
 intro j
 rw [List.getElem?_set,put_get (by omega),put_get (by simp; omega),put_length (by omega),List.length_append,List.length_singleton]
 by_cases e:o + s.length = j
 ·subst e
  rw [if_pos rfl,if_pos h,if_pos ⟨by omega,by omega⟩,List.getElem?_append_right (by omega)]
  simp
 ·rw [if_neg e]
  by_cases h1:o<=j/\j < o + s.length
  ·rw [if_pos h1,if_pos ⟨h1.1,by omega⟩,List.getElem?_append_left (by omega)]
  ·rw [if_neg h1,if_neg (by omega)]
theorem low_snoc:∀ (k x:Nat),low (k + 1) x = low k x ++ [(x / 256 ^ k).toUInt8]
 | 0,x=>by rw [low,low,low,Nat.pow_zero,Nat.div_one]; rfl
 | k + 1,x=>by
  rw [low,low_snoc k (x / 256),low,List.cons_append,Nat.div_div_eq_div_mul,Nat.pow_succ,Nat.mul_comm 256]
theorem put_zeros (a s:List UInt8) {m:Nat}:put (a ++ List.replicate m 0) a.length s = (a ++ s) ++ List.replicate (m - s.length) 0:=by
 unfold put
 rw [List.take_left' rfl,List.drop_append,List.drop_eq_nil_of_le (by omega),List.nil_append,List.drop_replicate]
 simp
end E
structure RawAt (w:World) (g:Nat) (l:List UInt8):Prop where
 at':∀ (j:Nat) (c:UInt8),l[j]? = some c->w.cell? ⟨g,j,none⟩ = some (.int .u8 (c.toNat:Int))/\w.frozen? ⟨g,j,none⟩ = false
theorem RawAt.drew {w:World} {g:Nat} {l:List UInt8} (h:RawAt w g l):RawAt w.drew g l:=⟨fun j c hj=>h.at' j c hj⟩
theorem RawAt.cell {w:World} {g:Nat} {l:List UInt8} (h:RawAt w g l) {j:Nat} (hj:j < l.length):∃ v,w.cell? ⟨g,j,none⟩ = some v/\w.frozen? ⟨g,j,none⟩ = false:=by
 obtain ⟨h1,h2⟩:=h.at' j l[j] (List.getElem?_eq_getElem hj)
 exact ⟨_,h1,h2⟩
theorem RawAt.store {w:World} {g i:Nat} {l:List UInt8} (h:RawAt w g l) (c:UInt8):RawAt (w.setCell ⟨g,i,none⟩ (.int .u8 (c.toNat:Int))) g (l.set i c):=⟨fun j d hj=>by
 rw [List.getElem?_set] at hj
 rw [World.frozen?_setCell]
 by_cases e:i = j
 ·subst e
  rw [if_pos rfl] at hj
  split at hj
  ·rename_i hi
   injection hj with hj
   subst hj
   obtain ⟨v,h1,h2⟩:=h.cell hi
   exact ⟨World.cell?_setCell_same _ _ _ h1,h2⟩
  ·cases hj
 ·rw [if_neg e] at hj
  obtain ⟨h1,h2⟩:=h.at' j d hj
  exact ⟨(World.cell?_setCell_other _ _ _ _ (by intro q; apply e; injection q)).trans h1,h2⟩⟩
theorem keeps_setCell7 (W:World) (b i:Nat) (v:Value):Keeps (fun k=>k = b) W (W.setCell ⟨b,i,none⟩ v):=(Keeps.refl (fun k=>k = b) W).setCell (p:=⟨b,i,none⟩) (fun _=>rfl) v
theorem keeps_setCells7 (b:Nat):∀ (vs:List Value) (o:Nat) (w:World),Keeps (fun k=>k = b) w (w.setCells b o vs)
 | [],_,w=>Keeps.refl _ w
 | v :: r,o,w=>Keeps.trans (keeps_setCell7 w b o v) (keeps_setCells7 b r (o + 1) _) (fun _ _ e=>e)
theorem RawAt.stores {w:World} {g o:Nat} {l:List UInt8} (h:RawAt w g l) {s:List UInt8} (hs:o + s.length<=l.length):RawAt (w.setCells g o (Lib.byteCells s)) g (E.put l o s):=⟨fun j d hj=>by
 rw [E.put_get hs] at hj
 rw [World.frozen?_setCells]
 by_cases e:o<=j/\j < o + s.length
 ·rw [if_pos e] at hj
  obtain ⟨i,rfl⟩:∃ i,j = o + i:=⟨j - o,by omega⟩
  rw [show o + i - o = i by omega] at hj
  obtain ⟨v,h1,h2⟩:=h.cell (j:=o + i) (by omega)
  have hi:i < (Lib.byteCells s).length:=by rw [Lib.byteCells_length]; omega
  have:=World.cell?_setCells_in g (Lib.byteCells s) o w (fun q hq=>by
   obtain ⟨v,h1,_⟩:=h.cell (j:=o + q) (by rw [Lib.byteCells_length] at hq; omega)
   rw [h1]; rfl) i hi
  refine ⟨this.trans ?_,h2⟩
  congr 1
  obtain ⟨q1,q2⟩:=List.getElem?_eq_some_iff.1 hj
  simp [Lib.byteCells,q2]
 ·rw [if_neg e] at hj
  obtain ⟨h1,h2⟩:=h.at' j d hj
  refine ⟨(World.cell?_setCells_out g _ o w ⟨g,j,none⟩ (fun _ _=>?_)).trans h1,h2⟩
  rw [Lib.byteCells_length]
  show j < o\/o + s.length<=j
  omega⟩
theorem strOfNums_nat7 (l:List UInt8):strOfNums (l.map fun b=>((b.toNat:Nat):Int)) = ⟨l.toArray⟩:=by
 unfold strOfNums
 rw [List.map_map]
 congr 2
 conv=>rhs; rw [<- List.map_id l]
 apply List.map_congr_left
 intro b _
 simp
theorem RawAt.conv {w:World} {g:Nat} {l:List UInt8} (h:RawAt w g l) {n:Nat} (hn:n<=l.length) (cap:Nat):(convert 111 9 (.slice (some ⟨g,0,none⟩) n cap)).run Tryz.prog w = .ok (.string ⟨(l.take n).toArray⟩) w:=by
 have hl:(l.take n).length = n:=by simp; omega
 have h1:=run_convert_bytes_arg (P:=Tryz.prog) w 111 5 Tryz.underlying111 Tryz.underlying5 g 0 (l.take n).length cap ((l.take n).map fun b=>((b.toNat:Nat):Int)) (by simp) (fun i hi=>by
  have hi':i < l.length:=by omega
  rw [Nat.zero_add,(h.at' i l[i] (List.getElem?_eq_getElem hi')).1]
  have:i < n:=by omega
  simp [List.getD,this,hi']) 9 Tryz.underlying9
 rw [strOfNums_nat7,hl] at h1
 exact h1
theorem byteSize7 (w:World):(Go.sizeOf 5).run Tryz.prog w = .ok 1 w:=by kernel_rfl
theorem RawAt.copy {w:World} {g o:Nat} {l:List UInt8} (h:RawAt w g l) (s:ByteArray) {n:Nat} (hs:s.size<=n) (hn:o + n<=l.length) (cap:Nat) :
  ∃ W,(Builtin.copy_ #[111,9] 3 #[.slice (some ⟨g,o,none⟩) n cap,.string s]).run Tryz.prog w = .ok (goInt s.size) W/\RawAt W g (E.put l o s.data.toList)/\Keeps (fun k=>k = g) w W:=by
 have hl:s.data.toList.length = s.size:=by simp
 have hr:=run_copy_string (P:=Tryz.prog) w 111 9 3 5 g o n cap s Tryz.underlying111 byteSize7 hs (fun j hj=>by
  obtain ⟨v,h1,_⟩:=h.cell (j:=o + j) (by omega)
  rw [h1]; rfl) (fun j hj=>by
  obtain ⟨v,_,h2⟩:=h.cell (j:=o + j) (by omega)
  exact h2)
 exact ⟨_,hr,h.stores (by omega),keeps_setCells7 g _ o w⟩
def PutAt (w:World) (g o n x:Nat) (l:List UInt8) (xv i:Value) (wr:World):Prop :=
 ∃ k:Nat,k<=n/\i = .int .i64 k/\xv = .int .u64 ((x / 256 ^ k:Nat):Int)/\RawAt wr g (E.put l o (E.low k x))/\Keeps (fun q=>q = g) w wr
theorem PutAt.next {w wr:World} {g o n x k:Nat} {l:List UInt8} (hk:k < n) (hl:o + n<=l.length) (hr:RawAt wr g (E.put l o (E.low k x))) (hs:Keeps (fun q=>q = g) w wr) :
  PutAt w g o n x l (.int .u64 (((x / 256 ^ k:Nat):Int) / 256)) (.int .i64 ((k:Int) + 1)) (wr.setCell ⟨g,o + k,none⟩ (.int .u8 (((x / 256 ^ k:Nat):Int) % 256))):=by
 refine ⟨k + 1,hk,by push_cast; rfl,?_,?_,Keeps.trans hs (keeps_setCell7 wr g (o + k) _) (fun _ _ e=>e)⟩
 ·congr 1
  rw [Nat.pow_succ,<- Nat.div_div_eq_div_mul]; push_cast; rfl
 ·have h1:=hr.store (i:=o + k) ((x / 256 ^ k).toUInt8)
  rw [E.u8_mod] at h1
  have hlen:=E.low_length k x
  have h2:=E.put_set (l:=l) (s:=E.low k x) (o:=o) (by omega) ((x / 256 ^ k).toUInt8)
  rw [hlen] at h2
  rw [h2,<- E.low_snoc] at h1
  push_cast at h1 ⊢
  exact h1
set_option maxHeartbeats 1600000 in
theorem putLow_any (w:World) (g o n c x:Nat) (l:List UInt8) (h:RawAt w g l) (hl:o + n<=l.length) (hc:n<=c) (hx:x < 18446744073709551616) (hn:n<=256) :
  Calls Tryz.prog 228 #[.slice (some ⟨g,o,none⟩) n c,.int .u64 x] w fun e w'=>e = .returned (.tuple #[])/\RawAt w' g (E.put l o (E.low n x))/\Keeps (fun q=>q = g) w w':=by
 have ST:PutAt w g o n x l (.int .u64 x) (.int .i64 0) w:=⟨0,Nat.zero_le _,rfl,by rw [Nat.pow_zero,Nat.div_one],by rw [E.low,E.put_nil (by omega)]; exact h,Keeps.refl _ w⟩
 have HST:=Lib.hid ST
 clear ST h
 go_enter Tryz.func228,Tryz.ntmps228
 go_wp2
 go_loopw [1,4,7] (fun xv _ i wr=>PutAt w g o n x l xv i wr) (fun _ _ i _=>n - (intOf i).toNat)
 case atStart=>exact HST.out
 case round =>
  obtain ⟨k,hk,rfl,rfl,hr,hs⟩:=hrel
  by_cases hlt:k < n
  ·have hlen:(E.put l o (E.low k x)).length = l.length:=E.put_length (by rw [E.low_length]; omega)
   obtain ⟨cv,hcl,hcf⟩:=hr.cell (j:=o + k) (by omega)
   have FIN:=Lib.hid (PutAt.next (n:=n) hlt hl hr hs)
   have hxk:x / 256 ^ k < 18446744073709551616:=Nat.lt_of_le_of_lt (Nat.div_le_self _ _) hx
   generalize x / 256 ^ k = y at *
   clear hr hs hlen
   go_wp2
   exact ⟨FIN.out,by simp [intOf]; omega⟩
  ·obtain rfl:k = n:=by omega
   have FIN:=Lib.hid (And.intro hr hs)
   clear hr hs
   go_wp2
   go_end0
   exact ⟨rfl,FIN.out⟩
theorem or_byte7 (x b:Nat) (hx:x < 72057594037927936) (hb:b < 256):bits .or .u64 ((x:Int) * 256) (b:Int) = ((b + 256 * x:Nat):Int):=by
 rw [show (x:Int) * 256 = ((x * 256:Nat):Int) by omega,u64_or_nat _ _ (by omega) (by omega)]
 congr 1
 have:=Nat.shiftLeft_add_eq_or_of_lt (i:=8) (b:=b) (by omega) x
 rw [Nat.shiftLeft_eq] at this
 rw [<- this]; omega
theorem num_drop (s:ByteArray) (k:Nat) (h:k < s.size):E.num (s.data.toList.drop k) = s[k].toNat + 256 * E.num (s.data.toList.drop (k + 1)):=by
 rw [List.drop_eq_getElem_cons (by simpa using h),E.num]; rfl
def LowAt (s:ByteArray) (x i:Value):Prop:=∃ k:Nat,k<=s.size/\i = .int .i64 ((k:Int) - 1)/\x = .int .u64 (E.num (s.data.toList.drop k):Nat)
set_option maxHeartbeats 1600000 in
theorem low_any (s:ByteArray) (w:World) (hs:s.size<=8) :
  Calls Tryz.prog 218 #[.string s] w fun e w'=>e = .returned (.int .u64 (E.num s.data.toList:Nat))/\w = w':=by
 have HST:=Lib.hid (show LowAt s (.int .u64 0) (.int .i64 ((s.size:Int) - 1)) from ⟨s.size,Nat.le_refl _,rfl,by rw [List.drop_of_length_le (by simp)]; rfl⟩)
 go_enter Tryz.func218,Tryz.ntmps218
 go_wp2
 go_loop [3,4] (fun x i=>LowAt s x i) (fun _ i=>(intOf i + 1).toNat)
 case atStart=>exact HST.out
 case round =>
  obtain ⟨k,hk,rfl,rfl⟩:=hrel
  by_cases h0:0 < k
  ·obtain ⟨j,rfl⟩:∃ j,k = j + 1:=⟨k - 1,by omega⟩
   have hlt:j < s.size:=by omega
   have hd:=num_drop s j hlt
   have hb:=s[j].toNat_lt
   have hlen:=E.num_lt (s.data.toList.drop (j + 1))
   have hll:(s.data.toList.drop (j + 1)).length<=7:=by simp; omega
   have hy:E.num (s.data.toList.drop (j + 1)) < 72057594037927936:=Nat.lt_of_lt_of_le hlen (Nat.le_trans (Nat.pow_le_pow_right (by decide) hll) (by decide))
   have HD:=Lib.hid hd
   clear hd hlen hll
   have hor:=or_byte7 (E.num (s.data.toList.drop (j + 1))) s[j].toNat hy (by omega)
   have FIN:=Lib.hid (show LowAt s (.int .u64 ((s[j].toNat + 256 * E.num (s.data.toList.drop (j + 1)):Nat):Int)) (.int .i64 ((j:Int) - 1)) from ⟨j,by omega,rfl,by rw [HD.out]⟩)
   clear HD
   generalize E.num (s.data.toList.drop (j + 1)) = y at *
   have e1:((j + 1:Nat):Int) - 1 = (j:Int):=by omega
   rw [e1]
   go_wp2
   go_round
   case rel=>exact FIN.out
   case measure=>simp [intOf]
  ·obtain rfl:k = 0:=by omega
   have HV:=Lib.hid (show E.num (s.data.toList.drop 0) = E.num s.data.toList from rfl)
   generalize E.num (s.data.toList.drop 0) = y at *
   go_wp2
   go_ret
   exact ⟨ret_i (by rw [HV.out]),rfl⟩
structure E3 (er el ef:Addr) (w:World):Prop where
 r:w.cell? ⟨0,0,none⟩ = some (.iface 335 (.pointer (some er)))
 l:w.cell? ⟨11,0,none⟩ = some (.iface 335 (.pointer (some el)))
 f:w.cell? ⟨1,0,none⟩ = some (.iface 335 (.pointer (some ef)))
def e3V (er el ef:Addr) (n:Nat):Value:=if n = 0 then .nilIface else .iface 335 (.pointer (some (if n = 6 then er else if n = 3 then el else ef)))
namespace E
def sealR (st:Nat) (p:List UInt8):List UInt8 × Nat:=if st = 0 then ([],6) else if 234 < p.length then ([],3) else (sct st p,0)
theorem r1 (st:Nat):put (List.replicate 256 0) 0 (low 8 st) = low 8 st ++ List.replicate 248 0:=by
 have h:=put_zeros [] (low 8 st) (m:=256)
 rw [low_length] at h
 exact h
theorem r2 (st n:Nat):put (low 8 st ++ List.replicate 248 0) 8 (low 2 n) = (low 8 st ++ low 2 n) ++ List.replicate 246 0:=by
 have h:=put_zeros (low 8 st) (low 2 n) (m:=248)
 rw [low_length,low_length] at h
 exact h
theorem r3 (st n:Nat) (p:List UInt8) (hp:p.length<=234):put ((low 8 st ++ low 2 n) ++ List.replicate 246 0) 10 p = ((low 8 st ++ low 2 n) ++ pad p) ++ List.replicate 12 0:=by
 have h:=put_zeros (low 8 st ++ low 2 n) p (m:=246)
 rw [List.length_append,low_length,low_length] at h
 rw [h]
 unfold pad
 rw [show 246 - p.length = (234 - p.length) + 12 by omega,<- List.replicate_append_replicate]
 simp
theorem r4 (st n x:Nat) (p:List UInt8) (hp:p.length<=234):put (((low 8 st ++ low 2 n) ++ pad p) ++ List.replicate 12 0) 244 (low 4 x) = (((low 8 st ++ low 2 n) ++ pad p) ++ low 4 x) ++ List.replicate 8 0:=by
 have h:=put_zeros ((low 8 st ++ low 2 n) ++ pad p) (low 4 x) (m:=12)
 rw [List.length_append,List.length_append,low_length,low_length,low_length,pad_length hp] at h
 exact h
theorem r5 (st n x:Nat) (p:List UInt8) (hp:p.length<=234):put ((((low 8 st ++ low 2 n) ++ pad p) ++ low 4 x) ++ List.replicate 8 0) 248 (low 8 st) = (((low 8 st ++ low 2 n) ++ pad p) ++ low 4 x) ++ low 8 st:=by
 have h:=put_zeros (((low 8 st ++ low 2 n) ++ pad p) ++ low 4 x) (low 8 st) (m:=8)
 simp only [List.length_append,low_length,pad_length hp] at h
 rw [h]; simp
theorem r6 (st:Nat) (p:List UInt8):(low 8 st ++ low 2 p.length) ++ pad p = front3 st p:=by unfold front3; simp
theorem r7 (st:Nat) (p:List UInt8):(((low 8 st ++ low 2 p.length) ++ pad p) ++ low 4 (C.sum (front3 st p))) ++ low 8 st = sct st p:=by unfold sct front3; simp
end E
theorem zero256:Tryz.zeroCells124 = Array.replicate 256 (.int .u8 0):=by kernel_rfl
theorem RawAt.made (w:World):RawAt (w.alloc (.cells Tryz.zeroCells124 124)) w.heap.size (List.replicate 256 0):=⟨fun j c hj=>by
 have hn:=heap_alloc_new w (.cells Tryz.zeroCells124 124)
 obtain ⟨h1,h2⟩:=List.getElem?_eq_some_iff.1 hj
 have h3:j < 256:=by simpa using h1
 rw [List.getElem_replicate] at h2
 subst h2
 refine ⟨?_,Go.frozen_of_row _ _ _ _ _ hn⟩
 rw [cell_of_row _ _ _ _ _ _ hn,zero256]
 simp [h3]⟩
set_option maxHeartbeats 3200000 in
theorem seal_any (er el ef:Addr) (st:Nat) (s:ByteArray) (w:World) (hst:st < 18446744073709551616) (hE:E3 er el ef w) (hT:Tab w) :
  Calls Tryz.prog 180 #[.int .u64 st,.string s] w fun e w'=>e = .returned (.tuple #[.string ⟨(E.sealR st s.data.toList).1.toArray⟩,e3V er el ef (E.sealR st s.data.toList).2])/\Qt w w':=by
 have hlen:s.data.toList.length = s.size:=by simp
 have h1:=hE.r
 have h2:=hE.l
 by_cases hz:st = 0
 ·subst hz
  have HV:=Lib.hid (show E.sealR 0 s.data.toList = ([],6) from if_pos rfl)
  clear hT hE hlen h2
  go_enter Tryz.func180,Tryz.ntmps180
  go_wp2
  go_quiet (fail)
  go_wp2
  go_ret2
  exact ⟨by rw [HV.out]; rfl,Keeps.drewN (Qt.refl w) _⟩
 ·by_cases hb:234 < s.size
  ·have HV:=Lib.hid (show E.sealR st s.data.toList = ([],3) by unfold E.sealR; rw [if_neg hz,if_pos (by omega)])
   clear hT hE hlen h1
   go_enter Tryz.func180,Tryz.ntmps180
   go_wp2
   go_quiet (fail)
   go_wp2
   go_ret2
   exact ⟨by rw [HV.out]; rfl,Keeps.drewN (Qt.refl w) _⟩
  ·have HV:=Lib.hid (show E.sealR st s.data.toList = (E.sct st s.data.toList,0) by unfold E.sealR; rw [if_neg hz,if_neg (by omega)])
   have hp:s.data.toList.length<=234:=by omega
   have HT:=Lib.hid hT
   have HM:=Lib.hid (RawAt.made w)
   have HQ:=Lib.hid (show Since w.heap.size w (w.alloc (.cells Tryz.zeroCells124 124)) from Qt.since ((Qt.refl w).alloc _))
   have hsum:=C.extend_lt (x:=0) (by decide) (E.front3 st s.data.toList)
   have HS:=Lib.hid (show C.sum (E.front3 st s.data.toList) < 4294967296 from hsum)
   clear hT hE h1 h2 hsum
   go_enter Tryz.func180,Tryz.ntmps180
   go_wp2_with fail
   refine (putLow_any _ w.heap.size 0 8 256 st _ HM.out (by rw [List.length_replicate]; omega) (by omega) hst (by omega)).mono ?_
   rintro e w1 ⟨rfl,m,k⟩
   rw [E.r1] at m
   have M1:=Lib.hid m
   have Q1:=Lib.hid (HQ.out.step k (fun i e=>Nat.le_of_eq e.symm))
   clear m k HM HQ
   go_wp2_with fail
   refine (putLow_any w1 w.heap.size 8 2 248 s.size _ M1.out (by simp [E.low_length]) (by omega) (by omega) (by omega)).mono ?_
   rintro e w2 ⟨rfl,m,k⟩
   rw [E.r2] at m
   have M2:=Lib.hid m
   have Q2:=Lib.hid (Q1.out.step k (fun i e=>Nat.le_of_eq e.symm))
   clear m k M1 Q1
   obtain ⟨w3,hcp,m,k⟩:=M2.out.copy (o:=10) s (n:=246) (by omega) (by simp [E.low_length]) 246
   rw [E.r3 _ _ _ hp] at m
   have M3:=Lib.hid m
   have Q3:=Lib.hid (Q2.out.step k (fun i e=>Nat.le_of_eq e.symm))
   clear m k M2 Q2
   go_wp2_with (refine Lib.wpList_copy_run _ rfl _ _ 111 9 rfl _ _ rfl rfl hcp ?_)
   clear hcp
   refine wp_region_still_tail 5 (by kernel_rfl) (by kernel_rfl) ?_
   simp only [List.take_succ_cons,List.take_zero,List.drop_succ_cons,List.drop_zero]
   have M4:=Lib.hid M3.out.drew
   have Q4:=Lib.hid (show Since w.heap.size w w3.drew from Keeps.drew Q3.out)
   clear M3 Q3
   change wpStill _ _ w3.drew _ _ _
   have hcv:=M4.out.conv (n:=244) (by simp [E.low_length,E.pad_length hp]) 256
   rw [List.take_left' (by simp [E.low_length,E.pad_length hp]),<- hlen,E.r6] at hcv
   have hsm:=sum_any ⟨(E.front3 st s.data.toList).toArray⟩ w3.drew (by show (E.front3 st s.data.toList).toArray.size<=maxLen; rw [List.size_toArray,E.front3_length _ hp]; unfold maxLen; omega) (HT.out.qt (Since.qt Q4.out))
   rw [show (⟨(E.front3 st s.data.toList).toArray⟩:ByteArray).data.toList = E.front3 st s.data.toList from rfl] at hsm
   have HX:=Lib.hid HS.out
   have hX:=HS.out
   have R7:=Lib.hid (E.r7 st s.data.toList)
   rw [hlen] at R7
   generalize C.sum (E.front3 st s.data.toList) = x at *
   generalize E.front3 st s.data.toList = fr at *
   still_step
   still_step
   still_step
   still_call (hsm.mono (fun e w'' h=>⟨h.1,h.2.symm⟩))
   still_step
   refine wpStill_nil ?_
   change wpList _ _ _ _ _ w3.drew
   clear hsm hcv
   generalize w3.drew = w4 at *
   go_wp2_with fail
   refine (putLow_any w4 w.heap.size 244 4 12 x _ M4.out (by simp [E.low_length,E.pad_length hp]) (by omega) (by omega) (by omega)).mono ?_
   rintro e w5 ⟨rfl,m,k⟩
   rw [E.r4 _ _ _ _ hp] at m
   have M5:=Lib.hid m
   have Q5:=Lib.hid (Q4.out.step k (fun i e=>Nat.le_of_eq e.symm))
   clear m k M4 Q4
   go_wp2_with fail
   refine (putLow_any w5 w.heap.size 248 8 8 st _ M5.out (by simp [E.low_length,E.pad_length hp]) (by omega) hst (by omega)).mono ?_
   rintro e w6 ⟨rfl,m,k⟩
   rw [E.r5 _ _ _ _ hp,R7.out] at m
   have Q6:=Lib.hid (Q5.out.step k (fun i e=>Nat.le_of_eq e.symm))
   clear k M5 Q5
   have hcv:=m.conv (n:=256) (by rw [E.sct_length _ hp]; omega) 256
   rw [List.take_of_length_le (by rw [E.sct_length _ hp]; omega)] at hcv
   clear m
   generalize E.sct st s.data.toList = sc at *
   go_wp2
   go_ret2
   exact ⟨by rw [HV.out]; rfl,Since.qt Q6.out⟩
end Go.Proofs.YthjjfjhajadimaaGreatDoor
namespace Go.Proofs.YthjjfjhajadimaaGreatDoor
open Go.RowKit
set_option maxRecDepth 100000
theorem Errs.e3 {ad:Nat->Addr} {w:World} (h:Errs ad w):E3 (ad 6) (ad 3) (ad 7) w:=⟨h.cells 5 _ rfl,h.cells 2 _ rfl,h.cells 6 _ rfl⟩
end Go.Proofs.YthjjfjhajadimaaGreatDoor
namespace Go.Proofs.YthjjfjhajadimaaGreatDoor
open Go.RowKit Go.WideShapes
set_option maxRecDepth 100000
theorem apiece_any (z k:Nat) (h:k * 234 < z) (hz:z<=15335424) (w:World):Calls Tryz.prog 181 #[.int .i64 z,.int .i64 k] w fun e w'=>e = .returned (.int .i64 ((min 234 (z - k * 234):Nat):Int))/\w' = w:=by
 have z1:wrap64 ((k:Int) * 234) = (k:Int) * 234:=by unfold wrap64; omega
 have z2:wrap64 ((z:Int) - (k:Int) * 234) = (z:Int) - (k:Int) * 234:=by unfold wrap64; omega
 have z3:min 234 ((z:Int) - (k:Int) * 234) = ((min 234 (z - k * 234):Nat):Int):=by omega
 clear h hz
 generalize min 234 (z - k * 234) = m at *
 go_enter Tryz.func181,Tryz.ntmps181
 go_wp2
 go_ret
 exact ⟨rfl,rfl⟩
theorem aroom_any:ARoomH:=by
 intro n w
 have z1:wrap64 (234 * min (max n 0) 65536) = 234 * min (max n 0) 65536:=by unfold wrap64; omega
 have FIN:=Lib.hid (show 234 * min (max n 0) 65536 = roomZ n from rfl)
 go_enter Tryz.func119,Tryz.ntmps119
 go_wp2
 go_ret
 exact ⟨by rw [<- FIN.out]; rfl,rfl⟩
theorem asecs_any:ASecsH:=by
 intro x w hx
 by_cases h0:x<=0
 ·have FIN:=Lib.hid (show secsZ x = 0 from if_pos h0)
  go_enter Tryz.func179,Tryz.ntmps179
  go_wp2
  go_ret
  exact ⟨by rw [FIN.out]; rfl,rfl⟩
 ·have FIN:=Lib.hid (show secsZ x = (x - 1) / 234 + 1 from if_neg h0)
  have z0:decide (x<=0) = false:=decide_eq_false h0
  have z1:wrap64 (x - 1) = x - 1:=by unfold wrap64; omega
  have z2:(x - 1).tdiv 234 = (x - 1) / 234:=Int.tdiv_eq_ediv_of_nonneg (by omega)
  have z3:wrap64 ((x - 1) / 234 + 1) = (x - 1) / 234 + 1:=by unfold wrap64; omega
  go_enter Tryz.func179,Tryz.ntmps179
  go_wp2
  go_ret
  exact ⟨by rw [FIN.out]; rfl,rfl⟩
def DS.refN (d:DS) (i n:Int) (st:Nat) (z:Int):Nat:=if ¬ d.mayA i n st\/z < 0 then 6 else if 234 * min n.toNat 65536 < z.toNat then 3 else if d.off = true then 12 else 0
theorem arefuse_any (ad:Nat->Addr) {w:World} {b:Nat} {d:DS} {S:Nat->Prop} (hE:Errs ad w) (h:DiskAt w b d S) (i n:Int) (st:Nat) (z:Int) (hn:n<=9223372036854775807) :
  Calls Tryz.prog 178 #[.pointer (some ⟨b,0,none⟩),.int .i64 i,.int .i64 n,.int .u64 st,.int .i64 z] w fun e w'=>e = .returned (errV ad (d.refN i n st z))/\w' = w:=by
 have SZ:=size_any h
 have OF:=off_any h
 have hl:d.dur.length<=65536:=by obtain ⟨gd,mb,uv,h,_⟩:=h; exact h.ok.le
 have e6:w.cell? ⟨0,0,none⟩ = some (.iface 335 (.pointer (some (ad 6)))):=hE.cells 5 _ rfl
 have e3:w.cell? ⟨11,0,none⟩ = some (.iface 335 (.pointer (some (ad 3)))):=hE.cells 2 _ rfl
 have e12:w.cell? ⟨6,0,none⟩ = some (.iface 335 (.pointer (some (ad 12)))):=hE.cells 11 _ rfl
 clear hE h
 have RM:=aroom_any n
 rw [roomZ_nat] at RM
 by_cases c0:i < 0
 ·have FIN:=Lib.hid (show d.refN i n st z = 6 from if_pos (.inl (fun k=>by have q:=k.1; omega)))
  have y0:decide (i < 0) = true:=decide_eq_true c0
  clear hl hn
  generalize 234 * min n.toNat 65536 = R at *
  generalize d.dur.length = L at *
  go_enter Tryz.func178,Tryz.ntmps178
  go_wp2
  go_ret
  exact ⟨by rw [FIN.out]; rfl,rfl⟩
 ·skip
  by_cases c1:n < 0
  ·have FIN:=Lib.hid (show d.refN i n st z = 6 from if_pos (.inl (fun k=>by have q:=k.2.1; omega)))
   have y0:decide (i < 0) = false:=decide_eq_false c0
   have y1:decide (n < 0) = true:=decide_eq_true c1
   clear hl hn
   generalize 234 * min n.toNat 65536 = R at *
   generalize d.dur.length = L at *
   go_enter Tryz.func178,Tryz.ntmps178
   go_wp2
   go_ret
   exact ⟨by rw [FIN.out]; rfl,rfl⟩
  ·skip
   by_cases c2:(d.dur.length:Int) - n < i
   ·have FIN:=Lib.hid (show d.refN i n st z = 6 from if_pos (.inl (fun k=>by have q:=k.2.2.2.1; omega)))
    have y0:decide (i < 0) = false:=decide_eq_false c0
    have y1:decide (n < 0) = false:=decide_eq_false c1
    have w2:wrap64 ((d.dur.length:Int) - n) = (d.dur.length:Int) - n:=by unfold wrap64; omega
    have y2:decide ((d.dur.length:Int) - n < i) = true:=decide_eq_true c2
    clear hl hn
    generalize 234 * min n.toNat 65536 = R at *
    generalize d.dur.length = L at *
    go_enter Tryz.func178,Tryz.ntmps178
    go_wp2_with fail
    refine SZ.mono ?_
    rintro e w1 ⟨rfl,rfl⟩
    go_wp2
    go_ret
    exact ⟨by rw [FIN.out]; rfl,rfl⟩
   ·skip
    by_cases c3:st = 0
    ·have FIN:=Lib.hid (show d.refN i n st z = 6 from if_pos (.inl (fun k=>by have q:=k.2.2.2.2; omega)))
     subst c3
     have y0:decide (i < 0) = false:=decide_eq_false c0
     have y1:decide (n < 0) = false:=decide_eq_false c1
     have w2:wrap64 ((d.dur.length:Int) - n) = (d.dur.length:Int) - n:=by unfold wrap64; omega
     have y2:decide ((d.dur.length:Int) - n < i) = false:=decide_eq_false c2
     clear hl hn
     generalize 234 * min n.toNat 65536 = R at *
     generalize d.dur.length = L at *
     go_enter Tryz.func178,Tryz.ntmps178
     go_wp2_with fail
     refine SZ.mono ?_
     rintro e w1 ⟨rfl,rfl⟩
     go_wp2
     go_ret
     exact ⟨by rw [FIN.out]; rfl,rfl⟩
    ·skip
     by_cases c4:z < 0
     ·have FIN:=Lib.hid (show d.refN i n st z = 6 from if_pos (.inr c4))
      have y0:decide (i < 0) = false:=decide_eq_false c0
      have y1:decide (n < 0) = false:=decide_eq_false c1
      have w2:wrap64 ((d.dur.length:Int) - n) = (d.dur.length:Int) - n:=by unfold wrap64; omega
      have y2:decide ((d.dur.length:Int) - n < i) = false:=decide_eq_false c2
      have y3:((st:Int) == 0) = false:=by rw [beq_eq_false_iff_ne]; omega
      have y4:decide (z < 0) = true:=decide_eq_true c4
      clear hl hn
      generalize 234 * min n.toNat 65536 = R at *
      generalize d.dur.length = L at *
      go_enter Tryz.func178,Tryz.ntmps178
      go_wp2_with fail
      refine SZ.mono ?_
      rintro e w1 ⟨rfl,rfl⟩
      go_wp2
      go_ret
      exact ⟨by rw [FIN.out]; rfl,rfl⟩
     ·skip
      have hnot:¬ (¬ d.mayA i n st\/z < 0):=(fun k=>by rcases k with k | k; exact k ⟨by omega,by omega,by omega,by omega,c3⟩; omega)
      obtain ⟨z,rfl⟩:=Int.eq_ofNat_of_zero_le (show 0<=z by omega)
      have y0:decide (i < 0) = false:=decide_eq_false c0
      have y1:decide (n < 0) = false:=decide_eq_false c1
      have w2:wrap64 ((d.dur.length:Int) - n) = (d.dur.length:Int) - n:=by unfold wrap64; omega
      have y2:decide ((d.dur.length:Int) - n < i) = false:=decide_eq_false c2
      have y3:((st:Int) == 0) = false:=by rw [beq_eq_false_iff_ne]; omega
      have y4:decide ((z:Int) < 0) = false:=decide_eq_false c4
      by_cases c5:234 * min n.toNat 65536 < z
      ·have FIN:=Lib.hid (show d.refN i n st z = 3 from (if_neg hnot).trans (if_pos (by rw [Int.toNat_natCast]; exact c5)))
       have y5:decide (((234 * min n.toNat 65536:Nat):Int) < (z:Int)) = true:=decide_eq_true (by omega)
       have y6:decide (234 * min n.toNat 65536 < z) = true:=decide_eq_true c5
       clear hnot c0 c1 c2 c3 c4 c5
       clear hl hn
       generalize 234 * min n.toNat 65536 = R at *
       generalize d.dur.length = L at *
       go_enter Tryz.func178,Tryz.ntmps178
       go_wp2_with fail
       refine SZ.mono ?_
       rintro e w1 ⟨rfl,rfl⟩
       go_wp2_with fail
       refine (RM _).mono ?_
       rintro e w1 ⟨rfl,rfl⟩
       go_wp2
       go_ret
       exact ⟨by rw [FIN.out]; rfl,rfl⟩
      ·have y5:decide (((234 * min n.toNat 65536:Nat):Int) < (z:Int)) = false:=decide_eq_false (by omega)
       have y6:decide (234 * min n.toNat 65536 < z) = false:=decide_eq_false c5
       cases c6:d.off with
       | true =>
        rw [c6] at OF
        have FIN:=Lib.hid (show d.refN i n st z = 12 from (if_neg hnot).trans ((if_neg (by rw [Int.toNat_natCast]; exact c5)).trans (if_pos c6)))
        clear hnot c0 c1 c2 c3 c4 c5 c6
        clear hl hn
        generalize 234 * min n.toNat 65536 = R at *
        generalize d.dur.length = L at *
        go_enter Tryz.func178,Tryz.ntmps178
        go_wp2_with fail
        refine SZ.mono ?_
        rintro e w1 ⟨rfl,rfl⟩
        go_wp2_with fail
        refine (RM _).mono ?_
        rintro e w1 ⟨rfl,rfl⟩
        go_wp2_with fail
        refine OF.mono ?_
        rintro e w1 ⟨rfl,rfl⟩
        go_wp2
        go_ret
        exact ⟨by rw [FIN.out]; rfl,rfl⟩
       | false =>
        rw [c6] at OF
        have FIN:=Lib.hid (show d.refN i n st z = 0 from (if_neg hnot).trans ((if_neg (by rw [Int.toNat_natCast]; exact c5)).trans (if_neg (by rw [c6]; simp))))
        clear hnot c0 c1 c2 c3 c4 c5 c6
        clear hl hn
        generalize 234 * min n.toNat 65536 = R at *
        generalize d.dur.length = L at *
        go_enter Tryz.func178,Tryz.ntmps178
        go_wp2_with fail
        refine SZ.mono ?_
        rintro e w1 ⟨rfl,rfl⟩
        go_wp2_with fail
        refine (RM _).mono ?_
        rintro e w1 ⟨rfl,rfl⟩
        go_wp2_with fail
        refine OF.mono ?_
        rintro e w1 ⟨rfl,rfl⟩
        go_wp2
        go_ret
        exact ⟨by rw [FIN.out]; rfl,rfl⟩
end Go.Proofs.YthjjfjhajadimaaGreatDoor
namespace Go.Proofs.YthjjfjhajadimaaGreatDoor
set_option maxRecDepth 100000
end Go.Proofs.YthjjfjhajadimaaGreatDoor
namespace Go.Proofs.YthjjfjhajadimaaGreatDoor
open Go.RowKit Go.WideShapes
set_option maxRecDepth 100000
theorem dslice (s:ByteArray) (a b:Nat):(s.extract a b).data.toList = (s.data.toList.drop a).take (b - a):=Lib.extract_data s a b
theorem dlen7 (s:ByteArray):s.data.toList.length = s.size:=by simp
theorem of_list {s:ByteArray} {l:List UInt8} (h:s.data.toList = l):s = ⟨l.toArray⟩:=by subst h; rfl
theorem slice10 (s:ByteArray) (hz:s.size = 256) (n:Nat) (hn:n<=234) (wx:World):(Instr.slice 9 (.string s) (some (.int .i64 10)) (some (.int .i64 (10 + (n:Int)))) none).run Tryz.prog wx = .ok (.string (s.extract 10 (10 + n))) wx:=by
 have:=run_slice_string (P:=Tryz.prog) wx 9 s .i64 .i64 10 (10 + (n:Int)) Tryz.underlying9 (by omega) (by omega) (by omega)
 rw [this,show (10 + (n:Int)).toNat = 10 + n by omega,show (10:Int).toNat = 10 by rfl]
def openV:Option (List UInt8)->Value
 | none=>.tuple #[.string ⟨#[]⟩,.bool false]
 | some p=>.tuple #[.string ⟨p.toArray⟩,.bool true]
theorem open_size {st:Nat} {s:List UInt8} (h:s.length ≠ 256):E.openS st s = none:=if_neg (fun k=>h k.1)
theorem open_wide {st:Nat} {s:List UInt8} (h:234 < E.size s):E.openS st s = none:=if_neg (fun k=>by have:=k.2.2.1; omega)
theorem open_zero {s:List UInt8}:E.openS 0 s = none:=if_neg (fun k=>k.2.1 rfl)
theorem open_no {st:Nat} {s:List UInt8} (h:s ≠ E.sct st (E.pay s)):E.openS st s = none:=if_neg (fun k=>h k.2.2.2)
theorem open_yes {st:Nat} {s:List UInt8} (h1:s.length = 256) (h2:st ≠ 0) (h3:E.size s<=234) (h:s = E.sct st (E.pay s)):E.openS st s = some (E.pay s):=if_pos ⟨h1,h2,h3,h⟩
theorem size_lt (l:List UInt8):E.size l < 65536:=by
 have h:=E.num_lt ((l.drop 8).take 2)
 have h2:((l.drop 8).take 2).length<=2:=by rw [List.length_take]; omega
 exact Nat.lt_of_lt_of_le h (Nat.le_trans (Nat.pow_le_pow_right (by decide) h2) (by decide))
set_option maxHeartbeats 1600000 in
theorem open_any (er el ef:Addr) (st:Nat) (s:ByteArray) (w:World) (hst:st < 18446744073709551616) (hE:E3 er el ef w) (hT:Tab w) :
  Calls Tryz.prog 170 #[.int .u64 st,.string s] w fun e w'=>e = .returned (openV (E.openS st s.data.toList))/\Qt w w':=by
 have hd:=dlen7 s
 by_cases hz:s.size = 256
 ·have hlow:=low_any (s.extract 8 10) w (by rw [ByteArray.size_extract]; omega)
  rw [dslice] at hlow
  have hn:E.num ((s.data.toList.drop 8).take (10 - 8)) = E.size s.data.toList:=rfl
  rw [hn] at hlow
  clear hn
  have hsl:=size_lt s.data.toList
  by_cases h234:234 < E.size s.data.toList
  ·have HV:=Lib.hid (congrArg openV (open_wide (st:=st) h234))
   clear hE hT hd
   generalize E.size s.data.toList = n at *
   go_enter Tryz.func170,Tryz.ntmps170
   go_wp2_with fail
   refine hlow.mono ?_
   rintro e w1 ⟨rfl,rfl⟩
   go_wp2
   go_ret2
   exact ⟨by rw [HV.out]; rfl,Qt.refl _⟩
  ·have hsli:=slice10 s hz (E.size s.data.toList) (by omega)
   have hpl:(s.extract 10 (10 + E.size s.data.toList)).data.toList = E.pay s.data.toList:=by
    rw [dslice,Nat.add_sub_cancel_left]; rfl
   have HP:=Lib.hid (of_list hpl)
   have hseal:=seal_any er el ef st (s.extract 10 (10 + E.size s.data.toList)) w hst hE hT
   rw [hpl] at hseal
   have hlp:=E.pay_length (raw:=s.data.toList) (by omega) (by omega)
   by_cases h0:st = 0
   ·subst h0
    have HV:=Lib.hid (congrArg openV (open_zero (s:=s.data.toList)))
    rw [show E.sealR 0 (E.pay s.data.toList) = ([],6) from if_pos rfl,show e3V er el ef 6 = .iface 335 (.pointer (some er)) from rfl] at hseal
    clear hE hT hd HP hpl hlp
    generalize E.size s.data.toList = n at *
    go_enter Tryz.func170,Tryz.ntmps170
    go_wp2_with fail
    refine hlow.mono ?_
    rintro e w1 ⟨rfl,rfl⟩
    clear hlow
    go_wp2_with fail
    refine hseal.mono ?_
    rintro e w1 ⟨rfl,k⟩
    have K:=Lib.hid k; clear k hseal
    go_wp2
    go_ret2
    exact ⟨by rw [HV.out]; rfl,K.out⟩
   ·rw [show E.sealR st (E.pay s.data.toList) = (E.sct st (E.pay s.data.toList),0) by unfold E.sealR; rw [if_neg h0,if_neg (by omega)],show e3V er el ef 0 = .nilIface from rfl] at hseal
    by_cases hq:s.data.toList = E.sct st (E.pay s.data.toList)
    ·have HV:=Lib.hid (congrArg openV (open_yes (st:=st) (by omega) h0 (by omega) hq))
     have hbe:(s.toList == E.sct st (E.pay s.data.toList)) = true:=by
      rw [Lib.toList_data]; exact beq_iff_eq.2 hq
     clear hE hT hd hpl hlp hq
     generalize E.sct st (E.pay s.data.toList) = sc at *
     generalize E.pay s.data.toList = pl at *
     generalize E.size s.data.toList = n at *
     go_enter Tryz.func170,Tryz.ntmps170
     go_wp2_with fail
     refine hlow.mono ?_
     rintro e w1 ⟨rfl,rfl⟩
     clear hlow
     go_wp2_with fail
     refine hseal.mono ?_
     rintro e w1 ⟨rfl,k⟩
     have K:=Lib.hid k; clear k hseal
     go_wp2
     go_ret2
     exact ⟨by rw [HV.out,HP.out]; rfl,K.out⟩
    ·have HV:=Lib.hid (congrArg openV (open_no hq))
     have hbe:(s.toList == E.sct st (E.pay s.data.toList)) = false:=by
      rw [Lib.toList_data]; exact beq_eq_false_iff_ne.2 hq
     clear hE hT hd HP hpl hlp hq
     generalize E.sct st (E.pay s.data.toList) = sc at *
     generalize E.size s.data.toList = n at *
     go_enter Tryz.func170,Tryz.ntmps170
     go_wp2_with fail
     refine hlow.mono ?_
     rintro e w1 ⟨rfl,rfl⟩
     clear hlow
     go_wp2_with fail
     refine hseal.mono ?_
     rintro e w1 ⟨rfl,k⟩
     have K:=Lib.hid k; clear k hseal
     go_wp2
     go_ret2
     exact ⟨by rw [HV.out]; rfl,K.out⟩
 ·have HV:=Lib.hid (congrArg openV (open_size (st:=st) (s:=s.data.toList) (by omega)))
  clear hE hT hd
  go_enter Tryz.func170,Tryz.ntmps170
  go_wp2
  go_ret2
  exact ⟨by rw [HV.out]; rfl,Qt.refl _⟩
theorem low_q (s:ByteArray) (w:World) (hs:s.size<=8):Calls Tryz.prog 218 #[.string s] w fun e w'=>e = .returned (.int .u64 (E.num s.data.toList:Nat))/\w' = w:=(low_any s w hs).mono fun _ _ h=>⟨h.1,h.2.symm⟩
end Go.Proofs.YthjjfjhajadimaaGreatDoor
