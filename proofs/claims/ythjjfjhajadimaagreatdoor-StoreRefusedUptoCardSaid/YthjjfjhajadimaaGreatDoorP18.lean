/-
  Joined: WireT, BRdN, BRdT, BRdO.
-/
import Derived.Test.YthjjfjhajadimaaGreatDoorP07
import Derived.Lib.Strings
import Derived.LoopTactic
namespace Go.Proofs.YthjjfjhajadimaaGreatDoor
open Go.RowKit
set_option maxRecDepth 100000
theorem pow128 (k:Nat):(2:Int) ^ (7 * k) = ((128 ^ k:Nat):Int):=by
 rw [Int.pow_mul]
 norm_cast
theorem or_step {k acc c:Nat} (hk:k<=9) (hc:c < 256) (h9:k = 9->c<=1) (ha:acc < 128 ^ k) :
  bits .or .u64 (acc:Int) (IntKind.u64.wrap (IntKind.u64.wrap (bits .and .u8 (c:Int) 127) * 2 ^ (7 * k))) = ((acc + c % 128 * 128 ^ k:Nat):Int):=by
 have hp:128 ^ k<=128 ^ 9:=Nat.pow_le_pow_right (by omega) hk
 have hb:c % 128 * 128 ^ k < 18446744073709551616:=by
  by_cases e:k = 9
  ·subst e
   have:=h9 rfl
   omega
  ·have h8:128 ^ k<=128 ^ 8:=Nat.pow_le_pow_right (by omega) (by omega)
   have:c % 128 * 128 ^ k<=127 * 128 ^ 8:=Nat.mul_le_mul (by omega) h8
   omega
 rw [u8_and127 _ (by omega) (by omega),pow128,IntKind.wrap_u64,IntKind.wrap_u64]
 have e1:(c:Int) % 128 % 18446744073709551616 * ((128 ^ k:Nat):Int) % 18446744073709551616 = ((c % 128 * 128 ^ k:Nat):Int):=by
  rw [show (c:Int) % 128 % 18446744073709551616 = ((c % 128:Nat):Int) by omega]
  rw [<- Int.natCast_mul]
  omega
 rw [e1,u64_or_nat _ _ (by omega) (by omega),Nat.or_comm]
 rw [nat_join (7 * k) (c % 128 * 128 ^ k) acc (by rw [Nat.pow_mul]; exact Nat.mul_mod_left _ _) (by rw [Nat.pow_mul]; exact ha),Nat.add_comm]
def vRes (ad:Nat->Addr):Nat ⊕ (Nat × Nat)->Value
 | .inl n=>.tuple #[.int .u64 0,.int .i64 0,errV ad n]
 | .inr (x,n)=>.tuple #[.int .u64 x,.int .i64 n,.nilIface]
def VarAt (s:ByteArray) (v i:Value):Prop :=
 ∃ (k acc:Nat),i = .int .i64 k/\v = .int .u64 acc/\k<=9/\k<=s.size/\acc < 128 ^ k/\varintD s.data.toList = vd k acc (s.data.toList.drop k)
theorem vd_at {s:ByteArray} {k acc:Nat} (h:k < s.size):vd k acc (s.data.toList.drop k) = if k = 9/\1 < s[k].toNat then .inl 2 else
  if 128<=s[k].toNat then vd (k + 1) (acc + s[k].toNat % 128 * 128 ^ k) (s.data.toList.drop (k + 1)) else
  if s[k].toNat = 0/\0 < k then .inl 2 else .inr (acc + s[k].toNat % 128 * 128 ^ k,k + 1):=by
 have h':k < s.data.toList.length:=by simpa using h
 rw [List.drop_eq_getElem_cons h',vd]
 rfl
theorem VarAt.more {s:ByteArray} {k acc:Nat} {i:Value} (hk:k < 9) (h:k < s.size) (ha:acc < 128 ^ k) (hd:varintD s.data.toList = vd k acc (s.data.toList.drop k)) (hb:128<=s[k].toNat) (hi:i = .int .i64 ((k:Int) + 1)) :
  VarAt s (.int .u64 (bits .or .u64 (acc:Int) (IntKind.u64.wrap (IntKind.u64.wrap (bits .and .u8 (s[k].toNat:Int) 127) * 2 ^ (7 * k))))) i:=by
 have hc:=s[k].toNat_lt
 refine ⟨k + 1,_,by rw [hi]; simp,by rw [or_step (by omega) hc (fun e=>by omega) ha],by omega,h,?_,?_⟩
 ·rw [Nat.pow_succ]
  have h1:s[k].toNat % 128 * 128 ^ k<=127 * 128 ^ k:=Nat.mul_le_mul_right _ (by omega)
  omega
 ·rw [hd,vd_at h,if_neg (by omega),if_pos hb]
set_option maxHeartbeats 800000 in
theorem varint_any (ad:Nat->Addr) (s:ByteArray) (w:World) (hE:Errs ad w) (hs:s.size<=140737488355328) :
  Calls Tryz.prog 237 #[.string s] w fun e w'=>e = .returned (vRes ad (varintD s.data.toList))/\∃ n,w' = w.drewN n:=by
 have c2:w.cell? ⟨10,0,none⟩ = some (.iface 335 (.pointer (some (ad 2)))):=hE.cells 1 _ rfl
 have c1:w.cell? ⟨9,0,none⟩ = some (.iface 335 (.pointer (some (ad 1)))):=hE.cells 0 _ rfl
 clear hE
 go_enter Tryz.func237,Tryz.ntmps237
 go_wp2
 go_loop [5,6,7] (fun v i _=>VarAt s v i) (fun _ i _=>s.size - (intOf i).toNat)
 case atStart=>exact ⟨0,0,rfl,rfl,by omega,by omega,by decide,rfl⟩
 case round =>
  obtain ⟨k,acc,rfl,rfl,hk,hks,hacc,hd⟩:=hrel
  have Hacc:=Lib.hid hacc; clear hacc
  have Hd:=Lib.hid hd; clear hd
  by_cases hlt:k < s.size
  ·have hc:=s[k].toNat_lt
   by_cases h9:k = 9/\1 < s[k].toNat
   ·have fin:varintD s.data.toList = .inl 2:=by rw [Hd.out,vd_at hlt,if_pos h9]
    have Fin:=Lib.hid fin; clear fin
    obtain ⟨h9,h1⟩:=h9
    have t9:((k:Int) == 9) = true:=by simp; omega
    have t1:(1:Int) < (s[k].toNat:Int):=by omega
    clear h9
    go_wp2
    go_quiet (fail)
    go_wp2
    go_ret3
    exact ⟨by rw [Fin.out]; rfl,_,rfl⟩
   ·by_cases hb:128<=s[k].toNat
    ·have hk9:k < 9:=by omega
     have t9:((k:Int) == 9) = false:=by simp; omega
     have fin:=Lib.hid (fun i=>VarAt.more (i:=i) hk9 hlt Hacc.out Hd.out hb)
     clear h9
     go_wp2
     go_round
     case rel=>exact fin.out _ rfl
     case measure=>simp [intOf]; omega
    ·by_cases h0:s[k].toNat = 0/\0 < k
     ·have fin:varintD s.data.toList = .inl 2:=by rw [Hd.out,vd_at hlt,if_neg h9,if_neg hb,if_pos h0]
      have Fin:=Lib.hid fin; clear fin
      have t9:((k:Int) == 9) = false\/((k:Int) == 9) = true:=by by_cases e:(k:Int) = 9 <;> simp [e]
      have t0:((s[k].toNat:Int) == 0) = true:=by simp; omega
      have tk:(0:Int) < (k:Int):=by omega
      have t1:(s[k].toNat:Int) < 128:=by omega
      have t2:(s[k].toNat:Int)<=1:=by omega
      clear h9 h0
      rcases t9 with t9 | t9
      all_goals
       go_wp2
       go_quiet (fail)
       go_wp2
       go_ret3
       exact ⟨by rw [Fin.out]; rfl,_,rfl⟩
     ·have fin:varintD s.data.toList = .inr (acc + s[k].toNat % 128 * 128 ^ k,k + 1):=by rw [Hd.out,vd_at hlt,if_neg h9,if_neg hb,if_neg h0]
      have Fin:=Lib.hid fin; clear fin
      have t9:(((k:Int) == 9) = false\/((k:Int) == 9) = true/\(s[k].toNat:Int)<=1):=by
       by_cases e:k = 9
       ·exact .inr ⟨by simp; omega,by omega⟩
       ·exact .inl (by simp; omega)
      have t0:((s[k].toNat:Int) == 0) = false\/((s[k].toNat:Int) == 0) = true/\(k:Int)<=0:=by
       by_cases e:s[k].toNat = 0
       ·exact .inr ⟨by rw [e]; rfl,by omega⟩
       ·exact .inl (by simp; omega)
      have t1:(s[k].toNat:Int) < 128:=by omega
      have HO:=Lib.hid (or_step (c:=s[k].toNat) hk hc (by omega) Hacc.out)
      clear h9 h0
      rcases t9 with t9 | ⟨t9,t8⟩ <;> rcases t0 with t0 | ⟨t0,t7⟩
      all_goals
       go_wp2
       go_ret3
       exact ⟨by rw [Fin.out,HO.out]; simp [vRes],0,rfl⟩
  ·have fin:varintD s.data.toList = .inl 1:=by rw [Hd.out,List.drop_eq_nil_of_le (by simp; omega)]; rfl
   have Fin:=Lib.hid fin; clear fin
   go_wp2
   go_quiet (fail)
   go_wp2
   go_ret3
   exact ⟨by rw [Fin.out]; rfl,_,rfl⟩
structure Rd (b:Nat) (s:ByteArray) (p:Nat) (w:World):Prop where
 blk:w.heap[b]? = some (.cells #[.string s,.int .i64 p] 307 (0,0))
 le:p<=s.size
 sz:s.size<=140737488355328
def rest (s:ByteArray) (p:Nat):List UInt8:=s.data.toList.drop p
theorem rest_length (s:ByteArray) (p:Nat):(rest s p).length = s.size - p:=by simp [rest]
theorem rest_drop (s:ByteArray) (p n:Nat):(rest s p).drop n = rest s (p + n):=by simp [rest]
theorem Rd.cell0 {b:Nat} {s:ByteArray} {p:Nat} {w:World} (h:Rd b s p w):w.cell? ⟨b,0,none⟩ = some (.string s):=by rw [Lib.cell_of_heap h.blk]; rfl
theorem Rd.cell1 {b:Nat} {s:ByteArray} {p:Nat} {w:World} (h:Rd b s p w):w.cell? ⟨b,1,none⟩ = some (.int .i64 p):=by rw [Lib.cell_of_heap h.blk]; rfl
theorem Rd.lt {b:Nat} {s:ByteArray} {p:Nat} {w:World} (h:Rd b s p w):b < w.heap.size:=lt_of_block h.blk
theorem Rd.frozen1 {b:Nat} {s:ByteArray} {p:Nat} {w:World} (h:Rd b s p w):w.frozen? ⟨b,1,none⟩ = false:=Lib.frozen_of_heap h.blk 1
theorem Rd.kept {S:Nat->Prop} {b:Nat} {s:ByteArray} {p:Nat} {w w':World} (h:Rd b s p w) (hk:Keeps S w w') (hb:¬ S b):Rd b s p w':=⟨(hk.block b h.lt hb).trans h.blk,h.le,h.sz⟩
theorem Rd.drewN {b:Nat} {s:ByteArray} {p:Nat} {w:World} (h:Rd b s p w) (n:Nat):Rd b s p (w.drewN n):=⟨h.blk,h.le,h.sz⟩
theorem Rd.alloc {b:Nat} {s:ByteArray} {p:Nat} {w:World} (h:Rd b s p w) (o:Obj):Rd b s p (w.alloc o):=h.kept (S:=fun _=>False) ((Keeps.refl _ _).alloc o) (fun h=>h)
theorem Rd.put {b:Nat} {s:ByteArray} {p:Nat} {w:World} (h:Rd b s p w) {q:Nat} (hq:q<=s.size):Rd b s q (w.setCell ⟨b,1,none⟩ (.int .i64 q)):=by
 refine ⟨?_,hq,h.sz⟩
 simp [World.setCell,Array.getElem?_modify,h.blk]
structure Moved (b:Nat) (s:ByteArray) (q:Nat) (w w':World):Prop where
 rd:Rd b s q w'
 keeps:Keeps (fun k=>k = b) w w'
theorem Moved.trans {b:Nat} {s:ByteArray} {p q:Nat} {w w1 w2:World} (h:Moved b s p w w1) (k:Moved b s q w1 w2):Moved b s q w w2:=⟨k.rd,h.keeps.trans k.keeps (fun _ _ h=>h)⟩
theorem Rd.stay {b:Nat} {s:ByteArray} {p:Nat} {w:World} (h:Rd b s p w) (n:Nat):Moved b s p w (w.drewN n):=⟨h.drewN n,(Keeps.refl _ _).drewN n⟩
theorem Rd.move {b:Nat} {s:ByteArray} {p:Nat} {w:World} (h:Rd b s p w) {q:Nat} (hq:q<=s.size) (n:Nat):Moved b s q w ((w.drewN n).setCell ⟨b,1,none⟩ (.int .i64 q)) :=
 ⟨(h.drewN n).put hq,Keeps.setCell (S:=fun k=>k = b) ((Keeps.refl _ _).drewN n) (p:=⟨b,1,none⟩) (fun _=>rfl) _⟩
theorem extract_rest (s:ByteArray) (p:Nat):(s.extract p s.size).data.toList = s.data.toList.drop p:=by
 rw [Lib.extract_data,List.take_of_length_le]
 simp
theorem varint_err (ad:Nat->Addr) (s:ByteArray) (p e:Nat) (w:World) (hE:Errs ad w) (hs:s.size<=140737488355328) (hd:varintD (rest s p) = .inl e) :
  Calls Tryz.prog 237 #[.string (s.extract p s.size)] w fun x w'=>x = .returned (.tuple #[.int .u64 0,.int .i64 0,.iface 335 (.pointer (some (ad e)))])/\∃ n,w' = w.drewN n:=by
 have h:=varint_any ad (s.extract p s.size) w hE (by simp; omega)
 rw [extract_rest] at h
 have hd':varintD (s.data.toList.drop p) = .inl e:=hd
 rw [hd'] at h
 have he:=vd_err _ _ _ _ hd
 simp only [vRes,errV_pos ad (show 0 < e by omega)] at h
 exact h
theorem varint_ok (ad:Nat->Addr) (s:ByteArray) (p x n:Nat) (w:World) (hE:Errs ad w) (hs:s.size<=140737488355328) (hd:varintD (rest s p) = .inr (x,n)) :
  Calls Tryz.prog 237 #[.string (s.extract p s.size)] w fun y w'=>y = .returned (.tuple #[.int .u64 x,.int .i64 n,.nilIface])/\∃ n,w' = w.drewN n:=by
 have h:=varint_any ad (s.extract p s.size) w hE (by simp; omega)
 rw [extract_rest] at h
 have hd':varintD (s.data.toList.drop p) = .inr (x,n):=hd
 rw [hd'] at h
 exact h
theorem varintD_len {s:ByteArray} {p x n:Nat} (hp:p<=s.size) (hd:varintD (rest s p) = .inr (x,n)):x < 18446744073709551616/\p + n<=s.size/\n<=10:=by
 obtain ⟨hx,hn,t,ht⟩:=varintD_inv hd
 have hl:=rest_length s p
 rw [ht,List.length_append] at hl
 have:=Lib.uvarint_length64 hx
 exact ⟨hx,by omega,by omega⟩
theorem rread_any (s:ByteArray) (w:World) (hs:s.size<=140737488355328) :
  Calls Tryz.prog 199 #[.string s] w fun e w'=>e = .returned (.pointer (some ⟨w.heap.size,0,none⟩))/\Rd w.heap.size s 0 w'/\Keeps (fun _=>False) w w':=by
 go_enter Tryz.func199,Tryz.ntmps199
 go_wp2
 go_ret
 exact ⟨rfl,⟨heap_alloc_new w _,Nat.zero_le _,hs⟩,(Keeps.refl _ _).alloc _⟩
set_option maxHeartbeats 400000 in
theorem rleft_any (b:Nat) (s:ByteArray) (p:Nat) (w:World) (h:Rd b s p w) :
  Calls Tryz.prog 238 #[.pointer (some ⟨b,0,none⟩)] w fun e w'=>e = .returned (.int .i64 ((s.size:Int) - p))/\∃ n,w' = w.drewN n:=by
 have c0:=h.cell0
 have c1:=h.cell1
 have h1:=h.le
 have h2:=h.sz
 clear h
 go_enter Tryz.func238,Tryz.ntmps238
 go_wp2
 go_quiet (fail)
 go_wp2
 go_ret
 exact ⟨rfl,_,rfl⟩
theorem rdone_any (ad:Nat->Addr) (b:Nat) (s:ByteArray) (p:Nat) (w:World) (h:Rd b s p w) (hE:Errs ad w) :
  Calls Tryz.prog 202 #[.pointer (some ⟨b,0,none⟩)] w fun e w'=>e = .returned (errV ad (if p < s.size then 5 else 0))/\∃ n,w' = w.drewN n:=by
 have c5:w.cell? ⟨13,0,none⟩ = some (.iface 335 (.pointer (some (ad 5)))):=hE.cells 4 _ rfl
 have h1:=h.le
 have h2:=h.sz
 by_cases hp:p < s.size
 ·rw [if_pos hp,errV_pos ad (by omega)]
  have h3:(0:Int) < (s.size:Int) - p:=by omega
  go_enter Tryz.func202,Tryz.ntmps202
  go_wp2_with fail
  refine (rleft_any b s p _ h).mono ?_
  rintro e w' ⟨rfl,n,rfl⟩
  go_wp2
  go_ret
  exact ⟨rfl,_,rfl⟩
 ·rw [if_neg hp,errV_zero]
  have h3:¬ (0:Int) < (s.size:Int) - p:=by omega
  go_enter Tryz.func202,Tryz.ntmps202
  go_wp2_with fail
  refine (rleft_any b s p _ h).mono ?_
  rintro e w' ⟨rfl,n,rfl⟩
  go_wp2
  go_ret
  exact ⟨rfl,_,rfl⟩
set_option maxHeartbeats 400000 in
theorem ruint_err (ad:Nat->Addr) (b:Nat) (s:ByteArray) (p e:Nat) (w:World) (h:Rd b s p w) (hE:Errs ad w) (hd:varintD (rest s p) = .inl e) :
  Calls Tryz.prog 204 #[.pointer (some ⟨b,0,none⟩)] w fun x w'=>x = .returned (.tuple #[.int .u64 0,.iface 335 (.pointer (some (ad e)))])/\Moved b s p w w':=by
 have c0:=h.cell0
 have c1:=h.cell1
 have f1:=h.frozen1
 have h1:=h.le
 have h2:=h.sz
 have fin:=Lib.hid (fun n=>h.move h1 n)
 have hv:=Lib.hid (fun n=>varint_err ad s p e (w.drewN n) (hE.drewN n) h2 hd)
 clear h hE hd
 go_enter Tryz.func204,Tryz.ntmps204
 go_wp2
 go_quiet ((go_at_call 237; exact Calls.quiet_of (hv.out _)))
 go_wp2
 go_ret2
 exact ⟨rfl,fin.out _⟩
set_option maxHeartbeats 400000 in
theorem ruint_ok (ad:Nat->Addr) (b:Nat) (s:ByteArray) (p x n:Nat) (w:World) (h:Rd b s p w) (hE:Errs ad w) (hd:varintD (rest s p) = .inr (x,n)) :
  Calls Tryz.prog 204 #[.pointer (some ⟨b,0,none⟩)] w fun y w'=>y = .returned (.tuple #[.int .u64 x,.nilIface])/\Moved b s (p + n) w w':=by
 have c0:=h.cell0
 have c1:=h.cell1
 have f1:=h.frozen1
 have h1:=h.le
 have h2:=h.sz
 obtain ⟨hx,hpn,hn⟩:=varintD_len h1 hd
 have fin:=Lib.hid (fun m=>h.move hpn m)
 have hv:=Lib.hid (fun m=>varint_ok ad s p x n (w.drewN m) (hE.drewN m) h2 hd)
 clear h hE hd
 go_enter Tryz.func204,Tryz.ntmps204
 go_wp2
 go_quiet ((go_at_call 237; exact Calls.quiet_of (hv.out _)))
 go_wp2
 go_ret2
 exact ⟨rfl,fin.out _⟩
set_option maxHeartbeats 400000 in
theorem rupto_err (ad:Nat->Addr) (b:Nat) (s:ByteArray) (p e:Nat) (most:Int) (w:World) (h:Rd b s p w) (hE:Errs ad w) (hd:varintD (rest s p) = .inl e) :
  Calls Tryz.prog 201 #[.pointer (some ⟨b,0,none⟩),.int .i64 most] w fun x w'=>x = .returned (.tuple #[.int .i64 0,.iface 335 (.pointer (some (ad e)))])/\Moved b s p w w':=by
 have c0:=h.cell0
 have c1:=h.cell1
 have h1:=h.le
 have h2:=h.sz
 have fin:=Lib.hid (fun n=>h.stay n)
 have hv:=Lib.hid (fun n=>varint_err ad s p e (w.drewN n) (hE.drewN n) h2 hd)
 clear h hE hd
 go_enter Tryz.func201,Tryz.ntmps201
 go_wp2
 go_quiet ((go_at_call 237; exact Calls.quiet_of (hv.out _)))
 go_wp2
 go_ret2
 exact ⟨rfl,fin.out _⟩
set_option maxHeartbeats 400000 in
theorem rupto_limit (ad:Nat->Addr) (b:Nat) (s:ByteArray) (p x n:Nat) (most:Int) (w:World) (h:Rd b s p w) (hE:Errs ad w) (hd:varintD (rest s p) = .inr (x,n)) (hm:most < x) (hm1:most<=9223372036854775807) :
  Calls Tryz.prog 201 #[.pointer (some ⟨b,0,none⟩),.int .i64 most] w fun y w'=>y = .returned (.tuple #[.int .i64 0,.iface 335 (.pointer (some (ad 3)))])/\Moved b s p w w':=by
 have c0:=h.cell0
 have c1:=h.cell1
 have h1:=h.le
 have h2:=h.sz
 have c3:w.cell? ⟨11,0,none⟩ = some (.iface 335 (.pointer (some (ad 3)))):=hE.cells 2 _ rfl
 have fin:=Lib.hid (fun n=>h.stay n)
 have hv:=Lib.hid (fun m=>varint_ok ad s p x n (w.drewN m) (hE.drewN m) h2 hd)
 obtain ⟨hx,_,_⟩:=varintD_len h1 hd
 clear h hE hd
 by_cases h0:most < 0
 all_goals
  go_enter Tryz.func201,Tryz.ntmps201
  go_wp2
  go_quiet ((go_at_call 237; exact Calls.quiet_of (hv.out _)))
  go_wp2
  go_quiet (fail)
  go_wp2
  go_ret2
  exact ⟨rfl,by rw [World.drewN_drewN]; exact fin.out _⟩
set_option maxHeartbeats 400000 in
theorem rupto_ok (ad:Nat->Addr) (b:Nat) (s:ByteArray) (p x n:Nat) (most:Int) (w:World) (h:Rd b s p w) (hE:Errs ad w) (hd:varintD (rest s p) = .inr (x,n)) (hm:(x:Int)<=most) (hm1:most<=9223372036854775807) :
  Calls Tryz.prog 201 #[.pointer (some ⟨b,0,none⟩),.int .i64 most] w fun y w'=>y = .returned (.tuple #[.int .i64 x,.nilIface])/\Moved b s (p + n) w w':=by
 have c0:=h.cell0
 have c1:=h.cell1
 have f1:=h.frozen1
 have h1:=h.le
 have h2:=h.sz
 obtain ⟨hx,hpn,hn⟩:=varintD_len h1 hd
 have fin:=Lib.hid (fun m=>h.move hpn m)
 have hv:=Lib.hid (fun m=>varint_ok ad s p x n (w.drewN m) (hE.drewN m) h2 hd)
 clear h hE hd
 have h0:¬ most < 0:=by omega
 go_enter Tryz.func201,Tryz.ntmps201
 go_wp2
 go_quiet ((go_at_call 237; exact Calls.quiet_of (hv.out _)))
 go_wp2
 go_ret2
 exact ⟨rfl,fin.out _⟩
set_option maxHeartbeats 400000 in
theorem rtake_short (ad:Nat->Addr) (b:Nat) (s:ByteArray) (p:Nat) (n:Int) (w:World) (h:Rd b s p w) (hE:Errs ad w) (hn:(s.size:Int) - p < n) :
  Calls Tryz.prog 239 #[.pointer (some ⟨b,0,none⟩),.int .i64 n] w fun y w'=>y = .returned (.tuple #[.string ⟨#[]⟩,.iface 335 (.pointer (some (ad 1)))])/\Moved b s p w w':=by
 have c1:w.cell? ⟨9,0,none⟩ = some (.iface 335 (.pointer (some (ad 1)))):=hE.cells 0 _ rfl
 have fin:=Lib.hid (fun n=>h.stay n)
 have hl:=Lib.hid (rleft_any b s p w h)
 have h1:=h.le
 have h2:=h.sz
 clear h hE
 go_enter Tryz.func239,Tryz.ntmps239
 go_wp2_with fail
 refine hl.out.mono ?_
 rintro e w' ⟨rfl,m,rfl⟩
 go_wp2
 go_quiet (fail)
 go_wp2
 go_ret2
 exact ⟨rfl,by rw [World.drewN_drewN]; exact fin.out _⟩
set_option maxHeartbeats 400000 in
theorem rtake_ok (b:Nat) (s:ByteArray) (p n:Nat) (w:World) (h:Rd b s p w) (hn:p + n<=s.size) :
  Calls Tryz.prog 239 #[.pointer (some ⟨b,0,none⟩),.int .i64 n] w fun y w'=>y = .returned (.tuple #[.string (s.extract p (p + n)),.nilIface])/\Moved b s (p + n) w w':=by
 have c0:=h.cell0
 have c1:=h.cell1
 have f1:=h.frozen1
 have fin:=Lib.hid (fun m=>h.move hn m)
 have hl:=Lib.hid (rleft_any b s p w h)
 have h1:=h.le
 have h2:=h.sz
 clear h
 go_enter Tryz.func239,Tryz.ntmps239
 go_wp2_with fail
 refine hl.out.mono ?_
 rintro e w' ⟨rfl,m,rfl⟩
 go_wp2
 go_quiet (fail)
 go_wp2
 go_ret2
 exact ⟨rfl,fin.out _⟩
def NumAt (s:ByteArray) (v i:Value):Prop:=∃ m:Nat,m<=s.size/\i = .int .i64 ((m:Int) - 1)/\v = .int .u64 ((lowN (s.data.toList.drop m):Nat):Int)
theorem num_step {x c:Nat} (hx:x < 72057594037927936) (hc:c < 256):bits .or .u64 ((x:Int) * 256) (c:Int) = ((c + 256 * x:Nat):Int):=by
 rw [show (x:Int) * 256 = ((256 * x:Nat):Int) by omega,u64_or_nat _ _ (by omega) (by omega),nat_join 8 (256 * x) c (by omega) (by omega),Nat.add_comm]
theorem lowN_drop {s:ByteArray} {m:Nat} (h:m < s.size):lowN (s.data.toList.drop m) = s[m].toNat + 256 * lowN (s.data.toList.drop (m + 1)):=by
 have h':m < s.data.toList.length:=by simpa using h
 rw [List.drop_eq_getElem_cons h',lowN]
 rfl
set_option maxHeartbeats 400000 in
theorem number_any (s:ByteArray) (w:World) (hs:s.size<=8) :
  Calls Tryz.prog 267 #[.string s] w fun e w'=>e = .returned (.int .u64 ((lowN s.data.toList:Nat):Int))/\w = w':=by
 go_enter Tryz.func267,Tryz.ntmps267
 go_wp2
 go_loop [3,4] (fun v i=>NumAt s v i) (fun _ i=>(intOf i + 1).toNat)
 case atStart=>exact ⟨s.size,Nat.le_refl _,rfl,by rw [List.drop_eq_nil_of_le (by simp)]; rfl⟩
 case round =>
  obtain ⟨m,hm,rfl,rfl⟩:=hrel
  cases m with
  | zero =>
   go_wp2
   go_ret
   exact ⟨by simp,rfl⟩
  | succ m =>
   have hlt:m < s.size:=hm
   obtain ⟨x,hx⟩:∃ x,lowN (s.data.toList.drop (m + 1)) = x:=⟨_,rfl⟩
   have hx1:x < 72057594037927936:=by
    have h1:=lowN_lt (s.data.toList.drop (m + 1))
    have h2:256 ^ (s.data.toList.drop (m + 1)).length<=256 ^ 7:=Nat.pow_le_pow_right (by omega) (by simp; omega)
    rw [hx] at h1
    omega
   rw [hx]
   have hc:=s[m].toNat_lt
   have fin:NumAt s (.int .u64 (bits .or .u64 ((x:Int) * 256) (s[m].toNat:Int))) (.int .i64 ((m:Int) - 1)) :=
    ⟨m,by omega,rfl,by rw [num_step hx1 hc,lowN_drop hlt,hx]⟩
   have fin':=Lib.hid fin; clear fin hx
   rw [show (((m + 1:Nat):Int) - 1) = (m:Int) by omega]
   go_wp2
   go_round
   case rel=>exact fin'.out
   case measure=>simp [intOf]
theorem extract_take (s:ByteArray) (p n:Nat):(s.extract p (p + n)).data.toList = (rest s p).take n:=by
 rw [Lib.extract_data,show p + n - p = n by omega]; rfl
theorem take_size {s:ByteArray} {p n:Nat} (h:p + n<=s.size):(s.extract p (p + n)).size = n:=by
 have e:(s.extract p (p + n)).size = (s.extract p (p + n)).data.toList.length:=rfl
 rw [e,extract_take,List.length_take,rest_length]
 omega
theorem number_take (s:ByteArray) (p n:Nat) (w:World) (h:p + n<=s.size) (hn:n<=8) :
  Calls Tryz.prog 267 #[.string (s.extract p (p + n))] w fun e w'=>e = .returned (.int .u64 ((lowN ((rest s p).take n):Nat):Int))/\w = w':=by
 have q:=number_any (s.extract p (p + n)) w (by rw [take_size h]; exact hn)
 rw [extract_take] at q
 exact q
theorem number_none (w:World) :
  Calls Tryz.prog 267 #[.string ⟨#[]⟩] w fun e w'=>e = .returned (.int .u64 0)/\w = w':=number_any ⟨#[]⟩ w (by decide)
set_option maxHeartbeats 400000 in
theorem rbyte_short (ad:Nat->Addr) (b:Nat) (s:ByteArray) (p:Nat) (w:World) (h:Rd b s p w) (hE:Errs ad w) (hn:s.size - p < 1) :
  Calls Tryz.prog 243 #[.pointer (some ⟨b,0,none⟩)] w fun y w'=>y = .returned (.tuple #[.int .u8 0,.iface 335 (.pointer (some (ad 1)))])/\Moved b s p w w':=by
 have hle:=h.le
 have hv:=Lib.hid (rtake_short ad b s p 1 w h hE (by omega))
 clear h hE
 go_enter Tryz.func243,Tryz.ntmps243
 go_wp2_with fail
 refine hv.out.mono ?_
 rintro x w' ⟨rfl,hm⟩
 go_wp2_with fail
 refine (number_none w').mono ?_
 rintro x w1 ⟨rfl,rfl⟩
 go_wp2
 go_ret2
 exact ⟨rfl,hm⟩
set_option maxHeartbeats 400000 in
theorem rbyte_ok (b:Nat) (s:ByteArray) (p:Nat) (w:World) (h:Rd b s p w) (hn:p + 1<=s.size) :
  Calls Tryz.prog 243 #[.pointer (some ⟨b,0,none⟩)] w fun y w'=>y = .returned (.tuple #[.int .u8 ((lowN ((rest s p).take 1):Nat):Int),.nilIface])/\Moved b s (p + 1) w w':=by
 have hv:=Lib.hid (rtake_ok b s p 1 w h hn)
 have hq:=Lib.hid (fun w=>number_take s p 1 w hn (by omega))
 have hx:lowN ((rest s p).take 1) < 256:=by
  have h1:=lowN_lt ((rest s p).take 1)
  have h2:256 ^ ((rest s p).take 1).length<=256 ^ 1:=Nat.pow_le_pow_right (by omega) (by rw [List.length_take]; omega)
  omega
 clear h
 generalize s.extract p (p + 1) = t at hv hq
 generalize lowN ((rest s p).take 1) = x at hq hx ⊢
 go_enter Tryz.func243,Tryz.ntmps243
 go_wp2_with fail
 refine hv.out.mono ?_
 rintro x w' ⟨rfl,hm⟩
 go_wp2_with fail
 refine (hq.out w').mono ?_
 rintro x w1 ⟨rfl,rfl⟩
 go_wp2
 go_ret2
 exact ⟨rfl,hm⟩
theorem Moved.back {b:Nat} {s:ByteArray} {p q:Nat} {w w1:World} (h:Moved b s q w w1) (hp:p<=s.size) (n:Nat):Moved b s p w ((w1.setCell ⟨b,1,none⟩ (.int .i64 p)).drewN n) :=
 ⟨(h.rd.put hp).drewN n,(Keeps.setCell (S:=fun k=>k = b) h.keeps (p:=⟨b,1,none⟩) (fun _=>rfl) _).drewN n⟩
theorem textD_len {most:Int} {s:ByteArray} {p n:Nat} {v:List UInt8} (hp:p<=s.size) (h:textD most (rest s p) = .inr (v,n)):p + n<=s.size/\1<=n/\v.length<=s.size:=by
 unfold textD at h
 split at h
 ·cases h
 ·rename_i x m hd
  split at h
  ·cases h
  ·split at h
   ·cases h
   ·simp only [Sum.inr.injEq,Prod.mk.injEq] at h
    obtain ⟨rfl,rfl⟩:=h
    obtain ⟨_,h1,_⟩:=varintD_len hp hd
    obtain ⟨_,h2,_⟩:=varintD_inv hd
    have:=Lib.uvarint_pos x
    rw [rest_length] at *
    refine ⟨by omega,by omega,?_⟩
    rw [List.length_take,List.length_drop,rest_length]
    omega
set_option maxHeartbeats 800000 in
theorem rtext_err (ad:Nat->Addr) (b:Nat) (s:ByteArray) (p e:Nat) (most:Int) (w:World) (h:Rd b s p w) (hE:Errs ad w) (hO:OffErrs ad (fun k=>k = b)) (hm1:most<=9223372036854775807) (hd:textD most (rest s p) = .inl e) :
  Calls Tryz.prog 205 #[.pointer (some ⟨b,0,none⟩),.int .i64 most] w fun y w'=>y = .returned (.tuple #[.string ⟨#[]⟩,.iface 335 (.pointer (some (ad e)))])/\Moved b s p w w':=by
 have c1:=h.cell1
 have hle:=h.le
 unfold textD at hd
 split at hd
 ·rename_i e' hv
  injection hd with hd
  subst hd
  have hu:=Lib.hid (rupto_err ad b s p e' most w h hE hv)
  clear h hE hO hv
  go_enter Tryz.func205,Tryz.ntmps205
  go_wp2_with fail
  refine hu.out.mono ?_
  rintro y w' ⟨rfl,hm⟩
  go_wp2
  go_ret2
  exact ⟨rfl,hm⟩
 ·rename_i x n hv
  split at hd
  ·rename_i hx
   injection hd with hd
   subst hd
   have hu:=Lib.hid (rupto_limit ad b s p x n most w h hE hv hx hm1)
   clear h hE hO hv
   go_enter Tryz.func205,Tryz.ntmps205
   go_wp2_with fail
   refine hu.out.mono ?_
   rintro y w' ⟨rfl,hm⟩
   go_wp2
   go_ret2
   exact ⟨rfl,hm⟩
  ·rename_i hx
   split at hd
   ·rename_i hs
    injection hd with hd
    subst hd
    rw [rest_length] at hs
    have hu:=Lib.hid (rupto_ok ad b s p x n most w h hE hv (by omega) hm1)
    obtain ⟨hx64,hpn,hn⟩:=varintD_len hle hv
    clear h hv
    go_enter Tryz.func205,Tryz.ntmps205
    go_wp2_with fail
    refine hu.out.mono ?_
    rintro y w1 ⟨rfl,hm⟩
    go_wp2_with fail
    refine (rtake_short ad b s (p + n) x _ hm.rd (hE.kept hm.keeps hO) (by omega)).mono ?_
    rintro y w2 ⟨rfl,hm2⟩
    have hm3:=hm.trans hm2
    have f1:=hm3.rd.frozen1
    have d1:=hm3.rd.cell1
    have fin:=Lib.hid (hm3.back hle 0); clear hm hm2 hm3 hE hO
    go_wp2
    go_ret2
    exact ⟨rfl,fin.out⟩
   ·cases hd
theorem string_of_list {t:ByteArray} {v:List UInt8} (h:t.data.toList = v):t = ⟨v.toArray⟩:=by
 subst h; rfl
set_option maxHeartbeats 800000 in
theorem rtext_ok (ad:Nat->Addr) (b:Nat) (s:ByteArray) (p n:Nat) (v:List UInt8) (most:Int) (w:World) (h:Rd b s p w) (hE:Errs ad w) (hm1:most<=9223372036854775807) (hd:textD most (rest s p) = .inr (v,n)) :
  Calls Tryz.prog 205 #[.pointer (some ⟨b,0,none⟩),.int .i64 most] w fun y w'=>y = .returned (.tuple #[.string ⟨v.toArray⟩,.nilIface])/\Moved b s (p + n) w w':=by
 have c1:=h.cell1
 have hle:=h.le
 unfold textD at hd
 split at hd
 ·cases hd
 ·rename_i x m hv
  split at hd
  ·cases hd
  ·rename_i hx
   split at hd
   ·cases hd
   ·rename_i hs
    simp only [Sum.inr.injEq,Prod.mk.injEq] at hd
    obtain ⟨hd1,rfl⟩:=hd
    obtain ⟨hx64,hpn,hn⟩:=varintD_len hle hv
    rw [rest_length] at hs
    have ht:s.extract (p + m) (p + m + x) = ⟨v.toArray⟩:=string_of_list (by rw [extract_take,<- hd1,rest_drop])
    have hu:=Lib.hid (rupto_ok ad b s p x m most w h hE hv (by omega) hm1)
    have hk:=Lib.hid (fun w1 (h1:Rd b s (p + m) w1)=>rtake_ok b s (p + m) x w1 h1 (by omega))
    rw [ht] at hk
    clear h hv hE ht hd1
    go_enter Tryz.func205,Tryz.ntmps205
    go_wp2_with fail
    refine hu.out.mono ?_
    rintro y w1 ⟨rfl,hm⟩
    go_wp2_with fail
    refine (hk.out _ hm.rd).mono ?_
    rintro y w2 ⟨rfl,hm2⟩
    have fin:=Lib.hid (hm.trans hm2); clear hm hm2
    go_wp2
    go_ret2
    exact ⟨rfl,by rw [<- Nat.add_assoc]; exact fin.out⟩
end Go.Proofs.YthjjfjhajadimaaGreatDoor
namespace Go.Proofs.YthjjfjhajadimaaGreatDoor
open Go.RowKit Go.WideShapes
set_option maxRecDepth 100000
def OpB (W:World) (B:Nat) (o:Bt.O):Prop:=W.heap[B]? = some (.cells #[.bool o.del,strV o.key,strV o.val] 87 (0,0))
section
variable {W W':World} {B:Nat} {o:Bt.O}
theorem OpB.lt (h:OpB W B o):B < W.heap.size:=lt_of_block h
theorem OpB.c0 (h:OpB W B o):W.cell? ⟨B,0,none⟩ = some (.bool o.del):=by rw [Lib.cell_of_heap h]; rfl
theorem OpB.c1 (h:OpB W B o):W.cell? ⟨B,1,none⟩ = some (strV o.key):=by rw [Lib.cell_of_heap h]; rfl
theorem OpB.c2 (h:OpB W B o):W.cell? ⟨B,2,none⟩ = some (strV o.val):=by rw [Lib.cell_of_heap h]; rfl
theorem OpB.f (h:OpB W B o) (i:Nat):W.frozen? ⟨B,i,none⟩ = false:=Lib.frozen_of_heap h i
theorem OpB.kept {S:Nat->Prop} (h:OpB W B o) (k:Keeps S W W') (hS:¬ S B):OpB W' B o:=(k.block B h.lt hS).trans h
theorem OpB.all (h:OpB W B o) (a b c:Value):(((W.setCell ⟨B,0,none⟩ a).setCell ⟨B,1,none⟩ b).setCell ⟨B,2,none⟩ c).heap[B]? = some (.cells #[a,b,c] 87 (0,0)):=by
 unfold OpB at *
 simp [World.setCell,Array.getElem?_modify,h]
theorem opB_new (W:World):OpB (W.alloc (.cells #[.bool false,.string ⟨#[]⟩,.string ⟨#[]⟩] 87)) W.heap.size ⟨false,[],[]⟩:=heap_alloc_new W _
end
theorem opD_cons (fst:Bool) (before:Tb.Txt) (b:UInt8) (r:Tb.Txt):Bt.opD fst before (b :: r) = if 1 < b.toNat then .inl 7 else match textD 2147483647 r with
  | .inl e=>.inl e
  | .inr (k,n)=>if fst = false/\Tb.lt before k = false then .inl 4 else if b.toNat = 1 then .inr (⟨true,k,[]⟩,1 + n) else match textD 2147483647 (r.drop n) with
   | .inl e=>.inl e
   | .inr (v,m)=>.inr (⟨false,k,v⟩,1 + n + m):=rfl
theorem rest_cons {s:ByteArray} {p:Nat} (h:p < s.size):rest s p = s[p] :: rest s (p + 1):=by
 have h':p < s.data.toList.length:=by simpa using h
 unfold rest
 rw [List.drop_eq_getElem_cons h']
 rfl
end Go.Proofs.YthjjfjhajadimaaGreatDoor
