/-
  Joined: BCode, CSpec, ESpec, GSpec.
-/
import Derived.Test.YthjjfjhajadimaaGreatDoorP01
namespace Go.Proofs.YthjjfjhajadimaaGreatDoor.Bt
open Go.Proofs.YthjjfjhajadimaaGreatDoor.Tb
set_option maxRecDepth 100000
def opB (o:O):Txt:=if o.del then 1 :: textB o.key else 0 :: (textB o.key ++ textB o.val)
def opsB (ops:List O):Txt:=ops.flatMap opB
def encB (ops:List O):Txt:=Lib.uvarint ops.length ++ opsB ops
def Rise (ops:List O):Prop:=∀ (k:Nat) (a b:O),ops[k]? = some a->ops[k + 1]? = some b->lt a.key b.key = true
def Bad (ops:List O):Prop:=∃ o ∈ ops,o.del = true/\o.val ≠ []
open Classical in
noncomputable def encE (ops:List O):Nat:=if Rise ops then (if Bad ops then 7 else 0) else 4
theorem encE_order {ops:List O} {k:Nat} {a b:O} (ha:ops[k]? = some a) (hb:ops[k + 1]? = some b) (h:lt a.key b.key = false):encE ops = 4:=by
 unfold encE
 rw [if_neg]
 intro hr
 rw [hr k a b ha hb] at h
 cases h
theorem encE_form {ops:List O} (hr:Rise ops) {o:O} (ho:o ∈ ops) (hd:o.del = true) (hv:o.val ≠ []):encE ops = 7:=by
 unfold encE
 rw [if_pos hr,if_pos ⟨o,ho,hd,hv⟩]
theorem encE_ok {ops:List O} (hr:Rise ops) (hn:∀ o ∈ ops,o.del = true->o.val = []):encE ops = 0:=by
 unfold encE
 rw [if_pos hr,if_neg]
 rintro ⟨o,ho,hd,hv⟩
 exact hv (hn o ho hd)
theorem encE_cases (ops:List O):encE ops = 0\/encE ops = 4\/encE ops = 7:=by
 unfold encE
 split
 ·split
  ·exact .inr (.inr rfl)
  ·exact .inl rfl
 ·exact .inr (.inl rfl)
theorem rise_sorted:∀ {ops:List O},Rise ops->Sorted (codes ops)
 | [],_=>List.Pairwise.nil
 | [o],_=>List.pairwise_singleton _ _
 | o :: p :: ops,h=>by
  have h1:Sorted (codes (p :: ops)):=rise_sorted (ops:=p :: ops) (fun k a b ha hb=>h (k + 1) a b ha hb)
  have h0:lt o.key p.key = true:=h 0 o p rfl rfl
  refine rise_cons (fun q hq=>?_) h1
  rcases List.mem_cons.1 hq with rfl | hq
  ·exact h0
  ·exact lt_trans h0 ((List.pairwise_cons.1 h1).1 (code q) (List.mem_map.2 ⟨q,hq,rfl⟩))
theorem Norm.rises {ops:List O} (h:Norm ops):Rise ops:=fun _ _ _ ha hb=>h.next ha hb
theorem clean_iff {o:O}:clean o = o ↔ (o.del = true->o.val = []):=by
 obtain ⟨d,k,v⟩:=o
 cases d
 ·simp [clean]
 ·simp [clean,eq_comm]
theorem Norm.enc {ops:List O} (h:Norm ops):encE ops = 0:=encE_ok h.rises (fun o ho=>clean_iff.1 (h.clean o ho))
theorem norm_of_enc {ops:List O} (h:encE ops = 0):Norm ops:=by
 unfold encE at h
 split at h
 ·rename_i hr
  split at h
  ·cases h
  ·rename_i hb
   exact ⟨rise_sorted hr,fun o ho=>clean_iff.2 fun hd=>Classical.byContradiction fun hv=>hb ⟨o,ho,hd,hv⟩⟩
 ·cases h
open Classical in
noncomputable def encT (ops:List O):Txt:=if encE ops = 0 then encB ops else []
theorem encT_ok {ops:List O} (h:encE ops = 0):encT ops = encB ops:=if_pos h
theorem encT_no {ops:List O} (h:encE ops ≠ 0):encT ops = []:=if_neg h
def opD (fst:Bool) (before:Txt):Txt->Nat ⊕ (O × Nat)
 | []=>.inl 1
 | b :: r=>if 1 < b.toNat then .inl 7 else match textD 2147483647 r with
  | .inl e=>.inl e
  | .inr (k,n)=>if fst = false/\lt before k = false then .inl 4 else if b.toNat = 1 then .inr (⟨true,k,[]⟩,1 + n) else match textD 2147483647 (r.drop n) with
   | .inl e=>.inl e
   | .inr (v,m)=>.inr (⟨false,k,v⟩,1 + n + m)
def opsD:Nat->Bool->Txt->Txt->Nat ⊕ (List O × Nat)
 | 0,_,_,_=>.inr ([],0)
 | k + 1,fst,before,l=>match opD fst before l with
  | .inl e=>.inl e
  | .inr (o,n)=>match opsD k false o.key (l.drop n) with
   | .inl e=>.inl e
   | .inr (os,m)=>.inr (o :: os,n + m)
def decD (l:Txt):Nat ⊕ List O:=match varintD l with
 | .inl e=>.inl e
 | .inr (x,n)=>match opsD x true [] (l.drop n) with
  | .inl e=>.inl e
  | .inr (ops,m)=>if n + m < l.length then .inl 5 else .inr ops
def ErrN (e:Nat):Prop:=e = 1\/e = 2\/e = 3\/e = 4\/e = 5\/e = 7
theorem text_errN {most:Int} {l:Txt} {e:Nat} (h:textD most l = .inl e):ErrN e:=by
 have:=textD_err h
 unfold ErrN
 omega
theorem opD_err {fst:Bool} {before l:Txt} {e:Nat} (h:opD fst before l = .inl e):ErrN e:=by
 cases l with
 | nil=>injection h with h; subst h; exact .inl rfl
 | cons b r =>
  rw [opD] at h
  split at h
  ·injection h with h; subst h; simp [ErrN]
  ·split at h
   ·rename_i hd; injection h with h; subst h; exact text_errN hd
   ·split at h
    ·injection h with h; subst h; simp [ErrN]
    ·split at h
     ·cases h
     ·split at h
      ·rename_i hd; injection h with h; subst h; exact text_errN hd
      ·cases h
theorem opsD_err:∀ {k:Nat} {fst:Bool} {before l:Txt} {e:Nat},opsD k fst before l = .inl e->ErrN e
 | 0,_,_,_,_,h=>by cases h
 | k + 1,fst,before,l,e,h=>by
  unfold opsD at h
  split at h
  ·rename_i hd; injection h with h; subst h; exact opD_err hd
  ·split at h
   ·rename_i hd; injection h with h; subst h; exact opsD_err hd
   ·cases h
theorem decD_err {l:Txt} {e:Nat} (h:decD l = .inl e):ErrN e:=by
 unfold decD at h
 split at h
 ·rename_i hd
  injection h with h
  subst h
  have:=vd_err _ _ _ _ hd
  unfold ErrN
  omega
 ·split at h
  ·rename_i hd; injection h with h; subst h; exact opsD_err hd
  ·split at h
   ·injection h with h; subst h; simp [ErrN]
   ·cases h
def Fit (o:O):Prop:=o.key.length<=2147483647/\o.val.length<=2147483647
theorem opD_enc {fst:Bool} {before:Txt} {o:O} (hf:Fit o) (hc:clean o = o) (hb:fst = true\/lt before o.key = true) (t:Txt):opD fst before (opB o ++ t) = .inr (o,(opB o).length):=by
 obtain ⟨d,k,v⟩:=o
 have h1:k.length<=2147483647:=hf.1
 have h2:v.length<=2147483647:=hf.2
 have hb':¬ (fst = false/\lt before k = false):=by
  rintro ⟨e1,e2⟩
  rcases hb with e | e
  ·rw [e] at e1; cases e1
  ·rw [show lt before k = true from e] at e2; cases e2
 cases d with
 | true =>
  obtain rfl:v = []:=clean_iff.1 hc rfl
  show opD fst before (1 :: (textB k ++ t)) = _
  rw [opD]
  rw [if_neg (show ¬ 1 < (1:UInt8).toNat by decide),textD_enc (by omega) (by omega)]
  simp only
  rw [if_neg hb',if_pos (show (1:UInt8).toNat = 1 from rfl)]
  simp [opB]
  omega
 | false =>
  have e:opB ⟨false,k,v⟩ ++ t = 0 :: (textB k ++ (textB v ++ t)):=by simp [opB]
  rw [e]
  rw [opD]
  rw [if_neg (show ¬ 1 < (0:UInt8).toNat by decide),textD_enc (by omega) (by omega)]
  simp only
  rw [if_neg hb',if_neg (show ¬ (0:UInt8).toNat = 1 by decide),List.drop_left,textD_enc (by omega) (by omega)]
  simp [opB]
  omega
theorem opsD_enc (t:Txt):∀ {ops:List O} {fst:Bool} {before:Txt},Norm ops->(∀ o ∈ ops,Fit o)->(fst = true\/∀ o ∈ ops,lt before o.key = true)->opsD ops.length fst before (opsB ops ++ t) = .inr (ops,(opsB ops).length)
 | [],_,_,_,_,_=>rfl
 | o :: ops,fst,before,hn,hf,hb=>by
  obtain ⟨h1,h2⟩:=List.pairwise_cons.1 hn.rise
  have hn':Norm ops:=⟨h2,fun p hp=>hn.clean p (by simp [hp])⟩
  have e:opsB (o :: ops) ++ t = opB o ++ (opsB ops ++ t):=by simp [opsB]
  have el:(opsB (o :: ops)).length = (opB o).length + (opsB ops).length:=by simp [opsB]
  rw [e,List.length_cons,opsD,opD_enc (hf o (by simp)) (hn.clean o (by simp)) (hb.imp id (fun h=>h o (by simp)))]
  simp only
  rw [List.drop_left,opsD_enc t (fst:=false) (before:=o.key) hn' (fun p hp=>hf p (by simp [hp])) (.inr fun p hp=>h1 (code p) (List.mem_map.2 ⟨p,hp,rfl⟩)),el]
theorem decD_enc {ops:List O} (hn:Norm ops) (hf:∀ o ∈ ops,Fit o) (hl:ops.length < 18446744073709551616) (t:Txt):decD (encB ops ++ t) = if t = [] then .inr ops else .inl 5:=by
 unfold decD encB
 rw [List.append_assoc,varintD_uvarint hl]
 simp only
 rw [List.drop_left,opsD_enc t hn hf (.inl rfl)]
 simp only [List.length_append]
 by_cases ht:t = []
 ·subst ht
  rw [if_pos rfl,if_neg (by simp)]
 ·rw [if_neg ht,if_pos (by have:=List.length_pos_iff.2 ht; omega)]
theorem opD_inv {fst:Bool} {before l:Txt} {o:O} {n:Nat} (h:opD fst before l = .inr (o,n)):n = (opB o).length/\(∃ t,l = opB o ++ t)/\clean o = o/\(fst = true\/lt before o.key = true):=by
 cases l with
 | nil=>cases h
 | cons b r =>
  rw [opD] at h
  split at h
  ·cases h
  ·rename_i hb
   split at h
   ·cases h
   ·rename_i k m hk
    obtain ⟨rfl,t,rfl⟩:=textD_inv hk
    split at h
    ·cases h
    ·rename_i hlt
     have hlt':fst = true\/lt before k = true:=by
      cases fst with
      | true=>exact .inl rfl
      | false =>
       cases e:lt before k with
       | true=>exact .inr rfl
       | false=>exact absurd ⟨rfl,e⟩ hlt
     split at h
     ·rename_i h1
      simp only [Sum.inr.injEq,Prod.mk.injEq] at h
      obtain ⟨rfl,rfl⟩:=h
      have eb:b = 1:=UInt8.toNat_inj.1 h1
      subst eb
      exact ⟨by simp [opB]; omega,⟨t,by simp [opB]⟩,rfl,hlt'⟩
     ·rename_i h1
      have eb:b = 0:=UInt8.toNat_inj.1 (by simp; omega)
      subst eb
      rw [List.drop_left] at h
      split at h
      ·cases h
      ·rename_i v m hv
       obtain ⟨rfl,t',rfl⟩:=textD_inv hv
       simp only [Sum.inr.injEq,Prod.mk.injEq] at h
       obtain ⟨rfl,rfl⟩:=h
       exact ⟨by simp [opB]; omega,⟨t',by simp [opB]⟩,rfl,hlt'⟩
theorem opsD_inv:∀ {k:Nat} {fst:Bool} {before l:Txt} {os:List O} {m:Nat},opsD k fst before l = .inr (os,m)->os.length = k/\m = (opsB os).length/\(∃ t,l = opsB os ++ t)/\Norm os/\(fst = true\/∀ o ∈ os,lt before o.key = true)
 | 0,_,_,l,os,m,h=>by
  simp only [opsD,Sum.inr.injEq,Prod.mk.injEq] at h
  obtain ⟨rfl,rfl⟩:=h
  exact ⟨rfl,rfl,⟨l,rfl⟩,⟨List.Pairwise.nil,fun o ho=>by cases ho⟩,.inr fun o ho=>by cases ho⟩
 | k + 1,fst,before,l,os,m,h=>by
  unfold opsD at h
  split at h
  ·cases h
  ·rename_i o n ho
   split at h
   ·cases h
   ·rename_i os' m' hos
    simp only [Sum.inr.injEq,Prod.mk.injEq] at h
    obtain ⟨rfl,rfl⟩:=h
    obtain ⟨rfl,⟨t,rfl⟩,hcl,hb⟩:=opD_inv ho
    rw [List.drop_left] at hos
    obtain ⟨rfl,rfl,⟨t',rfl⟩,hn,hb'⟩:=opsD_inv hos
    have hb2:∀ p ∈ os',lt o.key p.key = true:=hb'.resolve_left (by simp)
    refine ⟨rfl,by simp [opsB],⟨t',by simp [opsB]⟩,⟨rise_cons hb2 hn.rise,fun p hp=>?_⟩,hb.imp id fun h p hp=>?_⟩
    ·rcases List.mem_cons.1 hp with rfl | hp
     ·exact hcl
     ·exact hn.clean p hp
    ·rcases List.mem_cons.1 hp with rfl | hp
     ·exact h
     ·exact lt_trans h (hb2 p hp)
theorem decD_inv {l:Txt} {ops:List O} (h:decD l = .inr ops):Norm ops/\encB ops = l:=by
 unfold decD at h
 split at h
 ·cases h
 ·rename_i x n hx
  obtain ⟨_,rfl,t,rfl⟩:=varintD_inv hx
  rw [List.drop_left] at h
  split at h
  ·cases h
  ·rename_i os m ho
   obtain ⟨rfl,rfl,⟨t',rfl⟩,hn,_⟩:=opsD_inv ho
   split at h
   ·cases h
   ·rename_i hl
    injection h with h
    subst h
    refine ⟨hn,?_⟩
    have:t' = []:=by
     rw [List.length_append,List.length_append] at hl
     exact List.eq_nil_of_length_eq_zero (by omega)
    subst this
    simp [encB]
theorem opD_pos {fst:Bool} {before l:Txt} {o:O} {n:Nat} (h:opD fst before l = .inr (o,n)):2<=n/\n<=l.length:=by
 obtain ⟨rfl,⟨t,rfl⟩,_,_⟩:=opD_inv h
 have h1:∀ x:Nat,1<=(Lib.uvarint x).length:=fun x=>by
  by_cases hx:x < 128
  ·rw [Lib.uvarint_small hx]; simp
  ·rw [Lib.uvarint_big (by omega)]; simp
 refine ⟨?_,by simp⟩
 unfold opB
 have:=h1 o.key.length
 split
 ·simp [textB]; omega
 ·simp [textB]; omega
def onto (us:List O) (d:Nat):Nat ⊕ (List O × Nat)->Nat ⊕ (List O × Nat)
 | .inl e=>.inl e
 | .inr (os,m)=>.inr (us ++ os,d + m)
theorem onto_nil (r:Nat ⊕ (List O × Nat)):onto [] 0 r = r:=by
 rcases r with e | ⟨os,m⟩
 ·rfl
 ·simp [onto]
theorem onto_ok {us:List O} {d k n:Nat} {fst:Bool} {before l:Txt} {o:O} (h:opD fst before l = .inr (o,n)):onto us d (opsD (k + 1) fst before l) = onto (us ++ [o]) (d + n) (opsD k false o.key (l.drop n)):=by
 rw [opsD,h]
 simp only
 cases opsD k false o.key (l.drop n) with
 | inl e=>rfl
 | inr x=>simp [onto,Nat.add_assoc]
theorem onto_err {us:List O} {d k e:Nat} {fst:Bool} {before l:Txt} (h:opD fst before l = .inl e):onto us d (opsD (k + 1) fst before l) = .inl e:=by
 rw [opsD,h]
 rfl
end Go.Proofs.YthjjfjhajadimaaGreatDoor.Bt
namespace Go.Proofs.YthjjfjhajadimaaGreatDoor.C
def poly:Nat:=0x82F63B78
@[irreducible] def bit (r:Nat):Nat:=if r % 2 = 1 then r / 2 ^^^ poly else r / 2
@[irreducible] def byte8 (r:Nat):Nat:=bit (bit (bit (bit (bit (bit (bit (bit r)))))))
def go:Nat->List UInt8->Nat
 | r,[]=>r
 | r,c :: s=>go (byte8 (r ^^^ c.toNat)) s
def full:Nat:=0xFFFFFFFF
def extend (sum:Nat) (s:List UInt8):Nat:=go (sum ^^^ full) s ^^^ full
def sum (s:List UInt8):Nat:=extend 0 s
theorem go_append:∀ (s t:List UInt8) (r:Nat),go r (s ++ t) = go (go r s) t
 | [],_,_=>rfl
 | _ :: s,t,_=>go_append s t _
theorem bit_lt {r:Nat} (h:r < 2 ^ 32):bit r < 2 ^ 32:=by
 unfold bit; split
 ·exact Nat.xor_lt_two_pow (by omega) (by decide)
 ·omega
theorem byte8_lt {r:Nat} (h:r < 2 ^ 32):byte8 r < 2 ^ 32:=by
 unfold byte8
 exact bit_lt (bit_lt (bit_lt (bit_lt (bit_lt (bit_lt (bit_lt (bit_lt h)))))))
theorem go_lt:∀ (s:List UInt8) {r:Nat},r < 2 ^ 32->go r s < 2 ^ 32
 | [],_,h=>h
 | c :: s,r,h=>go_lt s (byte8_lt (Nat.xor_lt_two_pow h (Nat.lt_of_lt_of_le c.toNat_lt (by decide))))
theorem extend_lt {x:Nat} (h:x < 2 ^ 32) (s:List UInt8):extend x s < 2 ^ 32:=Nat.xor_lt_two_pow (go_lt s (Nat.xor_lt_two_pow h (by decide))) (by decide)
theorem xor_swap (a b c d:Nat):(a ^^^ b) ^^^ (c ^^^ d) = (a ^^^ c) ^^^ (b ^^^ d):=by
 rw [Nat.xor_assoc,Nat.xor_assoc,<- Nat.xor_assoc b,Nat.xor_comm b c,Nat.xor_assoc c]
theorem xor_parity (a b:Nat):(a ^^^ b) % 2 = (a % 2 + b % 2) % 2:=by
 have h:=Nat.xor_mod_two_pow (a:=a) (b:=b) (n:=1)
 rw [Nat.pow_one] at h
 rw [h]
 rcases Nat.mod_two_eq_zero_or_one a with h1 | h1 <;> rcases Nat.mod_two_eq_zero_or_one b with h2 | h2 <;> rw [h1,h2] <;> rfl
theorem bit_xor (a b:Nat):bit (a ^^^ b) = bit a ^^^ bit b:=by
 unfold bit
 rw [xor_parity,Nat.xor_div_two]
 rcases Nat.mod_two_eq_zero_or_one a with h1 | h1 <;> rcases Nat.mod_two_eq_zero_or_one b with h2 | h2 <;> rw [h1,h2]
 ·rfl
 ·show (a / 2 ^^^ b / 2) ^^^ poly = a / 2 ^^^ (b / 2 ^^^ poly)
  rw [Nat.xor_assoc]
 ·show (a / 2 ^^^ b / 2) ^^^ poly = (a / 2 ^^^ poly) ^^^ b / 2
  rw [Nat.xor_assoc,Nat.xor_assoc,Nat.xor_comm (b / 2)]
 ·show a / 2 ^^^ b / 2 = (a / 2 ^^^ poly) ^^^ (b / 2 ^^^ poly)
  rw [xor_swap,Nat.xor_self,Nat.xor_zero]
theorem bit_double (b:Nat):bit (2 * b) = b:=by
 unfold bit; rw [if_neg (by omega)]; omega
def word:List Nat->Nat
 | []=>0
 | b :: r=>b ^^^ 256 * word r
def val (c:UInt8):Option Nat :=
 if 48<=c.toNat/\c.toNat<=57 then some (c.toNat - 48) else if 65<=c.toNat/\c.toNat<=90 then some (c.toNat - 55) else none
def put (r v:Nat):Nat:=if 9 < v then (r * 100 + v) % 97 else (r * 10 + v) % 97
def restG:Nat->List UInt8->Option Nat
 | r,[]=>some r
 | r,c :: s=>match val c with
  | none=>none
  | some v=>restG (put r v) s
def rest (s:List UInt8):Option Nat:=if s = [] then none else restG 0 s
def two (n:Nat):List UInt8:=[(48 + n / 10).toUInt8,(48 + n % 10).toUInt8]
def digits (s:List UInt8):Option (List UInt8) :=
 match rest s with
 | none=>none
 | some _=>some (two (98 - (rest (s ++ [48,48])).getD 0))
def fits (s:List UInt8):Bool:=decide (3<=s.length) && (digits (s.take (s.length - 2)) == some (s.drop (s.length - 2)))
end Go.Proofs.YthjjfjhajadimaaGreatDoor.C
namespace Go.Proofs.YthjjfjhajadimaaGreatDoor.C
def tab:List Nat:=[0x00000000,0x105EC76F,0x20BD8EDE,0x30E349B1,0x417B1DBC,0x5125DAD3,0x61C69362,0x7198540D,0x82F63B78,0x92A8FC17,0xA24BB5A6,0xB21572C9,0xC38D26C4,0xD3D3E1AB,0xE330A81A,0xF36E6F75]
def nib (r:Nat):Nat:=bit (bit (bit (bit r)))
theorem byte8_nib (r:Nat):byte8 r = nib (nib r):=by unfold byte8 nib; rfl
theorem split16 (r:Nat):r = (16 * (r / 16)) ^^^ (r % 16):=by
 have h:=Nat.two_pow_add_eq_or_of_lt (b:=r % 16) (i:=4) (Nat.mod_lt _ (by decide)) (r / 16)
 have h2:16 * (r / 16) ^^^ r % 16 = 16 * (r / 16) ||| r % 16:=by
  apply Nat.eq_of_testBit_eq
  intro i
  rw [Nat.testBit_xor,Nat.testBit_or]
  by_cases hi:i < 4
  ·rw [show 16 * (r / 16) = 2 ^ 4 * (r / 16) from rfl,Nat.testBit_two_pow_mul]; have:¬ 4<=i:=by omega
   simp [this]
  ·have:(r % 16).testBit i = false:=Nat.testBit_lt_two_pow (Nat.lt_of_lt_of_le (Nat.mod_lt _ (by decide)) (show 16<=2 ^ i from Nat.pow_le_pow_right (n:=2) (by decide) (show 4<=i by omega)))
   rw [this]; simp
 rw [h2]
 have h3:16 * (r / 16) ||| r % 16 = 16 * (r / 16) + r % 16:=h.symm
 rw [h3]; omega
theorem nib_small:∀ l < 16,nib l = tab.getD l 0:=by unfold nib bit poly tab; decide
theorem nib_16 (q:Nat):nib (16 * q) = q:=by
 unfold nib
 rw [show 16 * q = 2 * (2 * (2 * (2 * q))) by omega]
 simp only [bit_double]
theorem nib_xor (a b:Nat):nib (a ^^^ b) = nib a ^^^ nib b:=by unfold nib; simp only [bit_xor]
theorem nib_tab (r:Nat):nib r = (r / 16) ^^^ tab.getD (r % 16) 0:=by
 conv=>lhs; rw [split16 r]
 rw [nib_xor,nib_16,nib_small _ (Nat.mod_lt _ (by decide))]
theorem nib_lt {r:Nat} (h:r < 2 ^ 32):nib r < 2 ^ 32:=bit_lt (bit_lt (bit_lt (bit_lt h)))
end Go.Proofs.YthjjfjhajadimaaGreatDoor.C
namespace Go.Proofs.YthjjfjhajadimaaGreatDoor.C
def bits:Nat->Nat->Nat
 | 0,r=>r
 | n + 1,r=>bits n (bit r)
end Go.Proofs.YthjjfjhajadimaaGreatDoor.C
namespace Go.Proofs.YthjjfjhajadimaaGreatDoor.E
set_option maxRecDepth 100000
def low:Nat->Nat->List UInt8
 | 0,_=>[]
 | n + 1,x=>x.toUInt8 :: low n (x / 256)
def num:List UInt8->Nat
 | []=>0
 | c :: s=>c.toNat + 256 * num s
theorem low_length:∀ (n x:Nat),(low n x).length = n
 | 0,_=>rfl
 | n + 1,x=>by rw [low,List.length_cons,low_length n]
theorem u8_mod (n:Nat):n.toUInt8.toNat = n % 256:=by rw [Nat.toUInt8,UInt8.toNat_ofNat']
theorem num_low:∀ (n x:Nat),num (low n x) = x % 256 ^ n
 | 0,x=>by rw [low,num,Nat.pow_zero,Nat.mod_one]
 | n + 1,x=>by
  rw [low,num,num_low n,u8_mod,Nat.pow_succ,Nat.mul_comm (256 ^ n) 256,Nat.mod_mul]
theorem num_lt:∀ (s:List UInt8),num s < 256 ^ s.length
 | []=>by decide
 | c :: s=>by
  have h1:=num_lt s
  have h2:=c.toNat_lt
  rw [num,List.length_cons,Nat.pow_succ]
  omega
theorem num_append:∀ (s t:List UInt8),num (s ++ t) = num s + 256 ^ s.length * num t
 | [],t=>by simp [num]
 | c :: s,t=>by
  rw [List.cons_append,num,num,num_append s t,List.length_cons,Nat.pow_succ,Nat.mul_comm (256 ^ s.length) 256,Nat.mul_add,Nat.mul_assoc,Nat.add_assoc]
theorem num_inj:∀ {s t:List UInt8},s.length = t.length->num s = num t->s = t
 | [],[],_,_=>rfl
 | [],_ :: _,h,_=>by simp at h
 | _ :: _,[],h,_=>by simp at h
 | c :: s,d :: t,h,e=>by
  rw [num,num] at e
  have h1:=c.toNat_lt
  have h2:=d.toNat_lt
  have hs:s.length = t.length:=by simpa using h
  have e1:c.toNat = d.toNat:=by omega
  have e2:num s = num t:=by omega
  rw [UInt8.toNat_inj.1 e1,num_inj hs e2]
theorem num_zeros:∀ n,num (List.replicate n 0) = 0
 | 0=>rfl
 | n + 1=>by rw [List.replicate_succ,num,num_zeros n]; rfl
def pad (p:List UInt8):List UInt8:=p ++ List.replicate (234 - p.length) 0
def front3 (st:Nat) (p:List UInt8):List UInt8:=low 8 st ++ (low 2 p.length ++ pad p)
def sct (st:Nat) (p:List UInt8):List UInt8:=front3 st p ++ (low 4 (C.sum (front3 st p)) ++ low 8 st)
def front (t:List UInt8):Nat:=num (t.take 8)
def back (t:List UInt8):Nat:=num (t.drop 248)
def size (t:List UInt8):Nat:=num ((t.drop 8).take 2)
def pay (t:List UInt8):List UInt8:=(t.drop 10).take (size t)
theorem pad_length {p:List UInt8} (h:p.length<=234):(pad p).length = 234:=by unfold pad; simp; omega
theorem front3_length (st:Nat) {p:List UInt8} (h:p.length<=234):(front3 st p).length = 244:=by
 unfold front3; simp [low_length,pad_length h]
theorem sct_length (st:Nat) {p:List UInt8} (h:p.length<=234):(sct st p).length = 256:=by
 unfold sct; simp [low_length,front3_length st h]
theorem sct_take (st:Nat) (p:List UInt8):(sct st p).take 8 = low 8 st:=by
 unfold sct front3
 rw [List.append_assoc,List.take_append_of_le_length (by rw [low_length]; omega)]
 exact List.take_of_length_le (by rw [low_length]; omega)
theorem sct_drop (st:Nat) {p:List UInt8} (h:p.length<=234):(sct st p).drop 248 = low 8 st:=by
 unfold sct
 rw [<- List.append_assoc]
 exact List.drop_left' (by simp [low_length,front3_length st h])
theorem sct_front {st:Nat} (hs:st < 2 ^ 64) (p:List UInt8):front (sct st p) = st:=by
 unfold front; rw [sct_take,num_low]; exact Nat.mod_eq_of_lt hs
theorem sct_back {st:Nat} (hs:st < 2 ^ 64) {p:List UInt8} (h:p.length<=234):back (sct st p) = st:=by
 unfold back; rw [sct_drop st h,num_low]; exact Nat.mod_eq_of_lt hs
theorem sct_size (st:Nat) {p:List UInt8} (h:p.length<=234):size (sct st p) = p.length:=by
 unfold size sct front3
 rw [List.append_assoc,List.drop_left' (low_length 8 st),List.append_assoc,List.take_append_of_le_length (by rw [low_length]; omega),List.take_of_length_le (by rw [low_length]; omega),num_low]
 exact Nat.mod_eq_of_lt (by omega)
theorem sct_pay (st:Nat) {p:List UInt8} (h:p.length<=234):pay (sct st p) = p:=by
 unfold pay
 rw [sct_size st h]
 unfold sct front3 pad
 have e:low 8 st ++ (low 2 p.length ++ (p ++ List.replicate (234 - p.length) 0)) = (low 8 st ++ low 2 p.length) ++ (p ++ List.replicate (234 - p.length) 0):=by simp
 rw [e,List.append_assoc,List.drop_left' (by simp [low_length]),List.append_assoc,List.take_left' rfl]
def openS (st:Nat) (raw:List UInt8):Option (List UInt8) :=
 if raw.length = 256/\st ≠ 0/\size raw<=234/\raw = sct st (pay raw) then some (pay raw) else none
def counts (st:Nat) (raw:List UInt8):Bool:=(openS st raw).isSome
theorem pay_length {raw:List UInt8} (h:raw.length = 256) (hs:size raw<=234):(pay raw).length = size raw:=by
 unfold pay; simp; omega
theorem open_some {st:Nat} {raw p:List UInt8} (h:openS st raw = some p):p.length<=234/\st ≠ 0/\raw = sct st p:=by
 unfold openS at h
 split at h
 ·rename_i k
  obtain ⟨k1,k2,k3,k4⟩:=k
  injection h with h
  rw [<- h]
  exact ⟨by rw [pay_length k1 k3]; exact k3,k2,k4⟩
 ·cases h
theorem open_sct {st:Nat} (hs:st ≠ 0) {p:List UInt8} (h:p.length<=234):openS st (sct st p) = some p:=by
 unfold openS
 rw [if_pos ⟨sct_length st h,hs,by rw [sct_size st h]; exact h,by rw [sct_pay st h]⟩,sct_pay st h]
theorem counts_sct {st:Nat} (hs:st ≠ 0) {p:List UInt8} (h:p.length<=234):counts st (sct st p) = true:=by
 unfold counts; rw [open_sct hs h]; rfl
theorem counts_ends {st:Nat} (hs:st < 2 ^ 64) {raw:List UInt8} (h:counts st raw = true):st ≠ 0/\front raw = st/\back raw = st:=by
 unfold counts at h
 obtain ⟨p,hp⟩:=Option.isSome_iff_exists.1 h
 obtain ⟨h1,h2,rfl⟩:=open_some hp
 exact ⟨h2,sct_front hs p,sct_back hs h1⟩
def tear (a b:List UInt8) (n:Nat):List UInt8:=b.take n ++ a.drop n
theorem tear_length {a b:List UInt8} (ha:a.length = 256) (hb:b.length = 256) {n:Nat} (hn:n<=256):(tear a b n).length = 256:=by
 unfold tear; simp; omega
theorem tear_back {a b:List UInt8} (hb:b.length = 256) {n:Nat} (hn:n<=248):back (tear a b n) = back a:=by
 unfold back tear
 rw [List.drop_append,List.drop_eq_nil_of_le (by simp; omega),List.nil_append,List.length_take,List.drop_drop]
 congr 2; omega
theorem tear_front {a b:List UInt8} (hb:b.length = 256) {n:Nat} (hn:8<=n):front (tear a b n) = front b:=by
 unfold front tear
 rw [List.take_append_of_le_length (by simp; omega),List.take_take]
 congr 2; omega
theorem tear_new {a b:List UInt8} (ha:a.length = 256) (hb:b.length = 256) {n:Nat} (hn:n<=256) (h8:248<=n) (h:back (tear a b n) = back b):tear a b n = b:=by
 have h1:(tear a b n).take 248 = b.take 248:=by
  unfold tear
  rw [List.take_append_of_le_length (by simp; omega),List.take_take]
  congr 1; omega
 have h2:(tear a b n).drop 248 = b.drop 248:=num_inj (by rw [List.length_drop,List.length_drop,tear_length ha hb hn,hb]) h
 rw [<- List.take_append_drop 248 (tear a b n),h1,h2,List.take_append_drop]
theorem tear_old {a b:List UInt8} (ha:a.length = 256) (hb:b.length = 256) {n:Nat} (h8:n<=8) (h:front (tear a b n) = front a):tear a b n = a:=by
 have h1:(tear a b n).drop 8 = a.drop 8:=by
  unfold tear
  rw [List.drop_append,List.drop_eq_nil_of_le (by simp; omega),List.nil_append,List.length_take,List.drop_drop]
  congr 1; omega
 have h2:(tear a b n).take 8 = a.take 8:=num_inj (by rw [List.length_take,List.length_take,tear_length ha hb (by omega),ha]) h
 rw [<- List.take_append_drop 8 (tear a b n),h1,h2,List.take_append_drop]
theorem tear_back_le {a b:List UInt8} (ha:a.length = 256) (hb:b.length = 256) {n:Nat} (hn:n<=256) (h:back a<=back b):back (tear a b n)<=back b:=by
 by_cases h8:n<=248
 ·rw [tear_back hb h8]; exact h
 ·obtain ⟨k,rfl⟩:∃ k,n = 248 + k:=⟨n - 248,by omega⟩
  have e:(tear a b (248 + k)).drop 248 = (b.drop 248).take k ++ (a.drop 248).drop k:=by
   unfold tear
   rw [List.drop_append,List.drop_take,List.length_take,List.drop_drop,List.drop_drop]
   congr 2
   ·omega
   ·omega
  have e1:=num_append ((b.drop 248).take k) ((a.drop 248).drop k)
  have e2:=num_append ((b.drop 248).take k) ((b.drop 248).drop k)
  have e3:=num_append ((a.drop 248).take k) ((a.drop 248).drop k)
  rw [List.take_append_drop] at e2 e3
  have hl:((b.drop 248).take k).length = k:=by simp; omega
  have hl2:((a.drop 248).take k).length = k:=by simp; omega
  have b1:=num_lt ((b.drop 248).take k)
  rw [hl] at e1 e2 b1
  rw [hl2] at e3
  unfold back at h ⊢
  rw [e,e1]
  rw [e2,e3] at h
  generalize num ((b.drop 248).take k) = x at *
  generalize num ((a.drop 248).take k) = y at *
  generalize num ((b.drop 248).drop k) = u at *
  generalize num ((a.drop 248).drop k) = v at *
  rw [e2]
  have hvu:v<=u:=by
   apply Nat.le_of_not_lt
   intro hlt
   have:=Nat.mul_le_mul_left (256 ^ k) (show u + 1<=v from hlt)
   rw [Nat.mul_add,Nat.mul_one] at this
   omega
  have:=Nat.mul_le_mul_left (256 ^ k) hvu
  omega
theorem one_tear {a b:List UInt8} (ha:a.length = 256) (hb:b.length = 256) {o st:Nat} (hfa:front a = o) (hba:back a = o) (hfb:front b = st) (hbb:back b = st) (hne:st ≠ o) {n:Nat} (hn:n<=256)
  {x:Nat} (hx:x < 2 ^ 64) (hc:counts x (tear a b n) = true):(x = st/\tear a b n = b)\/(x = o/\tear a b n = a):=by
 obtain ⟨h0,h1,h2⟩:=counts_ends hx hc
 by_cases h8:8<=n
 ·have hf:=tear_front (a:=a) hb h8
  have hxs:x = st:=by rw [<- h1,hf,hfb]
  by_cases h248:n<=248
  ·have hk:=tear_back (a:=a) hb h248
   rw [h2,hba] at hk
   exact absurd (hxs.symm.trans hk) hne
  ·exact Or.inl ⟨hxs,tear_new ha hb hn (by omega) (by rw [h2,hbb]; exact hxs)⟩
 ·have hk:=tear_back (a:=a) hb (show n<=248 by omega)
  have hxo:x = o:=by rw [<- h2,hk,hba]
  exact Or.inr ⟨hxo,tear_old ha hb (by omega) (by rw [h1,hfa]; exact hxo)⟩
theorem next_tear {a b:List UInt8} (ha:a.length = 256) (hb:b.length = 256) {o st:Nat} (hba:back a<=o) (hbb:back b = st) (hlt:o < st) {n:Nat} (hn:n<=256) :
  back (tear a b n)<=st/\(∀ {x:Nat},x < 2 ^ 64->st < x->counts x (tear a b n) = false)/\(st < 2 ^ 64->counts st (tear a b n) = true->tear a b n = b):=by
 have h1:back (tear a b n)<=st:=by
  have:=tear_back_le ha hb hn (by omega:back a<=back b)
  omega
 refine ⟨h1,fun {x} hx hs=>?_,fun hst hc=>?_⟩
 ·cases hc:counts x (tear a b n) with
  | false=>rfl
  | true =>
   have:=(counts_ends hx hc).2.2
   omega
 ·obtain ⟨h0,h2,h3⟩:=counts_ends hst hc
  by_cases h248:n<=248
  ·have hk:=tear_back (a:=a) hb h248
   omega
  ·exact tear_new ha hb hn (by omega) (by omega)
end Go.Proofs.YthjjfjhajadimaaGreatDoor.E
namespace Go.Proofs.YthjjfjhajadimaaGreatDoor.G
set_option maxRecDepth 100000
def slotV (raw:List UInt8) (i:Nat):Option (Nat × List UInt8) :=
 if raw.length = 256/\E.front raw = E.back raw/\1<=E.front raw/\E.front raw<=1099511627776/\E.front raw % 2 = i then (E.openS (E.front raw) raw).map fun p=>(E.front raw,p) else none
def best:Option (Nat × List UInt8)->Option (Nat × List UInt8)->Option (Nat × List UInt8)
 | none,y=>y
 | x,none=>x
 | some x,some y=>if x.1 < y.1 then some y else some x
theorem best_some (a b:Nat × List UInt8):best (some a) (some b) = if a.1 < b.1 then some b else some a:=rfl
def readS (s:Nat->List UInt8):Option (Nat × List UInt8):=best (slotV (s 0) 0) (slotV (s 1) 1)
theorem slotV_some {raw:List UInt8} {i v:Nat} {p:List UInt8} (h:slotV raw i = some (v,p)):1<=v/\v<=1099511627776/\v % 2 = i/\p.length<=234/\raw = E.sct v p:=by
 unfold slotV at h
 split at h
 ·rename_i k
  obtain ⟨k1,k2,k3,k4,k5⟩:=k
  cases hq:E.openS (E.front raw) raw with
  | none=>rw [hq] at h; cases h
  | some q =>
   rw [hq] at h
   simp only [Option.map_some,Option.some.injEq,Prod.mk.injEq] at h
   obtain ⟨h1,h2⟩:=h
   subst h1 h2
   obtain ⟨a,b,c⟩:=E.open_some hq
   exact ⟨k3,k4,k5,a,c⟩
 ·cases h
theorem slotV_sct {v i:Nat} {p:List UInt8} (h1:1<=v) (h2:v<=1099511627776) (h3:v % 2 = i) (hp:p.length<=234):slotV (E.sct v p) i = some (v,p):=by
 have hv:v < 2 ^ 64:=Nat.lt_of_le_of_lt h2 (by decide)
 have hf:=E.sct_front hv p
 have hb:=E.sct_back hv hp
 unfold slotV
 rw [hf,hb,if_pos ⟨E.sct_length v hp,rfl,h1,h2,h3⟩,E.open_sct (by omega) hp]
 rfl
theorem counts_of {v:Nat} {p:List UInt8} (h1:1<=v) (hp:p.length<=234):E.counts v (E.sct v p) = true:=E.counts_sct (by omega) hp
def zeros:List UInt8:=List.replicate 256 0
theorem zeros_length:zeros.length = 256:=List.length_replicate
theorem zeros_front:E.front zeros = 0:=by unfold E.front zeros; rw [List.take_replicate]; exact E.num_zeros _
theorem zeros_back:E.back zeros = 0:=by unfold E.back zeros; rw [List.drop_replicate]; exact E.num_zeros _
theorem slotV_zeros (i:Nat):slotV zeros i = none:=by
 unfold slotV; rw [zeros_front]; exact if_neg (fun h=>by omega)
def stand (v:Nat) (p:List UInt8):List UInt8:=if v = 0 then zeros else E.sct v p
theorem stand_length {v:Nat} {p:List UInt8} (hp:p.length<=234):(stand v p).length = 256:=by
 unfold stand; split
 ·exact zeros_length
 ·exact E.sct_length v hp
theorem stand_front {v:Nat} (hv:v<=1099511627776) (p:List UInt8):E.front (stand v p) = v:=by
 unfold stand; split
 ·rename_i h; rw [zeros_front,h]
 ·exact E.sct_front (Nat.lt_of_le_of_lt hv (by decide)) p
theorem stand_back {v:Nat} (hv:v<=1099511627776) {p:List UInt8} (hp:p.length<=234):E.back (stand v p) = v:=by
 unfold stand; split
 ·rename_i h; rw [zeros_back,h]
 ·exact E.sct_back (Nat.lt_of_le_of_lt hv (by decide)) hp
theorem tear_again (O B:List UInt8) (m n:Nat) (hB:B.length = 256) (hm:m<=256) (hn:n<=256):E.tear (E.tear O B m) B n = E.tear O B (max m n):=by
 unfold E.tear
 apply List.ext_getElem?
 intro j
 by_cases h1:j < n
 ·rw [List.getElem?_append_left (by simp; omega),List.getElem?_append_left (by simp; omega),List.getElem?_take_of_lt h1,List.getElem?_take_of_lt (by omega)]
 ·rw [List.getElem?_append_right (by simp; omega),List.length_take,List.getElem?_drop,show n + (j - min n B.length) = j by omega]
  by_cases h2:j < m
  ·rw [List.getElem?_append_left (by simp; omega),List.getElem?_append_left (by simp; omega),List.getElem?_take_of_lt h2,List.getElem?_take_of_lt (by omega)]
  ·rw [List.getElem?_append_right (by simp; omega),List.getElem?_append_right (by simp; omega),List.length_take,List.length_take,List.getElem?_drop,List.getElem?_drop]
   congr 1; omega
theorem tear_none (O B:List UInt8):E.tear O B 0 = O:=by unfold E.tear; simp
theorem tear_all (O B:List UInt8) (hO:O.length = 256) (hB:B.length = 256):E.tear O B 256 = B:=by
 unfold E.tear
 rw [List.take_of_length_le (by omega),List.drop_eq_nil_of_le (by omega),List.append_nil]
theorem torn_slot {n o i:Nat} {old next:List UInt8} (ho:o + 1 = n\/o = 0) (hn:n + 1<=1099511627776) (h1:old.length<=234) (h2:next.length<=234) {m:Nat} (hm:m<=256) {v:Nat} {p:List UInt8}
  (h:slotV (E.tear (stand o old) (E.sct (n + 1) next) m) i = some (v,p)):(v = n + 1/\p = next)\/(v = o/\1<=o):=by
 obtain ⟨a1,a2,a3,a4,a5⟩:=slotV_some h
 have hol:o<=1099511627776:=by omega
 have hc:E.counts v (E.tear (stand o old) (E.sct (n + 1) next) m) = true:=by rw [a5]; exact counts_of a1 a4
 have ht:=E.one_tear (stand_length h1) (E.sct_length (n + 1) h2) (stand_front hol old) (stand_back hol h1) (E.sct_front (Nat.lt_of_le_of_lt hn (by decide)) next) (E.sct_back (Nat.lt_of_le_of_lt hn (by decide)) h2) (by omega) hm (Nat.lt_of_le_of_lt a2 (by decide)) hc
 rcases ht with ⟨e1,e2⟩ | ⟨e1,e2⟩
 ·refine .inl ⟨e1,?_⟩
  have e3:E.sct v p = E.sct (n + 1) next:=a5.symm.trans e2
  have k1:=E.sct_pay v a4
  have k2:=E.sct_pay (n + 1) h2
  rw [<- k1,e3,k2]
 ·exact .inr ⟨e1,by omega⟩
structure Keeps (s:Nat->List UInt8) (n:Nat) (val:List UInt8) (o:Nat) (old:List UInt8) (next:List UInt8) (m:Nat):Prop where
 own:s (n % 2) = stand n val
 other:s ((n + 1) % 2) = E.tear (stand o old) (E.sct (n + 1) next) m
 o:o + 1 = n\/o = 0
 n:n + 1<=1099511627776
 val:val.length<=234
 old:old.length<=234
 next:next.length<=234
 m:m<=256
theorem slotV_stand {n:Nat} {p:List UInt8} (hn:n<=1099511627776) (hp:p.length<=234):slotV (stand n p) (n % 2) = if n = 0 then none else some (n,p):=by
 unfold stand
 split
 ·exact slotV_zeros _
 ·exact slotV_sct (by omega) hn rfl hp
theorem best_comm {x y:Option (Nat × List UInt8)} (h:∀ a b,x = some a->y = some b->a.1 ≠ b.1):best x y = best y x:=by
 cases x with
 | none=>cases y <;> rfl
 | some a =>
  cases y with
  | none=>rfl
  | some b =>
   have:=h a b rfl rfl
   rw [best_some,best_some]
   by_cases h1:a.1 < b.1
   ·rw [if_pos h1,if_neg (by omega)]
   ·rw [if_neg h1,if_pos (by omega)]
theorem slot_parity {raw:List UInt8} {i:Nat} {a:Nat × List UInt8} (h:slotV raw i = some a):a.1 % 2 = i:=(slotV_some (v:=a.1) (p:=a.2) h).2.2.1
theorem readS_own (s:Nat->List UInt8) (n:Nat):readS s = best (slotV (s (n % 2)) (n % 2)) (slotV (s ((n + 1) % 2)) ((n + 1) % 2)):=by
 unfold readS
 rcases Nat.mod_two_eq_zero_or_one n with h | h
 ·rw [h,show (n + 1) % 2 = 1 by omega]
 ·rw [h,show (n + 1) % 2 = 0 by omega]
  exact best_comm (fun a b ha hb=>by have:=slot_parity ha; have:=slot_parity hb; omega)
theorem Keeps.read {s:Nat->List UInt8} {n o m:Nat} {val old next:List UInt8} (h:Keeps s n val o old next m) :
  readS s = some (n + 1,next)\/readS s = if n = 0 then none else some (n,val):=by
 have hown:=slotV_stand (n:=n) (p:=val) (by have:=h.n; omega) h.val
 rw [<- h.own] at hown
 rw [readS_own s n,hown]
 cases ht:slotV (s ((n + 1) % 2)) ((n + 1) % 2) with
 | none =>
  right
  split <;> rfl
 | some a =>
  obtain ⟨v,p⟩:=a
  have hs:=ht
  rw [h.other] at hs
  rcases torn_slot h.o h.n h.old h.next h.m hs with ⟨rfl,rfl⟩ | ⟨rfl,ho⟩
  ·left
   split
   ·rfl
   ·rw [best_some,if_pos (by simp)]
  ·right
   have h1:=h.o
   have hn0:n ≠ 0:=by omega
   rw [if_neg hn0]
   rw [best_some,if_neg (by simp; omega)]
theorem Keeps.next_there {s:Nat->List UInt8} {n o m:Nat} {val old next:List UInt8} (h:Keeps s n val o old next m) {p:List UInt8} (hr:readS s = some (n + 1,p)):s ((n + 1) % 2) = E.sct (n + 1) next:=by
 have hown:=slotV_stand (n:=n) (p:=val) (by have:=h.n; omega) h.val
 rw [<- h.own] at hown
 rw [readS_own s n,hown] at hr
 cases ht:slotV (s ((n + 1) % 2)) ((n + 1) % 2) with
 | none =>
  rw [ht] at hr
  split at hr
  ·cases hr
  ·simp [best] at hr
 | some a =>
  obtain ⟨v,q⟩:=a
  have h5:=(slotV_some ht).2.2.2.2
  have hs:=ht
  rw [h.other] at hs
  rcases torn_slot h.o h.n h.old h.next h.m hs with ⟨rfl,rfl⟩ | ⟨rfl,ho⟩
  ·exact h5
  ·rw [ht] at hr
   exfalso
   have h1:=h.o
   have hn0:n ≠ 0:=by omega
   rw [if_neg hn0] at hr
   rw [best_some,if_neg (by simp; omega)] at hr
   simp at hr
theorem Keeps.again {s:Nat->List UInt8} {n o m:Nat} {val old next:List UInt8} (h:Keeps s n val o old next m) {k:Nat} (hk:k<=256) {t:Nat->List UInt8} (ht:t (n % 2) = s (n % 2)) (ht2:t ((n + 1) % 2) = E.tear (s ((n + 1) % 2)) (E.sct (n + 1) next) k) :
  Keeps t n val o old next (max m k) :=
 ⟨ht.trans h.own,by rw [ht2,h.other,tear_again _ _ _ _ (E.sct_length (n + 1) h.next) h.m hk],h.o,h.n,h.val,h.old,h.next,by have:=h.m; omega⟩
theorem Keeps.step {s:Nat->List UInt8} {n o m:Nat} {val old next:List UInt8} (h:Keeps s n val o old next m) (hs:s ((n + 1) % 2) = E.sct (n + 1) next) {after:List UInt8} (ha:after.length<=234) (hn:n + 2<=1099511627776):Keeps s (n + 1) next n val after 0:=by
 refine ⟨?_,?_,.inl rfl,hn,h.next,h.val,ha,by omega⟩
 ·rw [hs]; unfold stand; rw [if_neg (by omega)]
 ·rw [tear_none,show (n + 1 + 1) % 2 = n % 2 by omega]; exact h.own
theorem Keeps.other_next {s:Nat->List UInt8} {n o:Nat} {val old next:List UInt8} (h:Keeps s n val o old next 0) {after:List UInt8} (ha:after.length<=234):Keeps s n val o old after 0 :=
 ⟨h.own,by rw [h.other,tear_none,tear_none],h.o,h.n,h.val,h.old,ha,by omega⟩
end Go.Proofs.YthjjfjhajadimaaGreatDoor.G
