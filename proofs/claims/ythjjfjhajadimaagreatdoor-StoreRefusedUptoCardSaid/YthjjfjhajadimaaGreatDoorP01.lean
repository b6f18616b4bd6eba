/-
  Joined: TSpec, Spec, TextD, OSpec, BSpec.
-/
import Derived.Laws.Strings
import Derived.Lib.Varint
import Derived.Lib.VarintBits
import Derived.Lib.VarintDec
import Derived.Lib.Zigzag
namespace Go.Proofs.YthjjfjhajadimaaGreatDoor.Tb
set_option maxRecDepth 100000
abbrev Txt:=List UInt8
abbrev R:=Txt × Txt
def lt (a b:Txt):Bool:=Go.Op.bytesLess a b
theorem lt_nil (a:Txt):lt a [] = false:=by cases a <;> rfl
theorem lt_cons (a b:UInt8) (x y:Txt):lt (a :: x) (b :: y) = (decide (a < b) || (a == b && lt x y)):=rfl
theorem lt_irrefl:∀ a,lt a a = false
 | []=>rfl
 | a :: x=>by rw [lt_cons,lt_irrefl x]; simp [UInt8.lt_irrefl]
theorem lt_trans:∀ {a b c:Txt},lt a b = true->lt b c = true->lt a c = true
 | _,[],_,h,_=>by rw [lt_nil] at h; cases h
 | _,_ :: _,[],_,h=>by rw [lt_nil] at h; cases h
 | [],_ :: _,_ :: _,_,_=>rfl
 | a :: x,b :: y,c :: z,h1,h2=>by
  rw [lt_cons] at *
  simp only [Bool.or_eq_true,Bool.and_eq_true,decide_eq_true_eq,beq_iff_eq] at *
  rcases h1 with h1 | ⟨rfl,h1⟩
  ·rcases h2 with h2 | ⟨rfl,h2⟩
   ·exact .inl (UInt8.lt_trans h1 h2)
   ·exact .inl h1
  ·rcases h2 with h2 | ⟨rfl,h2⟩
   ·exact .inl h2
   ·exact .inr ⟨rfl,lt_trans h1 h2⟩
theorem lt_total:∀ {a b:Txt},lt a b = false->lt b a = false->a = b
 | [],[],_,_=>rfl
 | [],_ :: _,h,_=>by cases h
 | _ :: _,[],_,h=>by cases h
 | a :: x,b :: y,h1,h2=>by
  rw [lt_cons] at *
  simp only [Bool.or_eq_false_iff,decide_eq_false_iff_not,Bool.and_eq_false_iff,beq_eq_false_iff_ne] at *
  have e:a = b:=by
   apply UInt8.toNat_inj.1
   have:=h1.1
   have:=h2.1
   rw [UInt8.lt_iff_toNat_lt] at *
   omega
  subst e
  rw [lt_total (h1.2.resolve_left (fun k=>k rfl)) (h2.2.resolve_left (fun k=>k rfl))]
theorem lt_asymm {a b:Txt} (h:lt a b = true):lt b a = false:=by
 cases e:lt b a with
 | false=>rfl
 | true=>rw [<- lt_irrefl a,lt_trans h e]
theorem lt_ne {a b:Txt} (h:lt a b = true):a ≠ b:=fun e=>by rw [e,lt_irrefl] at h; cases h
theorem ge_trans {a lo hi:Txt} (h:lt a hi = false) (h2:lt hi lo = false):lt a lo = false:=by
 cases e:lt a lo with
 | false=>rfl
 | true =>
  cases e2:lt lo hi with
  | true=>rw [lt_trans e e2] at h; cases h
  | false=>rw [lt_total e2 h2] at e; rw [e] at h; cases h
theorem lt_of_lt_ge {a b c:Txt} (h:lt a b = true) (h2:lt c b = false):lt a c = true:=by
 cases e:lt a c with
 | true=>rfl
 | false=>rw [ge_trans e h2] at h; cases h
def Sorted (l:List R):Prop:=l.Pairwise (fun a b=>lt a.1 b.1 = true)
def del (l:List R) (k:Txt):List R:=l.filter (fun r=>r.1 != k)
def place:List R->Txt->Nat
 | [],_=>0
 | r :: l,k=>if lt r.1 k = true then place l k + 1 else 0
def ins (l:List R) (r:R):List R:=l.take (place l r.1) ++ r :: l.drop (place l r.1)
def put (l:List R) (k v:Txt):List R:=ins (del l k) (k,v)
def ofL (rows:List R):List R:=rows.foldl (fun l r=>put l r.1 r.2) []
def get (l:List R) (k:Txt):Option Txt:=(l.find? (fun r=>r.1 == k)).map Prod.snd
def fromL (l:List R) (lo:Txt):List R:=l.filter (fun r=>!lt r.1 lo)
def bytes (l:List R):Nat:=(l.map fun r=>r.1.length + r.2.length).sum
theorem place_le:∀ (l:List R) (k:Txt),place l k<=l.length
 | [],_=>Nat.le_refl _
 | r :: l,k=>by
  rw [place]
  split
  ·exact Nat.succ_le_succ (place_le l k)
  ·exact Nat.zero_le _
theorem ins_nil (r:R):ins [] r = [r]:=rfl
theorem ins_cons (a:R) (l:List R) (r:R):ins (a :: l) r = if lt a.1 r.1 = true then a :: ins l r else r :: a :: l:=by
 unfold ins
 rw [place]
 split <;> simp
theorem ins_mem {l:List R} {r x:R}:x ∈ ins l r ↔ x = r\/x ∈ l:=by
 induction l with
 | nil=>simp [ins_nil]
 | cons a l ih =>
  rw [ins_cons]
  split
  ·simp only [List.mem_cons,ih]
   constructor
   ·rintro (h | h | h)
    ·exact .inr (.inl h)
    ·exact .inl h
    ·exact .inr (.inr h)
   ·rintro (h | h | h)
    ·exact .inr (.inl h)
    ·exact .inl h
    ·exact .inr (.inr h)
  ·simp
theorem ins_length (l:List R) (r:R):(ins l r).length = l.length + 1:=by
 unfold ins
 have:=place_le l r.1
 simp
 omega
theorem ins_sorted {l:List R} {r:R} (h:Sorted l) (hn:∀ x ∈ l,x.1 ≠ r.1):Sorted (ins l r):=by
 induction l with
 | nil=>simp [ins_nil,Sorted]
 | cons a l ih =>
  obtain ⟨h1,h2⟩:=List.pairwise_cons.1 h
  rw [ins_cons]
  split
  ·rename_i hlt
   refine List.pairwise_cons.2 ⟨fun x hx=>?_,ih h2 (fun x hx=>hn x (by simp [hx]))⟩
   rcases ins_mem.1 hx with rfl | hx
   ·exact hlt
   ·exact h1 x hx
  ·rename_i hlt
   have hra:lt r.1 a.1 = true:=by
    cases e:lt r.1 a.1 with
    | true=>rfl
    | false=>exact absurd (lt_total (by simpa using hlt) e) (hn a (by simp))
   refine List.pairwise_cons.2 ⟨fun x hx=>?_,h⟩
   rcases List.mem_cons.1 hx with rfl | hx
   ·exact hra
   ·exact lt_trans hra (h1 x hx)
theorem del_sorted {l:List R} (h:Sorted l) (k:Txt):Sorted (del l k):=h.filter _
theorem del_mem {l:List R} {k:Txt} {x:R}:x ∈ del l k ↔ x ∈ l/\x.1 ≠ k:=by simp [del]
theorem put_sorted {l:List R} (h:Sorted l) (k v:Txt):Sorted (put l k v):=ins_sorted (del_sorted h k) (fun _ hx=>(del_mem.1 hx).2)
theorem put_mem {l:List R} {k v:Txt} {x:R}:x ∈ put l k v ↔ x = (k,v)\/(x ∈ l/\x.1 ≠ k):=by
 unfold put
 rw [ins_mem,del_mem]
theorem put_length_le (l:List R) (k v:Txt):(put l k v).length<=l.length + 1:=by
 unfold put
 rw [ins_length]
 exact Nat.succ_le_succ (List.length_filter_le _ _)
theorem ofL_snoc (rows:List R) (r:R):ofL (rows ++ [r]) = put (ofL rows) r.1 r.2:=by simp [ofL]
theorem foldl_sorted:∀ (rows l:List R),Sorted l->Sorted (rows.foldl (fun l r=>put l r.1 r.2) l)
 | [],_,h=>h
 | _ :: rows,_,h=>foldl_sorted rows _ (put_sorted h _ _)
theorem ofL_sorted (rows:List R):Sorted (ofL rows):=foldl_sorted rows [] List.Pairwise.nil
theorem foldl_length:∀ (rows l:List R),(rows.foldl (fun l r=>put l r.1 r.2) l).length<=l.length + rows.length
 | [],_=>Nat.le_refl _
 | r :: rows,l=>by
  have:=foldl_length rows (put l r.1 r.2)
  have:=put_length_le l r.1 r.2
  simp only [List.foldl_cons,List.length_cons]
  omega
theorem ofL_length (rows:List R):(ofL rows).length<=rows.length:=by
 have:=foldl_length rows []
 simpa [ofL] using this
theorem sorted_one {l:List R} (h:Sorted l) {x y:R} (hx:x ∈ l) (hy:y ∈ l) (he:x.1 = y.1):x = y:=by
 induction l with
 | nil=>cases hx
 | cons a l ih =>
  obtain ⟨h1,h2⟩:=List.pairwise_cons.1 h
  rcases List.mem_cons.1 hx with ex | hx
  ·rcases List.mem_cons.1 hy with ey | hy
   ·rw [ex,ey]
   ·have h3:=h1 y hy
    rw [<- ex,he] at h3
    exact absurd rfl (lt_ne h3)
  ·rcases List.mem_cons.1 hy with ey | hy
   ·have h3:=h1 x hx
    rw [<- ey,he] at h3
    exact absurd rfl (lt_ne h3)
   ·exact ih h2 hx hy
theorem get_some {l:List R} (h:Sorted l) {k v:Txt}:get l k = some v ↔ (k,v) ∈ l:=by
 unfold get
 constructor
 ·intro e
  obtain ⟨x,hx,rfl⟩:=Option.map_eq_some_iff.1 e
  have h1:=List.find?_some hx
  have h2:=List.mem_of_find?_eq_some hx
  have h3:x.1 = k:=by simpa using h1
  rw [<- h3]
  exact h2
 ·intro hm
  cases e:l.find? (fun r=>r.1 == k) with
  | none =>
   have:=List.find?_eq_none.1 e (k,v) hm
   simp at this
  | some x =>
   have h1:=List.find?_some e
   have h2:=List.mem_of_find?_eq_some e
   have h3:x.1 = k:=by simpa using h1
   rw [sorted_one h h2 hm h3]
   rfl
theorem get_none {l:List R} {k:Txt}:get l k = none ↔ ∀ x ∈ l,x.1 ≠ k:=by
 unfold get
 rw [Option.map_eq_none_iff,List.find?_eq_none]
 simp
theorem from_nil (l:List R):fromL l [] = l:=List.filter_eq_self.2 (fun x _=>by simp [lt_nil])
def lastOf (rows:List R) (k:Txt):Option Txt:=get rows.reverse k
theorem get_put_same {l:List R} (h:Sorted l) (k v:Txt):get (put l k v) k = some v:=(get_some (put_sorted h k v)).2 (put_mem.2 (.inl rfl))
theorem get_put_other {l:List R} (h:Sorted l) {k v c:Txt} (hne:c ≠ k):get (put l k v) c = get l c:=by
 cases e:get l c with
 | some u=>exact (get_some (put_sorted h k v)).2 (put_mem.2 (.inr ⟨(get_some h).1 e,hne⟩))
 | none =>
  refine get_none.2 fun x hx he=>?_
  rcases put_mem.1 hx with rfl | ⟨hx,_⟩
  ·exact hne he.symm
  ·exact get_none.1 e x hx he
theorem get_ofL (rows:List R) (k:Txt):get (ofL rows) k = lastOf rows k:=by
 unfold lastOf
 generalize hr:rows.reverse = rev
 induction rev generalizing rows with
 | nil =>
  obtain rfl:rows = []:=by simpa using hr
  rfl
 | cons a rev ih =>
  obtain rfl:rows = rev.reverse ++ [a]:=by
   have:=congrArg List.reverse hr
   simpa using this
  rw [ofL_snoc]
  have h1:=ih rev.reverse (by simp)
  by_cases hk:k = a.1
  ·subst hk
   rw [get_put_same (ofL_sorted _)]
   simp [get]
  ·rw [get_put_other (ofL_sorted _) hk,h1]
   unfold get
   rw [List.find?_cons_of_neg (by simpa using fun e=>hk e.symm)]
theorem get_del {l:List R} (h:Sorted l) (k c:Txt):get (del l k) c = if c = k then none else get l c:=by
 by_cases hc:c = k
 ·subst hc
  rw [if_pos rfl]
  exact get_none.2 fun x hx=>(del_mem.1 hx).2
 ·rw [if_neg hc]
  cases e:get l c with
  | some u=>exact (get_some (del_sorted h k)).2 (del_mem.2 ⟨(get_some h).1 e,hc⟩)
  | none=>exact get_none.2 fun x hx he=>get_none.1 e x (del_mem.1 hx).1 he
theorem sorted_ext {l m:List R} (hl:Sorted l) (hm:Sorted m) (h:∀ x,x ∈ l ↔ x ∈ m):l = m:=by
 induction l generalizing m with
 | nil =>
  cases m with
  | nil=>rfl
  | cons b m=>exact absurd ((h b).2 (by simp)) (by simp)
 | cons a l ih =>
  cases m with
  | nil=>exact absurd ((h a).1 (by simp)) (by simp)
  | cons b m =>
   obtain ⟨l1,l2⟩:=List.pairwise_cons.1 hl
   obtain ⟨m1,m2⟩:=List.pairwise_cons.1 hm
   have e:a = b:=by
    rcases List.mem_cons.1 ((h a).1 (by simp)) with e | ha
    ·exact e
    ·rcases List.mem_cons.1 ((h b).2 (by simp)) with e | hb
     ·exact e.symm
     ·have q:=lt_trans (l1 b hb) (m1 a ha)
      rw [lt_irrefl] at q
      cases q
   subst e
   rw [ih l2 m2 fun x=>?_]
   constructor
   ·intro hx
    rcases List.mem_cons.1 ((h x).1 (by simp [hx])) with e | hx'
    ·subst e; have q:=l1 x hx; rw [lt_irrefl] at q; cases q
    ·exact hx'
   ·intro hx
    rcases List.mem_cons.1 ((h x).2 (by simp [hx])) with e | hx'
    ·subst e; have q:=m1 x hx; rw [lt_irrefl] at q; cases q
    ·exact hx'
def has (l:List R) (k:Txt):Bool:=l.any (fun r=>r.1 == k)
def left (rows:List R) (j:Nat):List R:=(ofL rows).filter (fun x=>!(rows.drop j).any (fun y=>y.1 == x.1))
theorem left_sorted (rows:List R) (j:Nat):Sorted (left rows j):=(ofL_sorted rows).filter _
theorem last_here {rows:List R} {j:Nat} {r:R} (h:rows[j]? = some r) (hn:(rows.drop (j + 1)).any (fun y=>y.1 == r.1) = false):lastOf rows r.1 = some r.2:=by
 obtain ⟨hj,rfl⟩:=List.getElem?_eq_some_iff.1 h
 unfold lastOf get
 have e:rows = rows.take j ++ rows[j] :: rows.drop (j + 1):=by rw [<- List.drop_eq_getElem_cons hj,List.take_append_drop]
 have hr:rows.reverse = (rows.drop (j + 1)).reverse ++ rows[j] :: (rows.take j).reverse:=by
  conv=>lhs; rw [e]
  simp
 rw [hr,List.find?_append]
 have h0:(rows.drop (j + 1)).reverse.find? (fun r=>r.1 == rows[j].1) = none:=by
  rw [List.find?_eq_none]
  intro x hx
  have hx':x ∈ rows.drop (j + 1):=by simpa using hx
  have:=List.any_eq_false.1 hn x hx'
  simpa using this
 rw [h0]
 simp
theorem left_read {rows:List R} {j:Nat} {r:R} (h:rows[j]? = some r) :
  (∀ v,get (left rows (j + 1)) r.1 = some v->v = r.2/\get (ofL rows) r.1 = some v)/\∃ w,get (ofL rows) r.1 = some w:=by
 refine ⟨fun v hv=>?_,?_⟩
 ·have hm:=(get_some (left_sorted rows (j + 1))).1 hv
  unfold left at hm
  rw [List.mem_filter] at hm
  have h1:=(get_some (ofL_sorted rows)).2 hm.1
  have h2:=h1
  rw [get_ofL,last_here h (by simpa using hm.2)] at h2
  injection h2 with h2
  exact ⟨h2.symm,h1⟩
 ·cases e:get (ofL rows) r.1 with
  | some w=>exact ⟨w,rfl⟩
  | none =>
   rw [get_ofL] at e
   unfold lastOf at e
   have hm:r ∈ rows:=List.mem_of_getElem? h
   exact absurd rfl (get_none.1 e r (by simpa using hm))
theorem ofL_empty {rows:List R}:ofL rows = [] ↔ rows = []:=by
 constructor
 ·intro h
  cases rows with
  | nil=>rfl
  | cons r rows =>
   obtain ⟨w,hw⟩:=(left_read (rows:=r :: rows) (j:=0) (r:=r) rfl).2
   rw [h] at hw
   cases hw
 ·rintro rfl; rfl
theorem bytes_append (l m:List R):bytes (l ++ m) = bytes l + bytes m:=by simp [bytes]
theorem bytes_cons (r:R) (l:List R):bytes (r :: l) = r.1.length + r.2.length + bytes l:=by simp [bytes]
theorem del_bytes:∀ (l:List R) (k:Txt),bytes (del l k)<=bytes l
 | [],_=>Nat.le_refl _
 | r :: l,k=>by
  have ih:=del_bytes l k
  unfold del at *
  rw [List.filter_cons]
  split
  ·rw [bytes_cons,bytes_cons]; omega
  ·rw [bytes_cons]; omega
theorem ins_bytes (l:List R) (r:R):bytes (ins l r) = r.1.length + r.2.length + bytes l:=by
 unfold ins
 have h:bytes l = bytes (l.take (place l r.1)) + bytes (l.drop (place l r.1)):=by rw [<- bytes_append,List.take_append_drop]
 rw [bytes_append,bytes_cons,h]
 omega
theorem put_bytes (l:List R) (k v:Txt):bytes (put l k v)<=bytes l + (k.length + v.length):=by
 unfold put
 rw [ins_bytes]
 have:=del_bytes l k
 simp only
 omega
theorem sorted_next {l:List R} (h:Sorted l) {k:Nat} {a b:R} (ha:l[k]? = some a) (hb:l[k + 1]? = some b):lt a.1 b.1 = true:=by
 obtain ⟨h1,rfl⟩:=List.getElem?_eq_some_iff.1 ha
 obtain ⟨h2,rfl⟩:=List.getElem?_eq_some_iff.1 hb
 exact List.pairwise_iff_getElem.1 h k (k + 1) h1 h2 (Nat.lt_succ_self k)
end Go.Proofs.YthjjfjhajadimaaGreatDoor.Tb
namespace Go.Proofs.YthjjfjhajadimaaGreatDoor
open Go.Lib (uvarint uvarint_small uvarint_big)
def lowB:Nat->Nat->List UInt8
 | 0,_=>[]
 | n + 1,x=>(x % 256).toUInt8 :: lowB n (x / 256)
theorem lowB_length:∀ n x,(lowB n x).length = n
 | 0,_=>rfl
 | n + 1,x=>by simp [lowB,lowB_length n]
theorem lowB_snoc:∀ n x,lowB (n + 1) x = lowB n x ++ [(x / 256 ^ n % 256).toUInt8]
 | 0,x=>by simp [lowB]
 | n + 1,x=>by
  rw [lowB,lowB_snoc n (x / 256),lowB,List.cons_append]
  rw [Nat.div_div_eq_div_mul,Nat.pow_succ,Nat.mul_comm 256]
def textB (s:List UInt8):List UInt8:=uvarint s.length ++ s
def vd (i acc:Nat):List UInt8->Nat ⊕ (Nat × Nat)
 | []=>.inl 1
 | b :: r=>if i = 9/\1 < b.toNat then .inl 2 else
  if 128<=b.toNat then vd (i + 1) (acc + b.toNat % 128 * 128 ^ i) r else
  if b.toNat = 0/\0 < i then .inl 2 else .inr (acc + b.toNat % 128 * 128 ^ i,i + 1)
def varintD (l:List UInt8):Nat ⊕ (Nat × Nat):=vd 0 0 l
theorem toUInt8_toNat {n:Nat} (h:n < 256):n.toUInt8.toNat = n:=by simp; omega
theorem vd_uvarint (t:List UInt8):∀ (k i acc x:Nat),i + k = 9->x < 2 * 128 ^ k->(0 < i->0 < x)->vd i acc (uvarint x ++ t) = .inr (acc + x * 128 ^ i,i + (uvarint x).length):=by
 intro k
 induction k with
 | zero =>
  intro i acc x hi hx h0
  have hx':x < 2:=by simpa using hx
  rw [uvarint_small (by omega)]
  have hb:x.toUInt8.toNat = x:=toUInt8_toNat (by omega)
  simp only [List.cons_append,List.nil_append,vd,hb]
  rw [if_neg (by omega),if_neg (by omega),if_neg (by omega)]
  simp [Nat.mod_eq_of_lt (show x < 128 by omega)]
 | succ k ih =>
  intro i acc x hi hx h0
  by_cases hs:x < 128
  ·rw [uvarint_small hs]
   have hb:x.toUInt8.toNat = x:=toUInt8_toNat (by omega)
   simp only [List.cons_append,List.nil_append,vd,hb]
   rw [if_neg (by omega),if_neg (by omega),if_neg (by omega)]
   simp [Nat.mod_eq_of_lt hs]
  ·rw [uvarint_big (by omega)]
   have hb:(x % 128 + 128).toUInt8.toNat = x % 128 + 128:=toUInt8_toNat (by omega)
   simp only [List.cons_append,vd,hb]
   rw [if_neg (by omega),if_pos (by omega),ih (i + 1) _ (x / 128) (by omega) (by rw [Nat.pow_succ] at hx; omega) (by omega)]
   have e1:(x % 128 + 128) % 128 = x % 128:=by omega
   have e2:x % 128 * 128 ^ i + x / 128 * 128 ^ (i + 1) = x * 128 ^ i:=by
    rw [Nat.pow_succ,<- Nat.mul_assoc,Nat.mul_right_comm,<- Nat.add_mul]
    congr 1
    omega
   rw [e1,Nat.add_assoc,e2]
   simp only [List.length_cons]
   congr 2
   omega
theorem varintD_uvarint {x:Nat} (h:x < 18446744073709551616) (t:List UInt8):varintD (uvarint x ++ t) = .inr (x,(uvarint x).length):=by
 rw [varintD,vd_uvarint t 9 0 0 x (by omega) (by simpa using h) (by omega)]
 simp
theorem vd_inv:∀ (l:List UInt8) (i acc x n:Nat),i<=9->vd i acc l = .inr (x,n)->∃ y,x = acc + y * 128 ^ i/\y < 2 * 128 ^ (9 - i)/\(0 < i->0 < y)/\n = i + (uvarint y).length/\∃ t,l = uvarint y ++ t
 | [],i,acc,x,n,hi,h=>by simp [vd] at h
 | b :: r,i,acc,x,n,hi,h=>by
  rw [vd] at h
  have hb:=b.toNat_lt
  split at h
  ·cases h
  ·rename_i h9
   split at h
   ·rename_i hbig
    have hi9:i ≠ 9:=by omega
    obtain ⟨y,hx,hy,hp,hn,t,ht⟩:=vd_inv r (i + 1) _ x n (by omega) h
    have hy1:=hp (by omega)
    refine ⟨b.toNat % 128 + 128 * y,?_,?_,fun _=>by omega,?_,t,?_⟩
    ·rw [hx,Nat.add_assoc,Nat.pow_succ,Nat.add_mul,<- Nat.mul_assoc y,Nat.mul_right_comm y,Nat.mul_comm y 128]
    ·have e:9 - i = (9 - (i + 1)) + 1:=by omega
     rw [e,Nat.pow_succ]
     omega
    ·have h1:128<=b.toNat % 128 + 128 * y:=by omega
     rw [uvarint_big h1,List.length_cons,show (b.toNat % 128 + 128 * y) / 128 = y by omega,hn]
     omega
    ·have h1:128<=b.toNat % 128 + 128 * y:=by omega
     rw [uvarint_big h1,show (b.toNat % 128 + 128 * y) / 128 = y by omega,ht,List.cons_append]
     congr 1
     rw [show (b.toNat % 128 + 128 * y) % 128 + 128 = b.toNat by omega]
     simp
   ·rename_i hsm
    split at h
    ·cases h
    ·rename_i h0
     simp only [Sum.inr.injEq,Prod.mk.injEq] at h
     obtain ⟨rfl,rfl⟩:=h
     have hlt:b.toNat < 128:=by omega
     refine ⟨b.toNat,by rw [Nat.mod_eq_of_lt hlt],?_,fun hi0=>by omega,by rw [uvarint_small hlt]; simp,r,?_⟩
     ·by_cases e9:i = 9
      ·subst e9; simp; omega
      ·have e:9 - i = (9 - (i + 1)) + 1:=by omega
       rw [e,Nat.pow_succ]
       have:=Nat.pow_pos (n:=9 - (i + 1)) (show 0 < 128 by omega)
       omega
     ·rw [uvarint_small hlt]; simp
theorem varintD_inv {l:List UInt8} {x n:Nat} (h:varintD l = .inr (x,n)):x < 18446744073709551616/\n = (uvarint x).length/\∃ t,l = uvarint x ++ t:=by
 obtain ⟨y,hx,hy,_,hn,t,ht⟩:=vd_inv l 0 0 x n (by omega) h
 simp at hx
 subst hx
 exact ⟨by simpa using hy,by simpa using hn,t,ht⟩
def lowN:List UInt8->Nat
 | []=>0
 | b :: r=>b.toNat + 256 * lowN r
theorem lowN_lt:∀ l:List UInt8,lowN l < 256 ^ l.length
 | []=>by simp [lowN]
 | b :: r=>by
  have h1:=lowN_lt r
  have h2:=b.toNat_lt
  simp only [lowN,List.length_cons,Nat.pow_succ]
  omega
end Go.Proofs.YthjjfjhajadimaaGreatDoor
namespace Go.Proofs.YthjjfjhajadimaaGreatDoor
set_option maxRecDepth 100000
theorem vd_err:∀ (l:List UInt8) (i acc e:Nat),vd i acc l = .inl e->e = 1\/e = 2
 | [],i,acc,e,h=>by simp [vd] at h; omega
 | b :: r,i,acc,e,h=>by
  rw [vd] at h
  split at h
  ·injection h; omega
  ·split at h
   ·exact vd_err r _ _ e h
   ·split at h
    ·injection h; omega
    ·cases h
def textD (most:Int) (l:List UInt8):Nat ⊕ (List UInt8 × Nat) :=
 match varintD l with
 | .inl e=>.inl e
 | .inr (x,n)=>if most < (x:Int) then .inl 3 else if l.length - n < x then .inl 1 else .inr ((l.drop n).take x,n + x)
theorem textD_err {most:Int} {l:List UInt8} {e:Nat} (h:textD most l = .inl e):1<=e/\e<=3:=by
 unfold textD at h
 split at h
 ·rename_i hd; injection h with h; have:=vd_err _ _ _ _ hd; omega
 ·split at h
  ·injection h; omega
  ·split at h
   ·injection h; omega
   ·cases h
theorem textD_enc {most:Int} {s t:List UInt8} (h64:s.length < 18446744073709551616) (hm:(s.length:Int)<=most):textD most (textB s ++ t) = .inr (s,(textB s).length):=by
 unfold textD textB
 rw [List.append_assoc,varintD_uvarint h64]
 simp only
 rw [if_neg (by omega),if_neg (by simp)]
 simp
theorem textD_inv {most:Int} {l v:List UInt8} {n:Nat} (h:textD most l = .inr (v,n)):n = (textB v).length/\∃ t,l = textB v ++ t:=by
 unfold textD at h
 split at h
 ·cases h
 ·rename_i x m hd
  split at h
  ·cases h
  ·split at h
   ·cases h
   ·rename_i hx
    simp only [Sum.inr.injEq,Prod.mk.injEq] at h
    obtain ⟨rfl,rfl⟩:=h
    obtain ⟨_,rfl,t,rfl⟩:=varintD_inv hd
    rw [List.drop_left]
    rw [List.length_append] at hx
    have hl:(t.take x).length = x:=by rw [List.length_take]; omega
    refine ⟨by unfold textB; rw [List.length_append,hl],t.drop x,?_⟩
    unfold textB
    rw [hl,List.append_assoc,List.take_append_drop]
end Go.Proofs.YthjjfjhajadimaaGreatDoor
namespace Go.Proofs.YthjjfjhajadimaaGreatDoor.So
open Go.Proofs.YthjjfjhajadimaaGreatDoor.Tb
set_option maxRecDepth 100000
def rowB (r:R):Txt:=textB r.1 ++ textB r.2
def rowsB (rows:List R):Txt:=rows.flatMap rowB
def snapB (rows:List R):Txt:=Lib.uvarint rows.length ++ rowsB rows
theorem rowsB_cons (r:R) (rows:List R):rowsB (r :: rows) = rowB r ++ rowsB rows:=by simp [rowsB]
theorem rowsB_append (a b:List R):rowsB (a ++ b) = rowsB a ++ rowsB b:=by simp [rowsB]
theorem rowB_length (r:R):(rowB r).length = (Lib.uvarint r.1.length).length + r.1.length + (Lib.uvarint r.2.length).length + r.2.length:=by
 simp [rowB,textB]
 omega
def size (rows:List R):Nat:=(snapB rows).length
theorem size_eq (rows:List R):size rows = (Lib.uvarint rows.length).length + (rowsB rows).length:=by simp [size,snapB]
theorem rowsB_len (rows:List R):rows.length * 2<=(rowsB rows).length:=by
 induction rows with
 | nil=>exact Nat.zero_le _
 | cons r rows ih =>
  have h1:=Lib.uvarint_pos r.1.length
  have h2:=Lib.uvarint_pos r.2.length
  rw [rowsB_cons,List.length_append,rowB_length,List.length_cons]
  omega
theorem size_row {rows:List R} {r:R} (h:r ∈ rows):r.1.length + r.2.length<=size rows:=by
 rw [size_eq]
 have h1:(rowB r).length<=(rowsB rows).length:=by
  obtain ⟨a,b,rfl⟩:=List.append_of_mem h
  rw [rowsB_append,rowsB_cons,List.length_append,List.length_append]
  omega
 rw [rowB_length] at h1
 omega
theorem bytes_size (rows:List R):Tb.bytes rows<=size rows:=by
 rw [size_eq]
 have h:∀ l:List R,Tb.bytes l<=(rowsB l).length:=by
  intro l
  induction l with
  | nil=>exact Nat.zero_le _
  | cons r l ih =>
   rw [rowsB_cons,List.length_append,rowB_length,bytes_cons]
   omega
 have:=h rows
 omega
theorem size_len (rows:List R):rows.length * 2 + 1<=size rows:=by
 have h1:=rowsB_len rows
 have h2:=Lib.uvarint_pos rows.length
 rw [size_eq]
 omega
def rowD (most:Int) (fst:Bool) (before l:Txt):Option (R × Nat):=match textD most l with
 | .inl _=>none
 | .inr (k,n)=>if fst = false/\lt before k = false then none else match textD most (l.drop n) with
  | .inl _=>none
  | .inr (v,m)=>some ((k,v),n + m)
def rowsD (most:Int):Nat->Bool->Txt->Txt->Option (List R × Nat)
 | 0,_,_,_=>some ([],0)
 | k + 1,fst,before,l=>match rowD most fst before l with
  | none=>none
  | some (r,n)=>match rowsD most k false r.1 (l.drop n) with
   | none=>none
   | some (rs,m)=>some (r :: rs,n + m)
def snapD (l:Txt):Option (List R):=match varintD l with
 | .inl _=>none
 | .inr (x,n)=>if l.length < x then none else match rowsD l.length x true [] (l.drop n) with
  | none=>none
  | some (rs,m)=>if n + m = l.length then some rs else none
theorem rowD_enc {most:Int} {fst:Bool} {before:Txt} {r:R} (hk:(r.1.length:Int)<=most) (hv:(r.2.length:Int)<=most) (hm:most < 9223372036854775808) (hb:fst = true\/lt before r.1 = true) (t:Txt):rowD most fst before (rowB r ++ t) = some (r,(rowB r).length):=by
 obtain ⟨k,v⟩:=r
 have hk':(k.length:Int)<=most:=hk
 have hv':(v.length:Int)<=most:=hv
 have hb':¬ (fst = false/\lt before k = false):=by
  rintro ⟨e1,e2⟩
  rcases hb with e | e
  ·rw [e] at e1; cases e1
  ·rw [show lt before k = true from e] at e2; cases e2
 have e:rowB (k,v) ++ t = textB k ++ (textB v ++ t):=by simp [rowB]
 rw [e]
 unfold rowD
 rw [textD_enc (by omega) hk']
 simp only
 rw [if_neg hb',List.drop_left,textD_enc (by omega) hv']
 simp [rowB]
theorem rowsD_enc {most:Int} (hm:most < 9223372036854775808) (t:Txt):∀ {rows:List R} {fst:Bool} {before:Txt},Sorted rows->(∀ r ∈ rows,(r.1.length:Int)<=most/\(r.2.length:Int)<=most)->(fst = true\/∀ r ∈ rows,lt before r.1 = true)->rowsD most rows.length fst before (rowsB rows ++ t) = some (rows,(rowsB rows).length)
 | [],_,_,_,_,_=>rfl
 | r :: rows,fst,before,hs,hf,hb=>by
  obtain ⟨h1,h2⟩:=List.pairwise_cons.1 hs
  have hr:=hf r (by simp)
  rw [rowsB_cons,List.append_assoc,List.length_cons,rowsD,rowD_enc hr.1 hr.2 hm (hb.imp id (fun h=>h r (by simp)))]
  simp only
  rw [List.drop_left,rowsD_enc hm t (fst:=false) (before:=r.1) h2 (fun p hp=>hf p (by simp [hp])) (.inr fun p hp=>h1 p hp),List.length_append]
theorem snapD_enc {rows:List R} (hs:Sorted rows) (hl:size rows < 9223372036854775808):snapD (snapB rows) = some rows:=by
 have hz:=size_len rows
 have hr:∀ r ∈ rows,(r.1.length:Int)<=((snapB rows).length:Int)/\(r.2.length:Int)<=((snapB rows).length:Int):=fun r h=>by
  have:=size_row h
  unfold size at this
  omega
 unfold snapD
 rw [show varintD (snapB rows) = .inr (rows.length,(Lib.uvarint rows.length).length) from varintD_uvarint (by omega) _]
 simp only
 rw [if_neg (by unfold size at hz; omega)]
 have hd:(snapB rows).drop (Lib.uvarint rows.length).length = rowsB rows ++ []:=by rw [snapB,List.drop_left,List.append_nil]
 rw [hd,rowsD_enc (by unfold size at hl; omega) [] hs hr (.inl rfl)]
 simp only
 rw [if_pos (by simp [snapB])]
theorem rowD_inv {most:Int} {fst:Bool} {before l:Txt} {r:R} {n:Nat} (h:rowD most fst before l = some (r,n)):n = (rowB r).length/\(∃ t,l = rowB r ++ t)/\(fst = true\/lt before r.1 = true):=by
 unfold rowD at h
 split at h
 ·cases h
 ·rename_i k m hk
  obtain ⟨rfl,t,rfl⟩:=textD_inv hk
  split at h
  ·cases h
  ·rename_i hlt
   have hlt':fst = true\/lt before k = true:=by
    cases fst with
    | true=>exact .inl rfl
    | false =>
     cases e:lt before k with
     | true=>exact .inr rfl
     | false=>exact absurd ⟨rfl,e⟩ hlt
   rw [List.drop_left] at h
   split at h
   ·cases h
   ·rename_i v m hv
    obtain ⟨rfl,t',rfl⟩:=textD_inv hv
    simp only [Option.some.injEq,Prod.mk.injEq] at h
    obtain ⟨rfl,rfl⟩:=h
    exact ⟨by simp [rowB],⟨t',by simp [rowB]⟩,hlt'⟩
theorem rowsD_inv {most:Int}:∀ {k:Nat} {fst:Bool} {before l:Txt} {rs:List R} {m:Nat},rowsD most k fst before l = some (rs,m)->rs.length = k/\m = (rowsB rs).length/\(∃ t,l = rowsB rs ++ t)/\Sorted rs/\(fst = true\/∀ r ∈ rs,lt before r.1 = true)
 | 0,_,_,l,rs,m,h=>by
  simp only [rowsD,Option.some.injEq,Prod.mk.injEq] at h
  obtain ⟨rfl,rfl⟩:=h
  exact ⟨rfl,rfl,⟨l,rfl⟩,List.Pairwise.nil,.inr fun r hr=>by cases hr⟩
 | k + 1,fst,before,l,rs,m,h=>by
  unfold rowsD at h
  split at h
  ·cases h
  ·rename_i r n hr
   split at h
   ·cases h
   ·rename_i rs' m' hrs
    simp only [Option.some.injEq,Prod.mk.injEq] at h
    obtain ⟨rfl,rfl⟩:=h
    obtain ⟨rfl,⟨t,rfl⟩,hb⟩:=rowD_inv hr
    rw [List.drop_left] at hrs
    obtain ⟨rfl,rfl,⟨t',rfl⟩,hn,hb'⟩:=rowsD_inv hrs
    have hb2:∀ p ∈ rs',lt r.1 p.1 = true:=hb'.resolve_left (by simp)
    refine ⟨rfl,by rw [rowsB_cons,List.length_append],⟨t',by rw [rowsB_cons,List.append_assoc]⟩,List.pairwise_cons.2 ⟨hb2,hn⟩,hb.imp id fun h p hp=>?_⟩
    rcases List.mem_cons.1 hp with rfl | hp
    ·exact h
    ·exact lt_trans h (hb2 p hp)
theorem snapD_inv {l:Txt} {rows:List R} (h:snapD l = some rows):Sorted rows/\snapB rows = l:=by
 unfold snapD at h
 split at h
 ·cases h
 ·rename_i x n hx
  obtain ⟨_,rfl,t,rfl⟩:=varintD_inv hx
  rw [List.drop_left] at h
  split at h
  ·cases h
  ·split at h
   ·cases h
   ·rename_i rs m hr
    obtain ⟨rfl,rfl,⟨t',rfl⟩,hn,_⟩:=rowsD_inv hr
    split at h
    ·rename_i hl
     injection h with h
     subst h
     refine ⟨hn,?_⟩
     have:t' = []:=by
      rw [List.length_append,List.length_append] at hl
      exact List.eq_nil_of_length_eq_zero (by omega)
     subst this
     simp [snapB]
    ·cases h
end Go.Proofs.YthjjfjhajadimaaGreatDoor.So
namespace Go.Proofs.YthjjfjhajadimaaGreatDoor.Tb
set_option maxRecDepth 100000
theorem ofL_sub (rows:List R):∀ x ∈ ofL rows,x ∈ rows:=by
 intro x hx
 have h1:=(get_some (ofL_sorted rows) (k:=x.1) (v:=x.2)).2 hx
 rw [get_ofL] at h1
 unfold lastOf get at h1
 obtain ⟨y,hy,he⟩:=Option.map_eq_some_iff.1 h1
 have h2:=List.find?_some hy
 have h3:=List.mem_of_find?_eq_some hy
 have h4:y.1 = x.1:=by simpa using h2
 have h5:y = x:=Prod.ext h4 he
 rw [<- h5]
 simpa using h3
theorem get_ext {l m:List R} (hl:Sorted l) (hm:Sorted m) (h:∀ k,get l k = get m k):l = m :=
 sorted_ext hl hm fun x=>by rw [show x = (x.1,x.2) from rfl,<- get_some hl,<- get_some hm,h]
theorem place_end:∀ {l:List R} {k:Txt},(∀ x ∈ l,lt x.1 k = true)->place l k = l.length
 | [],_,_=>rfl
 | r :: l,k,h=>by rw [place,if_pos (h r (by simp)),place_end (fun x hx=>h x (by simp [hx])),List.length_cons]
theorem del_none {l:List R} {k:Txt} (h:∀ x ∈ l,x.1 ≠ k):del l k = l:=List.filter_eq_self.2 (fun x hx=>by simpa using h x hx)
theorem put_end {l:List R} {k v:Txt} (h:∀ x ∈ l,lt x.1 k = true):put l k v = l ++ [(k,v)]:=by
 unfold put ins
 rw [del_none (fun x hx=>lt_ne (h x hx)),place_end h,List.take_length,List.drop_length]
theorem ofL_id:∀ (l:List R),Sorted l->ofL l = l:=by
 intro l h
 generalize hr:l.reverse = rev
 induction rev generalizing l with
 | nil =>
  obtain rfl:l = []:=by simpa using hr
  rfl
 | cons a rev ih =>
  obtain rfl:l = rev.reverse ++ [a]:=by simpa using congrArg List.reverse hr
  obtain ⟨h1,_,h3⟩:=List.pairwise_append.1 h
  rw [ofL_snoc,ih rev.reverse h1 (by simp),put_end (fun x hx=>h3 x hx a (by simp))]
theorem lastOf_sorted {l:List R} (h:Sorted l) (k:Txt):lastOf l k = get l k:=by rw [<- get_ofL,ofL_id l h]
theorem lastOf_ofL (rows:List R) (k:Txt):lastOf (ofL rows) k = lastOf rows k:=by rw [lastOf_sorted (ofL_sorted rows),get_ofL]
theorem lastOf_snoc (l:List R) (r:R) (k:Txt):lastOf (l ++ [r]) k = if r.1 = k then some r.2 else lastOf l k:=by
 unfold lastOf get
 rw [List.reverse_append]
 simp only [List.reverse_cons,List.reverse_nil,List.nil_append,List.singleton_append,List.find?_cons]
 by_cases h:r.1 = k
 ·simp [h]
 ·have e:(r.1 == k) = false:=by simpa using h
  simp only [e,if_neg h]
end Go.Proofs.YthjjfjhajadimaaGreatDoor.Tb
namespace Go.Proofs.YthjjfjhajadimaaGreatDoor.Bt
open Go.Proofs.YthjjfjhajadimaaGreatDoor.Tb
set_option maxRecDepth 100000
structure O where
 del:Bool
 key:Txt
 val:Txt
def clean (o:O):O:=⟨o.del,o.key,if o.del then [] else o.val⟩
def code (o:O):R:=(o.key,if o.del then [1] else 0 :: o.val)
def isDel (v:Txt):Bool:=v.head? == some 1
def dec (r:R):O:=⟨isDel r.2,r.1,if isDel r.2 then [] else r.2.tail⟩
theorem dec_code (o:O):dec (code o) = clean o:=by
 obtain ⟨d,k,v⟩:=o
 cases d <;> rfl
theorem code_clean (o:O):code (clean o) = code o:=by
 obtain ⟨d,k,v⟩:=o
 cases d <;> rfl
theorem code_dec_code (o:O):code (dec (code o)) = code o:=by rw [dec_code,code_clean]
theorem clean_clean (o:O):clean (clean o) = clean o:=by
 obtain ⟨d,k,v⟩:=o
 cases d <;> rfl
def codes (ops:List O):List R:=ops.map code
def normal (ops:List O):List O:=(ofL (codes ops)).map dec
structure Norm (ops:List O):Prop where
 rise:Sorted (codes ops)
 clean:∀ o ∈ ops,clean o = o
theorem codes_normal (ops:List O):codes (normal ops) = ofL (codes ops):=by
 unfold normal codes
 rw [List.map_map]
 conv=>rhs; rw [<- List.map_id (ofL (ops.map code))]
 refine List.map_congr_left fun x hx=>?_
 obtain ⟨o,_,rfl⟩:=List.mem_map.1 (ofL_sub _ x hx)
 exact code_dec_code o
theorem normal_mem {ops:List O} {o:O} (h:o ∈ normal ops):∃ p ∈ ops,clean p = o:=by
 obtain ⟨r,hr,rfl⟩:=List.mem_map.1 h
 obtain ⟨p,hp,rfl⟩:=List.mem_map.1 (ofL_sub _ r hr)
 exact ⟨p,hp,(dec_code p).symm⟩
theorem normal_norm (ops:List O):Norm (normal ops):=⟨by rw [codes_normal]; exact ofL_sorted _,fun o ho=>by
 obtain ⟨p,_,rfl⟩:=normal_mem ho
 exact clean_clean p⟩
theorem normal_length (ops:List O):(normal ops).length<=ops.length:=by
 have:=ofL_length (codes ops)
 simpa [normal,codes] using this
theorem codes_append (a b:List O):codes (a ++ b) = codes a ++ codes b:=List.map_append
def doOp (l:List R) (o:O):List R:=if o.del then Tb.del l o.key else put l o.key o.val
def apply (l:List R) (ops:List O):List R:=ops.foldl doOp l
theorem doOp_sorted {l:List R} (h:Sorted l) (o:O):Sorted (doOp l o):=by
 unfold doOp
 split
 ·exact del_sorted h _
 ·exact put_sorted h _ _
theorem apply_snoc (l:List R) (ops:List O) (o:O):apply l (ops ++ [o]) = doOp (apply l ops) o:=by simp [apply]
theorem apply_sorted:∀ (ops:List O) {l:List R},Sorted l->Sorted (apply l ops)
 | [],_,h=>h
 | o :: ops,_,h=>apply_sorted ops (doOp_sorted h o)
theorem get_doOp {l:List R} (h:Sorted l) (o:O) (k:Txt):get (doOp l o) k = if o.key = k then (if o.del then none else some o.val) else get l k:=by
 unfold doOp
 by_cases hk:o.key = k
 ·subst hk
  rw [if_pos rfl]
  split
  ·rw [get_del h,if_pos rfl]
  ·exact get_put_same h _ _
 ·rw [if_neg hk]
  split
  ·rw [get_del h,if_neg (fun e=>hk e.symm)]
  ·exact get_put_other h (fun e=>hk e.symm)
def word (was:Option Txt):Option Txt->Option Txt
 | none=>was
 | some c=>if isDel c then none else some c.tail
theorem get_apply {l:List R} (h:Sorted l) (ops:List O) (k:Txt):get (apply l ops) k = word (get l k) (lastOf (codes ops) k):=by
 generalize hr:ops.reverse = rev
 induction rev generalizing ops with
 | nil =>
  obtain rfl:ops = []:=by simpa using hr
  rfl
 | cons a rev ih =>
  obtain rfl:ops = rev.reverse ++ [a]:=by simpa using congrArg List.reverse hr
  rw [apply_snoc,get_doOp (apply_sorted _ h),codes_append,show codes [a] = [code a] from rfl,lastOf_snoc]
  by_cases hk:a.key = k
  ·rw [if_pos hk,if_pos (show (code a).1 = k from hk)]
   obtain ⟨d,k',v⟩:=a
   cases d <;> rfl
  ·rw [if_neg hk,if_neg (show ¬ (code a).1 = k from hk)]
   exact ih rev.reverse (by simp)
theorem apply_normal {l:List R} (h:Sorted l) (ops:List O):apply l (normal ops) = apply l ops :=
 get_ext (apply_sorted _ h) (apply_sorted _ h) fun k=>by rw [get_apply h,get_apply h,codes_normal,lastOf_ofL]
theorem ofL_puts (rows:List R):apply [] (rows.map fun r=>⟨false,r.1,r.2⟩) = ofL rows:=by
 unfold apply ofL
 rw [List.foldl_map]
 rfl
theorem Norm.next {ops:List O} (hn:Norm ops) {k:Nat} {a b:O} (ha:ops[k]? = some a) (hb:ops[k + 1]? = some b):lt a.key b.key = true :=
 sorted_next hn.rise (k:=k) (a:=code a) (b:=code b) (by simp [codes,ha]) (by simp [codes,hb])
theorem sorted_head {x:R} {l:List R} (h:Sorted (x :: l)):(∀ y ∈ l,lt x.1 y.1 = true)/\Sorted l:=List.pairwise_cons.1 h
theorem rise_cons {o:O} {l:List O} (h1:∀ p ∈ l,lt o.key p.key = true) (h2:Sorted (codes l)):Sorted (codes (o :: l)):=List.pairwise_cons.2 ⟨fun r hr=>by
 obtain ⟨p,hp,rfl⟩:=List.mem_map.1 hr
 exact h1 p hp,h2⟩
end Go.Proofs.YthjjfjhajadimaaGreatDoor.Bt
