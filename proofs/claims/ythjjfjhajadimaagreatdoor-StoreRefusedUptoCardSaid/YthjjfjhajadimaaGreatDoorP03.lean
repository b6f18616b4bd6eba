/-
  Joined: Own, DSpec, GDisk, VSpec.
-/
import Derived.Lib.FrozenHead
import Derived.Below
import Derived.WalkKit
import Derived.Lib.Hide
import Derived.Deep.QuietTactic
import Derived.BigQuiet
import Derived.Test.YthjjfjhajadimaaGreatDoorProg
import Derived.Test.YthjjfjhajadimaaGreatDoorP02
namespace Go.Proofs.YthjjfjhajadimaaGreatDoor
open Go.RowKit
structure Keeps (S:Nat->Prop) (w w':World):Prop where
 os:w'.os = w.os
 tape:w'.tape = w.tape
 output:w'.output = w.output
 size:w.heap.size<=w'.heap.size
 block:∀ k,k < w.heap.size->¬ S k->w'.heap[k]? = w.heap[k]?
theorem Keeps.refl (S:Nat->Prop) (w:World):Keeps S w w:=⟨rfl,rfl,rfl,Nat.le_refl _,fun _ _ _=>rfl⟩
theorem Keeps.trans {S T:Nat->Prop} {a b c:World} (h:Keeps S a b) (k:Keeps T b c) (hT:∀ i,i < a.heap.size->T i->S i):Keeps S a c :=
 ⟨k.os.trans h.os,k.tape.trans h.tape,k.output.trans h.output,Nat.le_trans h.size k.size,fun i hi hn =>
  (k.block i (Nat.lt_of_lt_of_le hi h.size) (fun t=>hn (hT i hi t))).trans (h.block i hi hn)⟩
theorem Keeps.mono {S T:Nat->Prop} {w w':World} (h:Keeps S w w') (hT:∀ i,i < w.heap.size->S i->T i):Keeps T w w' :=
 ⟨h.os,h.tape,h.output,h.size,fun i hi hn=>h.block i hi (fun s=>hn (hT i hi s))⟩
theorem Keeps.drew {S:Nat->Prop} {a w:World} (h:Keeps S a w):Keeps S a w.drew:=⟨h.os,h.tape,h.output,h.size,h.block⟩
theorem Keeps.drewN {S:Nat->Prop} {a w:World} (h:Keeps S a w) (n:Nat):Keeps S a (w.drewN n):=⟨h.os,h.tape,h.output,h.size,h.block⟩
theorem Keeps.alloc {S:Nat->Prop} {a w:World} (h:Keeps S a w) (o:Obj):Keeps S a (w.alloc o) :=
 h.trans (T:=fun _=>False) ⟨rfl,rfl,rfl,by simp,fun k hk _=>Below.heap_alloc _ _ _ hk⟩ (fun _ _ h=>h.elim)
theorem Keeps.setCell {S:Nat->Prop} {a w:World} (h:Keeps S a w) {p:Addr} (hp:p.block < a.heap.size->S p.block) (u:Value):Keeps S a (w.setCell p u) :=
 h.trans (T:=fun k=>k = p.block) ⟨rfl,rfl,rfl,by simp [World.setCell],fun k _ hn=>Below.heap_setCell _ _ _ _ hn⟩ (fun i hi e=>by subst e; exact hp hi)
theorem Keeps.grown {S:Nat->Prop} {a w w':World} {row:Option Nat} (h:Keeps S a w) (hg:w.grownBy w' row) (hr:∀ k,k < a.heap.size->some k = row->S k):Keeps S a w' :=
 h.trans (T:=fun k=>some k = row) ⟨hg.os,hg.tape,hg.output,hg.size,fun k hk hn=>hg.block k hk hn⟩ hr
theorem Keeps.freeze {S:Nat->Prop} {a w:World} (h:Keeps S a w) {p:Addr} (hp:p.block < a.heap.size->S p.block) (n:Nat):Keeps S a (w.freeze p n):=by
 refine h.trans (T:=fun k=>k = p.block) ?_ (fun i hi e=>by subst e; exact hp hi)
 unfold World.freeze
 split
 ·exact Keeps.refl _ _
 ·refine ⟨rfl,rfl,rfl,by simp,fun k _ hn=>?_⟩
  simp only [Array.getElem?_modify]
  rw [if_neg (fun e=>hn e.symm)]
theorem Keeps.cell {S:Nat->Prop} {w w':World} (h:Keeps S w w') {p:Addr} (hp:p.block < w.heap.size) (hn:¬ S p.block):w'.cell? p = w.cell? p:=World.cell?_of_block (w:=w) (h.block p.block hp hn)
theorem Keeps.below {S:Nat->Prop} {B:Nat} {w w':World} (h:Keeps S w w') (hB:B<=w.heap.size) (hS:∀ k,k < B->¬ S k):Below B w w' :=
 ⟨h.os,h.tape,h.output,h.size,fun k hk=>h.block k (by omega) (hS k hk)⟩
theorem Keeps.of_below {B:Nat} {w w':World} (h:Below B w w'):Keeps (fun k=>B<=k) w w' :=
 ⟨h.os,h.tape,h.output,h.size,fun k _ hn=>h.block k (by omega)⟩
theorem lt_of_block {w:World} {b:Nat} {o:Obj} (h:w.heap[b]? = some o):b < w.heap.size:=(Array.getElem?_eq_some_iff.1 h).1
theorem ownsRowF_kept {S:Nat->Prop} {w w':World} {base:Nat} {e:TypeId} {size:Nat} {v:Value} {n:Nat} {xs:List Value} (h:w.ownsRowF base e size v n xs) (hk:Keeps S w w') (hn:∀ k,v.ownBlock = some k->¬ S k):w'.ownsRowF base e size v n xs:=by
 refine ⟨h.1,?_⟩
 rcases h.2 with h2 | ⟨g,cap,cur,fz,rfl,hb,hg,rest⟩
 ·exact .inl h2
 ·exact .inr ⟨g,cap,cur,fz,rfl,hb,by rw [hk.block g (lt_of_block hg) (hn g rfl)]; exact hg,rest⟩
theorem ownsRowF_lt {w:World} {base:Nat} {e:TypeId} {size:Nat} {v:Value} {n:Nat} {xs:List Value} (h:w.ownsRowF base e size v n xs) {k:Nat} (hk:v.ownBlock = some k):k < w.heap.size:=(h.lt k hk).2
def Later (w:World) (r r':Option Nat):Prop:=r' = r\/∃ g,r' = some g/\w.heap.size<=g
theorem Later.refl (w:World) (r:Option Nat):Later w r r:=.inl rfl
theorem Later.trans {w w1:World} {r r1 r2:Option Nat} (h:Later w r r1) (hs:w.heap.size<=w1.heap.size) (k:Later w1 r1 r2):Later w r r2:=by
 rcases k with rfl | ⟨g,rfl,hg⟩
 ·exact h
 ·exact .inr ⟨g,rfl,by omega⟩
theorem Later.of_le {w w1:World} {r r1:Option Nat} (h:Later w1 r r1) (hs:w.heap.size<=w1.heap.size):Later w r r1:=(Later.refl w r).trans hs h
section
variable {P:Program} (w:World)
theorem run_append_roomF (t ty e:TypeId) (i:TypeInfo) (ht:P.underlying t = some (.slice e)) (hi:P.info? e = some i)
  (g sLen sCap:Nat) (cur:Array Value) (fz:Nat × Nat) (hg:w.heap[g]? = some (.cells cur e fz)) (hfz:fz.2<=sLen * i.size)
  (a:Addr) (m c:Nat) (news:List Value) (hl:news.length = m * i.size) (hnews:∀ j u,news[j]? = some u->w.cell? (a.add j) = some u) (h1:∀ u ∈ news,u.oneCell' = true)
  (hroom:sLen + m<=sCap) (hfit:sLen * i.size + news.length<=cur.size) :
  (Builtin.append_ #[t,t] ty #[.slice (some ⟨g,0,none⟩) sLen sCap,.slice (some a) m c]).run P w =
   .ok (.slice (some ⟨g,0,none⟩) (sLen + m) sCap) (w.setRow g (cur.toList.take (sLen * i.size) ++ news ++ cur.toList.drop (sLen * i.size + news.length)).toArray):=by
 have hf:=run_firstCells_some (P:=P) w i.size m a m c news hl hnews
 have hst:=run_storeCells_atF P g (sLen * i.size) e fz news 0 cur w hg (by simpa using hfz) (by simpa using hfit) h1
 simp only [Nat.add_zero] at hst
 simp [Builtin.append_,run_underlying ht,sizeOf,typeInfo,hi,Builtin.lenOf,hroom,hf,Addr.add_lit,hst]
theorem run_append_cellsF (t ty e:TypeId) (i:TypeInfo) (z:Value) (size bytes:Nat) (ht:P.underlying t = some (.slice e)) (hi:P.info? e = some i) (hz:i.zero = some z)
  (hsize:i.size = size) (hby:i.bytes = bytes) (hzs:z.cells.size = size) (hsz:0 < size)
  (v:Value) (n:Nat) (xs:List Value) (hown:w.ownsRowF 0 e size v n xs)
  (a:Addr) (m c:Nat) (news:List Value) (hl:news.length = m * size) (hnews:∀ j u,news[j]? = some u->w.cell? (a.add j) = some u) (h1:∀ u ∈ news,u.oneCell' = true)
  (h63:n + m<=maxLen) (hbytes:(n + m) * bytes<=140737488355328) :
  ∃ v' w',(Builtin.append_ #[t,t] ty #[v,.slice (some a) m c]).run P w = .ok v' w'/\w'.ownsRowF 0 e size v' (n + m) (xs ++ news)/\w.grownBy w' v.ownBlock/\Later w v.ownBlock v'.ownBlock /\
   (v' = .slice none 0 0 ↔ v = .slice none 0 0/\m = 0):=by
 subst hsize
 subst hby
 have hsmall:n + m<=9223372036854775807:=by simp only [maxLen] at h63; omega
 have hlen:(xs ++ news).length = (n + m) * i.size:=by rw [List.length_append,hown.1,hl,Nat.add_mul]
 have grown:∀ (old:Nat),old < n + m->∀ (row:Option Nat),
   (w.drew.alloc (.cells (xs.toArray ++ news.toArray ++ Builtin.zeroCells z.cells (grownCap w (n + m) old e - (n + m))) e)).ownsRowF 0 e i.size
    (.slice (some ⟨w.heap.size,0,none⟩) (n + m) (grownCap w (n + m) old e)) (n + m) (xs ++ news) /\
   w.grownBy (w.drew.alloc (.cells (xs.toArray ++ news.toArray ++ Builtin.zeroCells z.cells (grownCap w (n + m) old e - (n + m))) e)) row:=by
  intro old ho row
  have hge:=grownCap_ge w (n + m) old e
  have hcm:grownCap w (n + m) old e<=maxLen:=grownCap_le_maxLen w (n + m) old e h63
  refine ⟨⟨hlen,.inr ⟨w.heap.size,_,_,(0,0),rfl,Nat.zero_le _,heap_alloc_new w.drew _,Nat.zero_le _,hge,hcm,?_,?_⟩⟩,⟨rfl,rfl,rfl,by simp,fun k hk _=>Below.heap_alloc w.drew _ k hk⟩⟩
  ·simp only [Array.size_append,List.size_toArray,size_zeroCells,hzs,hown.1,hl,<- Nat.add_mul]
   congr 1
   omega
  ·simp only [Array.toList_append,List.append_assoc]
   rw [<- List.append_assoc,<- hlen]
   exact List.take_left
 rcases hown.2 with ⟨rfl,rfl⟩ | ⟨g,cap,cur,fz,rfl,hbg,hg,hfz,hnc,hcm,hcs,htake⟩
 ·have hx:xs = []:=List.eq_nil_of_length_eq_zero (by simpa using hown.1)
  subst hx
  by_cases hm:m = 0
  ·subst hm
   have hn:news = []:=List.eq_nil_of_length_eq_zero (by simpa using hl)
   subst hn
   refine ⟨.slice none 0 0,w,?_,World.ownsRowF_nil w 0 e i.size,⟨rfl,rfl,rfl,Nat.le_refl _,fun _ _ _=>rfl⟩,.inl rfl,by simp⟩
   simp [Builtin.append_,run_underlying ht,sizeOf,typeInfo,hi,Builtin.lenOf,Builtin.firstCells,loadCells,loadCellsFrom]
  ·have hr:=run_append_nil (P:=P) w t ty e i z ht hi hz a m c news hl hnews (by omega) (by omega) (by have hb:=hbytes; simp only [Nat.zero_add] at hb; omega)
   have hgr:=grown 0 (by omega) (Value.ownBlock (.slice none 0 0))
   simp only [Nat.zero_add,List.nil_append,Array.empty_append] at hgr ⊢
   exact ⟨_,_,hr,hgr.1,hgr.2,.inr ⟨_,rfl,Nat.le_refl _⟩,by simp [hm]⟩
 ·by_cases hroom:n + m<=cap
  ·have hfit:n * i.size + news.length<=cur.size:=by rw [hl,hcs,<- Nat.add_mul]; exact Nat.mul_le_mul_right _ hroom
   have hr:=run_append_roomF (P:=P) w t ty e i ht hi g n cap cur fz hg hfz a m c news hl hnews h1 hroom hfit
   refine ⟨_,_,hr,⟨hlen,.inr ⟨g,cap,_,fz,rfl,hbg,setRow_heap w g cur _ e _ hg,?_,hroom,hcm,?_,?_⟩⟩,⟨rfl,rfl,rfl,by simp,fun k _ hk=>setRow_other w g k _ (fun e=>hk (by simp [Value.ownBlock,e]))⟩,.inl rfl,by simp⟩
   ·rw [Nat.add_mul]; omega
   ·simp only [List.size_toArray,List.length_append,List.length_take,List.length_drop,Array.length_toList]
    omega
   ·rw [htake,<- hlen]
    exact List.take_left
  ·have holds:∀ j u,xs[j]? = some u->w.cell? ((⟨g,0,none⟩:Addr).add j) = some u:=hown.cells (g:=g) rfl
   have hr:=run_append_grow (P:=P) w t ty e i z ht hi hz ⟨g,0,none⟩ n cap xs hown.1 holds a m c news hl hnews (by omega) (by omega) (growslice_fits (by omega) hbytes)
   have hgr:=grown cap (by omega) (Value.ownBlock (.slice (some ⟨g,0,none⟩) n cap))
   exact ⟨_,_,hr,hgr.1,hgr.2,.inr ⟨_,rfl,Nat.le_refl _⟩,by simp⟩
theorem wpList_append_cellsF {ops:Array Oper} {rest:List Oper} {o:Oper} {a:Act} {Q:Exit->Act->World->Prop} (hgd:o.guard = none) (s x:Operand) (t:TypeId)
  (ho:o.op = .call { callee:=.builtin .append,args:=#[s,x],argTypes:=#[t,t] })
  (e:TypeId) (i:TypeInfo) (z:Value) (size bytes:Nat) (ht:P.underlying t = some (.slice e)) (hi:P.info? e = some i) (hz:i.zero = some z)
  (hsize:i.size = size) (hby:i.bytes = bytes) (hzs:z.cells.size = size) (hsz:0 < size)
  (v:Value) (n:Nat) (xs:List Value) (hs:a.eval s = v) (hown:w.ownsRowF 0 e size v n xs)
  (ad:Addr) (m c:Nat) (news:List Value) (hx:a.eval x = .slice (some ad) m c) (hl:news.length = m * size) (hnews:∀ j u,news[j]? = some u->w.cell? (ad.add j) = some u) (h1:∀ u ∈ news,u.oneCell' = true)
  (h63:n + m<=maxLen) (hbytes:(n + m) * bytes<=140737488355328)
  (h:∀ v' w',w'.ownsRowF 0 e size v' (n + m) (xs ++ news)->w.grownBy w' v.ownBlock->Later w v.ownBlock v'.ownBlock->(v' = .slice none 0 0 ↔ v = .slice none 0 0/\m = 0)->wpList P ops Q rest (a.put o.dst v') w'):wpList P ops Q (o :: rest) a w:=by
 refine wpList_plain hgd fun K hK=>?_
 obtain ⟨v',w',hr,h2,h3,h4,h5⟩:=run_append_cellsF (P:=P) w t o.type e i z size bytes ht hi hz hsize hby hzs hsz v n xs hown ad m c news hl hnews h1 h63 hbytes
 unfold Oper.wp execOp
 simp only [ho,resolve,invoke,builtin,Sem.run_bind,Sem.run_pure,Result.andThen_ok,List.map_toArray,List.map_cons,List.map_nil,hs,hx,hr]
 exact hK _ _ (h v' w' h2 h3 h4 h5)
theorem run_append_strF (t u ty e:TypeId) (i:TypeInfo) (ht:P.underlying t = some (.slice e)) (hu:P.underlying u = some .string) (hi:P.info? e = some i) (hz:i.zero = some (.int .u8 0))
  (hsize:i.size = 1) (hby:i.bytes = 1)
  (v:Value) (n:Nat) (xs:List Value) (hown:w.ownsRowF 0 e 1 v n xs) (s:ByteArray)
  (h63:n + s.size<=maxLen) (hbytes:n + s.size<=140737488355328) :
  ∃ v' w',(Builtin.append_ #[t,u] ty #[v,.string s]).run P w = .ok v' w'/\w'.ownsRowF 0 e 1 v' (n + s.size) (xs ++ Lib.strCells s)/\w.grownBy w' v.ownBlock/\Later w v.ownBlock v'.ownBlock /\
   (v' = .slice none 0 0 ↔ v = .slice none 0 0/\s.size = 0):=by
 have hsmall:n + s.size<=9223372036854775807:=by simp only [maxLen] at h63; omega
 have hxl:xs.length = n:=by simpa using hown.1
 have hlen:(xs ++ Lib.strCells s).length = (n + s.size) * 1:=by rw [List.length_append,hxl,Lib.strCells_length,Nat.mul_one]
 rcases hown.2 with ⟨rfl,rfl⟩ | ⟨g,cap,cur,fz,rfl,hbg,hg,hfz,hnc,hcm,hcs,htake⟩
 ·have hx:xs = []:=List.eq_nil_of_length_eq_zero hxl
  subst hx
  -- the row is new: the elder law with the heap's size for its base
  obtain ⟨v',w',h1,h2,h3,h4⟩:=Lib.run_append_own_stringF (P:=P) w w.heap.size t u ty e i ht hu hi hz hsize hby (.slice none 0 0) 0 [] ⟨by simp,.inl ⟨rfl,rfl⟩⟩ s h63 hbytes (Nat.le_refl _)
  refine ⟨v',w',h1,⟨h2.1,?_⟩,h3,?_,h4⟩
  ·rcases h2.2 with q | ⟨g,cap,cur,fz,hv,_,q⟩
   ·exact .inl q
   ·exact .inr ⟨g,cap,cur,fz,hv,Nat.zero_le _,q⟩
  ·rcases h2.2 with ⟨rfl,_⟩ | ⟨g,cap,cur,fz,rfl,hb,q⟩
   ·exact .inl rfl
   ·exact .inr ⟨g,rfl,hb⟩
 ·by_cases hroom:n + s.size<=cap
  ·have hcs':cur.size = cap:=by simpa using hcs
   have hr:=Lib.run_append_room_stringF (P:=P) w t u ty e i ht hu hi hsize g n cap cur fz hg (by simpa using hfz) s hroom (by omega)
   refine ⟨_,_,hr,⟨hlen,.inr ⟨g,cap,_,fz,rfl,hbg,setRow_heap w g cur _ e _ hg,by omega,hroom,hcm,?_,?_⟩⟩,⟨rfl,rfl,rfl,by simp,fun k _ hk=>setRow_other w g k _ (fun e=>hk (by simp [Value.ownBlock,e]))⟩,.inl rfl,by simp⟩
   ·simp only [List.size_toArray,List.length_append,List.length_take,List.length_drop,Array.length_toList,Lib.strCells_length]
    omega
   ·have ht':cur.toList.take n = xs:=by simpa using htake
    rw [ht',<- hlen]
    exact List.take_left
  ·have holds:∀ j u,xs[j]? = some u->w.cell? ((⟨g,0,none⟩:Addr).add j) = some u:=hown.cells (g:=g) rfl
   have hr:=Lib.run_append_grow_string (P:=P) w t u ty e i (.int .u8 0) ht hu hi hz ⟨g,0,none⟩ n cap xs (by rw [hsize]; simpa using hxl) holds s (by omega) (by omega) (by rw [hby]; exact growslice_fits (by omega) (by omega))
   have hge:=grownCap_ge w (n + s.size) cap e
   have hcm2:grownCap w (n + s.size) cap e<=maxLen:=grownCap_le_maxLen w (n + s.size) cap e h63
   refine ⟨_,_,hr,⟨hlen,.inr ⟨w.heap.size,_,_,(0,0),rfl,Nat.zero_le _,heap_alloc_new w.drew _,Nat.zero_le _,hge,hcm2,?_,?_⟩⟩,⟨rfl,rfl,rfl,by simp,fun k hk _=>Below.heap_alloc w.drew _ k hk⟩,.inr ⟨_,rfl,Nat.le_refl _⟩,by simp⟩
   ·have hz1:(Value.int IntKind.u8 0).cells.size = 1:=rfl
    simp only [Array.size_append,List.size_toArray,size_zeroCells,hz1,hxl,Lib.strCells_length]
    omega
   ·simp only [Array.toList_append,List.append_assoc]
    rw [<- List.append_assoc,<- hlen]
    exact List.take_left
theorem wpList_append_strF {ops:Array Oper} {rest:List Oper} {o:Oper} {a:Act} {Q:Exit->Act->World->Prop} (hgd:o.guard = none) (sl x:Operand) (t u:TypeId)
  (ho:o.op = .call { callee:=.builtin .append,args:=#[sl,x],argTypes:=#[t,u] })
  (e:TypeId) (i:TypeInfo) (ht:P.underlying t = some (.slice e)) (hu:P.underlying u = some .string) (hi:P.info? e = some i) (hz:i.zero = some (.int .u8 0))
  (hsize:i.size = 1) (hby:i.bytes = 1)
  (v:Value) (n:Nat) (xs:List Value) (hs:a.eval sl = v) (hown:w.ownsRowF 0 e 1 v n xs) (s:ByteArray) (hx:a.eval x = .string s)
  (h63:n + s.size<=maxLen) (hbytes:n + s.size<=140737488355328)
  (h:∀ v' w',w'.ownsRowF 0 e 1 v' (n + s.size) (xs ++ Lib.strCells s)->w.grownBy w' v.ownBlock->Later w v.ownBlock v'.ownBlock->(v' = .slice none 0 0 ↔ v = .slice none 0 0/\s.size = 0)->wpList P ops Q rest (a.put o.dst v') w'):wpList P ops Q (o :: rest) a w:=by
 refine wpList_plain hgd fun K hK=>?_
 obtain ⟨v',w',hr,h2,h3,h4,h5⟩:=run_append_strF (P:=P) w t u o.type e i ht hu hi hz hsize hby v n xs hown s h63 hbytes
 unfold Oper.wp execOp
 simp only [ho,resolve,invoke,builtin,Sem.run_bind,Sem.run_pure,Result.andThen_ok,List.map_toArray,List.map_cons,List.map_nil,hs,hx,hr]
 exact hK _ _ (h v' w' h2 h3 h4 h5)
theorem wpList_store_row {ops:Array Oper} {rest:List Oper} {op:Oper} {a:Act} {Q:Exit->Act->World->Prop} (hgd:op.guard = none) (ty:TypeId) (x y:Operand) (ho:op.op = .store ty x y)
  (b:Nat) (cells old:Array Value) (t:TypeId) (hx:a.eval x = .pointer (some ⟨b,0,none⟩)) (hy:a.eval y = .agg cells)
  (hb:w.heap[b]? = some (.cells old t (0,0))) (hi:(P.info? ty).map (·.size) = some cells.size) (hs:old.size = cells.size) (h1:cells.all (·.oneCell') = true)
  (h:wpList P ops Q rest (a.put op.dst undef) (w.setRow b cells)):wpList P ops Q (op :: rest) a w:=by
 refine wpList_plain hgd fun K hK=>?_
 unfold Oper.wp execOp
 simp only [ho,hx,hy,Instr.storeAt,Instr.sureAddr,Sem.run_bind,Sem.run_pure,Result.andThen_ok,run_storeVar_row (P:=P) w b t ty old cells hb hi hs h1]
 exact hK _ _ h
theorem Keeps.setRow {S:Nat->Prop} {a w:World} (h:Keeps S a w) {g:Nat} (hg:g < a.heap.size->S g) (cs:Array Value):Keeps S a (w.setRow g cs) :=
 h.trans (T:=fun k=>k = g) ⟨rfl,rfl,rfl,by simp,fun k _ hn=>setRow_other w g k cs hn⟩ (fun i hi e=>by subst e; exact hg hi)
end
end Go.Proofs.YthjjfjhajadimaaGreatDoor
namespace Go.Proofs.YthjjfjhajadimaaGreatDoor
set_option maxRecDepth 100000
structure DS where
 dur:List (List UInt8)
 ways:List (Nat × List UInt8)
 armed:Int
 off:Bool
 wr:Nat
 fl:Nat
 cr:Nat
structure FT where
 kept:List Bool
 torn:Int
 bytes:Int
structure DS.Ok (d:DS):Prop where
 pos:1<=d.dur.length
 le:d.dur.length<=65536
 each:∀ (i:Nat) (s:List UInt8),d.dur[i]? = some s->s.length = 256
 way:∀ (k:Nat) (w:Nat × List UInt8),d.ways[k]? = some w->w.1 < d.dur.length/\w.2.length = 256
 a0:-1<=d.armed
 a1:d.armed<=9223372036854775807
structure DS.Few (d:DS):Prop where
 ways:d.ways.length<=1073741824
 wr:d.wr<=1152921504606846976
 fl:d.fl<=1152921504606846976
 cr:d.cr<=1152921504606846976
def lastAt (ws:List (Nat × List UInt8)) (p:Nat):Option Nat:=(List.range ws.length).foldl (fun r k=>if (ws[k]?).map (·.1) = some p then some k else r) none
theorem lastAt_snoc (ws:List (Nat × List UInt8)) (w:Nat × List UInt8) (p:Nat):lastAt (ws ++ [w]) p = if w.1 = p then some ws.length else lastAt ws p:=by
 unfold lastAt
 rw [List.length_append,List.length_singleton,List.range_succ,List.foldl_append,List.foldl_cons,List.foldl_nil]
 have hc:∀ (l:List Nat) (r0:Option Nat),(∀ k ∈ l,k < ws.length)->l.foldl (fun r k=>if ((ws ++ [w])[k]?).map (·.1) = some p then some k else r) r0 = l.foldl (fun r k=>if (ws[k]?).map (·.1) = some p then some k else r) r0:=by
  intro l
  induction l with
  | nil=>intro r0 _; rfl
  | cons a l ih =>
   intro r0 h
   rw [List.foldl_cons,List.foldl_cons,List.getElem?_append_left (h a (by simp))]
   exact ih _ (fun k hk=>h k (by simp [hk]))
 rw [hc _ _ (fun k hk=>List.mem_range.1 hk)]
 simp
def readTo (D:List (List UInt8)) (ws:List (Nat × List UInt8)) (p:Nat):Nat->List UInt8
 | 0=>D.getD p []
 | k + 1=>match ws[k]? with
  | some w=>if w.1 = p then w.2 else readTo D ws p k
  | none=>readTo D ws p k
def DS.read (d:DS) (p:Nat):List UInt8:=readTo d.dur d.ways p d.ways.length
theorem readTo_congr (D:List (List UInt8)) {ws vs:List (Nat × List UInt8)} (p:Nat):∀ k,(∀ j,j < k->ws[j]? = vs[j]?)->readTo D ws p k = readTo D vs p k
 | 0,_=>rfl
 | k + 1,h=>by
  unfold readTo
  rw [h k (by omega),readTo_congr D p k (fun j hj=>h j (by omega))]
theorem readTo_snoc (D:List (List UInt8)) (ws:List (Nat × List UInt8)) (w:Nat × List UInt8) (p:Nat):readTo D (ws ++ [w]) p (ws ++ [w]).length = if w.1 = p then w.2 else readTo D ws p ws.length:=by
 rw [List.length_append,List.length_singleton,readTo]
 simp only [List.getElem?_concat_length]
 rw [readTo_congr D p ws.length (fun j hj=>List.getElem?_append_left hj)]
theorem snocInd {α:Type} {P:List α->Prop} (h0:P []) (h1:∀ l a,P l->P (l ++ [a])) (l:List α):P l:=by
 have h:∀ n (l:List α),l.length = n->P l:=by
  intro n
  induction n with
  | zero=>intro l hl; rw [List.eq_nil_of_length_eq_zero hl]; exact h0
  | succ n ih =>
   intro l hl
   have hne:l ≠ []:=by rintro rfl; simp at hl
   have e:=List.dropLast_concat_getLast hne
   rw [<- e]
   exact h1 _ _ (ih _ (by simp; omega))
 exact h _ l rfl
theorem readTo_last (D:List (List UInt8)) (ws:List (Nat × List UInt8)) (p:Nat) :
  (lastAt ws p = none->readTo D ws p ws.length = D.getD p [])/\(∀ k,lastAt ws p = some k->∃ w,ws[k]? = some w/\readTo D ws p ws.length = w.2):=by
 refine snocInd (P:=fun ws:List (Nat × List UInt8)=>(lastAt ws p = none->readTo D ws p ws.length = D.getD p [])/\(∀ k,lastAt ws p = some k->∃ w,ws[k]? = some w/\readTo D ws p ws.length = w.2)) ?_ ?_ ws
 ·refine ⟨fun _=>rfl,fun k h=>?_⟩
  cases h
 ·rintro l a ⟨h1,h2⟩
  rw [lastAt_snoc,readTo_snoc]
  by_cases hp:a.1 = p
  ·rw [if_pos hp,if_pos hp]
   refine ⟨fun h=>(by cases h),fun k h=>?_⟩
   injection h with h
   subst h
   exact ⟨a,by simp,rfl⟩
  ·rw [if_neg hp,if_neg hp]
   refine ⟨h1,fun k h=>?_⟩
   obtain ⟨w,hw,e⟩:=h2 k h
   exact ⟨w,by rw [List.getElem?_append_left (List.getElem?_eq_some_iff.1 hw).1]; exact hw,e⟩
theorem lastAt_lt {ws:List (Nat × List UInt8)} {p k:Nat} (h:lastAt ws p = some k):k < ws.length:=by
 obtain ⟨w,hw,_⟩:=(readTo_last [] ws p).2 k h
 exact (List.getElem?_eq_some_iff.1 hw).1
def flushTo (D:List (List UInt8)) (ws:List (Nat × List UInt8)):Nat->List (List UInt8)
 | 0=>D
 | k + 1=>match ws[k]? with
  | some w=>(flushTo D ws k).set w.1 w.2
  | none=>flushTo D ws k
def FT.done (f:FT) (k:Nat):Nat :=
 if (k:Int) = f.torn then (min (max f.bytes 0) 256).toNat else if f.kept.getD k false then 256 else 0
theorem FT.done_le (f:FT) (k:Nat):f.done k<=256:=by
 unfold FT.done
 split
 ·omega
 ·split <;> omega
def tornBy (old s:List UInt8) (n:Nat):List UInt8:=s.take n ++ old.drop n
theorem tornBy_length {old s:List UInt8} {n:Nat} (h1:old.length = 256) (h2:s.length = 256) (hn:n<=256):(tornBy old s n).length = 256:=by
 simp [tornBy,h1,h2]; omega
theorem tornBy_all {old s:List UInt8} (h1:old.length = 256) (h2:s.length = 256):tornBy old s 256 = s:=by
 unfold tornBy
 rw [List.take_of_length_le (by omega),List.drop_eq_nil_of_le (by omega),List.append_nil]
def crashTo (f:FT) (D:List (List UInt8)) (ws:List (Nat × List UInt8)):Nat->List (List UInt8)
 | 0=>D
 | k + 1=>match ws[k]? with
  | some w=>(crashTo f D ws k).set w.1 (tornBy ((crashTo f D ws k).getD w.1 []) w.2 (f.done k))
  | none=>crashTo f D ws k
theorem flushTo_length (D:List (List UInt8)) (ws:List (Nat × List UInt8)):∀ k,(flushTo D ws k).length = D.length
 | 0=>rfl
 | k + 1=>by unfold flushTo; split <;> simp [flushTo_length D ws k]
theorem crashTo_length (f:FT) (D:List (List UInt8)) (ws:List (Nat × List UInt8)):∀ k,(crashTo f D ws k).length = D.length
 | 0=>rfl
 | k + 1=>by unfold crashTo; split <;> simp [crashTo_length f D ws k]
theorem each_set {D:List (List UInt8)} {p:Nat} {s:List UInt8} (h:∀ (i:Nat) (t:List UInt8),D[i]? = some t->t.length = 256) (hs:s.length = 256):∀ (i:Nat) (t:List UInt8),(D.set p s)[i]? = some t->t.length = 256:=by
 intro i t ht
 rw [List.getElem?_set] at ht
 split at ht
 ·split at ht
  ·injection ht with ht; subst ht; exact hs
  ·cases ht
 ·exact h i t ht
theorem getD_length {D:List (List UInt8)} {p:Nat} (h:∀ (i:Nat) (t:List UInt8),D[i]? = some t->t.length = 256) (hp:p < D.length):(D.getD p []).length = 256:=by
 have e:D[p]? = some (D.getD p []):=by simp [List.getD,hp]
 exact h p _ e
theorem flushTo_each {D:List (List UInt8)} {ws:List (Nat × List UInt8)} (h:∀ (i:Nat) (t:List UInt8),D[i]? = some t->t.length = 256) (hw:∀ (k:Nat) (w:Nat × List UInt8),ws[k]? = some w->w.1 < D.length/\w.2.length = 256):∀ k,∀ (i:Nat) (t:List UInt8),(flushTo D ws k)[i]? = some t->t.length = 256
 | 0=>h
 | k + 1=>by
  unfold flushTo
  split
  ·rename_i w he
   exact each_set (flushTo_each h hw k) (hw k w he).2
  ·exact flushTo_each h hw k
def dec (a:Int):Int:=if 0 < a then a - 1 else a
theorem dec_le {a:Int} (h:-1<=a):-1<=dec a/\dec a<=a:=by unfold dec; split <;> omega
def DS.reach (d:DS) (i:Int):Nat:=if d.off then 12 else if i < 0\/d.dur.length<=i then 6 else 0
def DS.writeE (d:DS) (i:Int) (s:List UInt8):Nat:=if d.reach i ≠ 0 then d.reach i else if s.length ≠ 256 then 7 else if d.armed = 0 then 12 else 0
def DS.writeD (d:DS) (i:Int) (s:List UInt8):DS :=
 if d.reach i ≠ 0 then d else if s.length ≠ 256 then d else if d.armed = 0 then { d with ways:=d.ways ++ [(i.toNat,s)],off:=true } else { d with ways:=d.ways ++ [(i.toNat,s)],armed:=dec d.armed,wr:=d.wr + 1 }
def DS.flushE (d:DS):Nat:=if d.off then 12 else if d.armed = 0 then 12 else 0
def DS.flushD (d:DS):DS :=
 if d.off then d else if d.armed = 0 then { d with off:=true } else { d with dur:=flushTo d.dur d.ways d.ways.length,ways:=[],armed:=dec d.armed,fl:=d.fl + 1 }
def DS.crashD (d:DS) (f:FT):DS:={ d with dur:=crashTo f d.dur d.ways d.ways.length,ways:=[],armed:=-1,off:=false,cr:=d.cr + 1 }
def zeros:List UInt8:=List.replicate 256 0
def DS.newD (n:Nat):DS:=⟨List.replicate n zeros,[],-1,false,0,0,0⟩
theorem DS.reach_zero {d:DS} {i:Int} (h:d.reach i = 0):d.off = false/\0<=i/\i < d.dur.length:=by
 unfold DS.reach at h
 split at h
 ·cases h
 ·split at h
  ·cases h
  ·rename_i h1 h2
   exact ⟨by simpa using h1,by omega,by omega⟩
theorem ok_ways {n:Nat} {ws:List (Nat × List UInt8)} {w:Nat × List UInt8} (h:∀ (k:Nat) (w:Nat × List UInt8),ws[k]? = some w->w.1 < n/\w.2.length = 256) (hw:w.1 < n/\w.2.length = 256):∀ (k:Nat) (v:Nat × List UInt8),(ws ++ [w])[k]? = some v->v.1 < n/\v.2.length = 256:=by
 intro k v hv
 by_cases hk:k < ws.length
 ·rw [List.getElem?_append_left hk] at hv; exact h k v hv
 ·rw [List.getElem?_append_right (by omega)] at hv
  obtain ⟨hl,e⟩:=List.getElem?_eq_some_iff.1 hv
  have:k - ws.length = 0:=by simpa using hl
  simp [this] at e
  subst e
  exact hw
theorem DS.Ok.flush {d:DS} (h:d.Ok):d.flushD.Ok:=by
 unfold DS.flushD
 have hd:=dec_le h.a0
 have:=h.a1
 split
 ·exact h
 ·split
  ·exact ⟨h.pos,h.le,h.each,h.way,h.a0,h.a1⟩
  ·exact ⟨by simp only [flushTo_length]; exact h.pos,by simp only [flushTo_length]; exact h.le,flushTo_each h.each h.way _,fun k w hk=>by simp at hk,hd.1,by simp only; omega⟩
theorem DS.Ok.new {n:Nat} (h1:1<=n) (h2:n<=65536):(DS.newD n).Ok :=
 ⟨by simp [DS.newD,h1],by simpa [DS.newD] using h2,fun i s hs=>by simp [DS.newD,List.getElem?_replicate] at hs; obtain ⟨_,rfl⟩:=hs; simp [zeros],fun k w hk=>by simp [DS.newD] at hk,by simp [DS.newD],by simp [DS.newD]⟩
theorem writeD_size (d:DS) (i:Int) (s:List UInt8):(d.writeD i s).dur.length = d.dur.length:=by
 unfold DS.writeD; repeat' split
 all_goals rfl
theorem flushD_size (d:DS):d.flushD.dur.length = d.dur.length:=by
 unfold DS.flushD; repeat' split
 all_goals first | rfl | exact flushTo_length _ _ _
theorem crashD_size (d:DS) (f:FT):(d.crashD f).dur.length = d.dur.length:=crashTo_length _ _ _ _
def tellS:Option (Nat × List UInt8)->List UInt8 × Nat × Nat
 | none=>([],0,14)
 | some (v,p)=>(p,v,0)
def DS.fitS (d:DS) (i:Int):Prop:=0<=i/\i + 2<=d.dur.length
instance (d:DS) (i:Int):Decidable (d.fitS i):=inferInstanceAs (Decidable (_/\_))
def DS.slotsR (d:DS) (i:Int):List UInt8 × Nat × Nat :=
 if ¬ d.fitS i then ([],0,6) else if d.off = true then ([],0,12) else tellS (G.best (G.slotV (d.read i.toNat) 0) (G.slotV (d.read (i.toNat + 1)) 1))
def DS.slotsE (d:DS) (i v:Int) (p:List UInt8):Nat :=
 if ¬ d.fitS i\/v < 1\/1099511627776 < v then 6 else if 234 < p.length then 3
 else if d.writeE (i + v % 2) (E.sct v.toNat p) ≠ 0 then d.writeE (i + v % 2) (E.sct v.toNat p) else (d.writeD (i + v % 2) (E.sct v.toNat p)).flushE
def DS.slotsD (d:DS) (i v:Int) (p:List UInt8):DS :=
 if ¬ d.fitS i\/v < 1\/1099511627776 < v then d else if 234 < p.length then d
 else if d.writeE (i + v % 2) (E.sct v.toNat p) ≠ 0 then d.writeD (i + v % 2) (E.sct v.toNat p) else (d.writeD (i + v % 2) (E.sct v.toNat p)).flushD
theorem slot_front (raw:List UInt8) (i:Nat):(if raw.length = 256/\E.front raw<=1099511627776/\E.front raw % 2 = i then (E.openS (E.front raw) raw).map fun p=>(E.front raw,p) else none) = G.slotV raw i:=by
 unfold G.slotV
 by_cases h:raw.length = 256/\E.front raw<=1099511627776/\E.front raw % 2 = i
 ·rw [if_pos h]
  by_cases k:raw.length = 256/\E.front raw = E.back raw/\1<=E.front raw/\E.front raw<=1099511627776/\E.front raw % 2 = i
  ·rw [if_pos k]
  ·rw [if_neg k]
   cases hq:E.openS (E.front raw) raw with
   | none=>rfl
   | some q =>
    exfalso
    have hc:E.counts (E.front raw) raw = true:=by unfold E.counts; rw [hq]; rfl
    obtain ⟨h0,h1,h2⟩:=E.counts_ends (Nat.lt_of_le_of_lt h.2.1 (by decide)) hc
    exact k ⟨h.1,h2.symm,by omega,h.2.1,h.2.2⟩
 ·rw [if_neg h,if_neg (fun k=>h ⟨k.1,k.2.2.2.1,k.2.2.2.2⟩)]
structure DS.Calm (d:DS):Prop where
 ways:d.ways = []
 off:d.off = false
theorem DS.Calm.read {d:DS} (h:d.Calm) (i:Nat):d.read i = d.dur.getD i []:=by
 unfold DS.read; rw [h.ways]; rfl
theorem DS.Calm.tells {d:DS} (h:d.Calm) {i:Nat} (hi:i + 2<=d.dur.length):d.slotsR i = tellS (G.readS fun j=>d.dur.getD (i + j) []):=by
 unfold DS.slotsR
 have hf:d.fitS i:=⟨by omega,by omega⟩
 rw [if_neg (fun k=>k hf),if_neg (by rw [h.off]; simp),h.read,h.read]
 rfl
theorem slot_place {i v:Nat}:((i:Int) + (v:Int) % 2) = ((i + v % 2:Nat):Int):=by omega
theorem DS.reach_calm {d:DS} (h:d.off = false) {i:Nat} (hi:i < d.dur.length):d.reach i = 0:=by
 unfold DS.reach; rw [h,if_neg (by simp),if_neg (by omega)]
section
variable {d:DS} {i v:Nat} {p:List UInt8}
theorem DS.Calm.reach (h:d.Calm) (hi:i + 2<=d.dur.length):d.reach ((i:Int) + (v:Int) % 2) = 0:=by
 rw [slot_place]; exact DS.reach_calm h.off (by omega)
theorem DS.slots_in (hi:i + 2<=d.dur.length) (h1:1<=v) (h2:v<=1099511627776):¬ (¬ d.fitS i\/(v:Int) < 1\/1099511627776 < (v:Int)):=by
 have hf:d.fitS i:=⟨by omega,by omega⟩
 rintro (k | k | k)
 ·exact k hf
 ·omega
 ·omega
theorem DS.Calm.slots0 (h:d.Calm) (hi:i + 2<=d.dur.length) (h1:1<=v) (h2:v<=1099511627776) (hp:p.length<=234) (ha:d.armed = 0) :
  d.slotsE i v p = 12/\d.slotsD i v p = { d with ways:=[(i + v % 2,E.sct v p)],off:=true }:=by
 have hr:=h.reach (v:=v) hi
 have hw:d.writeE ((i:Int) + (v:Int) % 2) (E.sct v p) = 12:=by unfold DS.writeE; rw [if_neg (by rw [hr]; simp),if_neg (by rw [E.sct_length v hp]; simp),if_pos ha]
 have hd:d.writeD ((i:Int) + (v:Int) % 2) (E.sct v p) = { d with ways:=[(i + v % 2,E.sct v p)],off:=true }:=by
  unfold DS.writeD; rw [if_neg (by rw [hr]; simp),if_neg (by rw [E.sct_length v hp]; simp),if_pos ha,h.ways,slot_place]; rfl
 refine ⟨?_,?_⟩
 ·unfold DS.slotsE
  simp only [Int.toNat_natCast]
  rw [if_neg (DS.slots_in hi h1 h2),if_neg (by omega),hw,if_pos (by decide)]
 ·unfold DS.slotsD
  simp only [Int.toNat_natCast]
  rw [if_neg (DS.slots_in hi h1 h2),if_neg (by omega),hw,if_pos (by decide)]
  exact hd
theorem DS.Calm.wrote (h:d.Calm) (hi:i + 2<=d.dur.length) (hp:p.length<=234) (ha:d.armed ≠ 0) :
  d.writeE ((i:Int) + (v:Int) % 2) (E.sct v p) = 0/\d.writeD ((i:Int) + (v:Int) % 2) (E.sct v p) = { d with ways:=[(i + v % 2,E.sct v p)],armed:=dec d.armed,wr:=d.wr + 1 }:=by
 have hr:=h.reach (v:=v) hi
 refine ⟨?_,?_⟩
 ·unfold DS.writeE; rw [if_neg (by rw [hr]; simp),if_neg (by rw [E.sct_length v hp]; simp),if_neg ha]
 ·unfold DS.writeD; rw [if_neg (by rw [hr]; simp),if_neg (by rw [E.sct_length v hp]; simp),if_neg ha,h.ways,slot_place]; rfl
theorem DS.Calm.slots1 (h:d.Calm) (hi:i + 2<=d.dur.length) (h1:1<=v) (h2:v<=1099511627776) (hp:p.length<=234) (ha:d.armed = 1) :
  d.slotsE i v p = 12/\d.slotsD i v p = { d with ways:=[(i + v % 2,E.sct v p)],armed:=0,off:=true,wr:=d.wr + 1 }:=by
 obtain ⟨hw,hd⟩:=h.wrote (v:=v) (p:=p) hi hp (by omega)
 have e:dec d.armed = 0:=by rw [ha]; rfl
 refine ⟨?_,?_⟩
 ·unfold DS.slotsE
  simp only [Int.toNat_natCast]
  rw [if_neg (DS.slots_in hi h1 h2),if_neg (by omega),hw,if_neg (by decide),hd]
  unfold DS.flushE
  simp only [h.off,e]
  rfl
 ·unfold DS.slotsD
  simp only [Int.toNat_natCast]
  rw [if_neg (DS.slots_in hi h1 h2),if_neg (by omega),hw,if_neg (by decide),hd]
  unfold DS.flushD
  simp only [h.off,e]
  rfl
theorem DS.Calm.slots2 (h:d.Calm) (hi:i + 2<=d.dur.length) (h1:1<=v) (h2:v<=1099511627776) (hp:p.length<=234) (ha:d.armed ≠ 0) (ha1:d.armed ≠ 1) :
  d.slotsE i v p = 0/\d.slotsD i v p = { d with dur:=d.dur.set (i + v % 2) (E.sct v p),ways:=[],armed:=dec (dec d.armed),wr:=d.wr + 1,fl:=d.fl + 1 }:=by
 obtain ⟨hw,hd⟩:=h.wrote (v:=v) (p:=p) hi hp (by omega)
 have e:dec d.armed ≠ 0:=by unfold dec; split <;> omega
 refine ⟨?_,?_⟩
 ·unfold DS.slotsE
  simp only [Int.toNat_natCast]
  rw [if_neg (DS.slots_in hi h1 h2),if_neg (by omega),hw,if_neg (by decide),hd]
  unfold DS.flushE
  simp only [h.off,if_neg e]
  rfl
 ·unfold DS.slotsD
  simp only [Int.toNat_natCast]
  rw [if_neg (DS.slots_in hi h1 h2),if_neg (by omega),hw,if_neg (by decide),hd]
  unfold DS.flushD
  simp only [h.off,if_neg e]
  rfl
end
namespace V
def piece (v:List UInt8) (i:Nat):List UInt8:=(v.drop (i * 234)).take 234
def nsec (n:Nat):Nat:=(n + 233) / 234
theorem nsec_le {n m:Nat}:n<=234 * m ↔ nsec n<=m:=by unfold nsec; omega
theorem piece_length (v:List UInt8) (i:Nat):(piece v i).length = min 234 (v.length - i * 234):=by unfold piece; rw [List.length_take,List.length_drop]
theorem piece_le (v:List UInt8) (i:Nat):(piece v i).length<=234:=by rw [piece_length]; omega
theorem nsec_lt {n i:Nat} (h:i < nsec n):i * 234 < n:=by unfold nsec at h; omega
theorem nsec_end (n:Nat):n<=nsec n * 234:=by unfold nsec; omega
theorem take_piece (v:List UInt8) (k:Nat):v.take (k * 234) ++ piece v k = v.take ((k + 1) * 234):=by
 unfold piece
 rw [Nat.succ_mul,List.take_add]
def readTo (s:Nat->List UInt8) (st n:Nat):Nat->Option (List UInt8)
 | 0=>some []
 | k + 1=>(readTo s st n k).bind fun out=>(E.openS st (s k)).bind fun p=>if p.length = min 234 (n - out.length) then some (out ++ p) else none
def readA (s:Nat->List UInt8) (st n:Nat):Option (List UInt8):=readTo s st n (nsec n)
theorem readTo_all {s:Nat->List UInt8} {st:Nat} (hst:st ≠ 0) (v:List UInt8):∀ k,k<=nsec v.length->(∀ i,i < k->s i = E.sct st (piece v i))->readTo s st v.length k = some (v.take (k * 234))
 | 0,_,_=>by simp [readTo]
 | k + 1,hk,h=>by
  have hlt:=nsec_lt (show k < nsec v.length from hk)
  rw [readTo,readTo_all hst v k (by omega) (fun i hi=>h i (by omega)),Option.bind_some,h k (by omega),E.open_sct hst (piece_le v k),Option.bind_some,if_pos,take_piece]
  rw [piece_length,List.length_take]
  congr 1
  omega
theorem readA_all {s:Nat->List UInt8} {st:Nat} (hst:st ≠ 0) (v:List UInt8) (h:∀ i,i < nsec v.length->s i = E.sct st (piece v i)):readA s st v.length = some v:=by
 unfold readA
 rw [readTo_all hst v _ (Nat.le_refl _) h,List.take_of_length_le (nsec_end _)]
theorem readTo_length {s:Nat->List UInt8} {st n:Nat}:∀ k,k<=nsec n->∀ out,readTo s st n k = some out->out.length = min (k * 234) n
 | 0,_,out,ho=>by simp [readTo] at ho; simp [ho]
 | k + 1,hk,out,ho=>by
  have hlt:=nsec_lt (show k < nsec n from hk)
  rw [readTo] at ho
  obtain ⟨o1,h1,h2⟩:=Option.bind_eq_some_iff.1 ho
  obtain ⟨p,h3,h4⟩:=Option.bind_eq_some_iff.1 h2
  have e1:=readTo_length k (by omega) o1 h1
  split at h4
  ·rename_i hp
   injection h4 with h4
   rw [<- h4,List.length_append,hp,e1]
   omega
  ·cases h4
theorem readTo_none {s:Nat->List UInt8} {st n k:Nat} (h:readTo s st n k = none):∀ m,k<=m->readTo s st n m = none:=by
 intro m hm
 obtain ⟨j,rfl⟩:=Nat.exists_eq_add_of_le hm
 clear hm
 induction j with
 | zero=>exact h
 | succ j ih=>rw [<- Nat.add_assoc,readTo,ih]; rfl
end V
def DS.mayA (d:DS) (i n:Int) (st:Nat):Prop:=0<=i/\0<=n/\i<=d.dur.length/\n<=d.dur.length - i/\st ≠ 0
instance (d:DS) (i n:Int) (st:Nat):Decidable (d.mayA i n st):=inferInstanceAs (Decidable (_/\_))
def DS.areaGo (i st:Nat) (v:List UInt8):Nat->Nat->DS->Nat × DS
 | 0,_,d=>(d.flushE,d.flushD)
 | m + 1,k,d=>if d.writeE ((i + k:Nat):Int) (E.sct st (V.piece v k)) ≠ 0 then (d.writeE ((i + k:Nat):Int) (E.sct st (V.piece v k)),d.writeD ((i + k:Nat):Int) (E.sct st (V.piece v k))) else areaGo i st v m (k + 1) (d.writeD ((i + k:Nat):Int) (E.sct st (V.piece v k)))
def DS.areaW (d:DS) (i n:Int) (st:Nat) (v:List UInt8):Nat × DS :=
 if ¬ d.mayA i n st then (6,d) else if 234 * min n.toNat 65536 < v.length then (3,d) else DS.areaGo i.toNat st v (V.nsec v.length) 0 d
def DS.areaR (d:DS) (i n:Int) (st:Nat) (b:Int):List UInt8 × Nat :=
 if ¬ d.mayA i n st\/b < 0 then ([],6) else if 234 * min n.toNat 65536 < b.toNat then ([],3) else if d.off = true then ([],12)
 else match V.readA (fun k=>d.read (i.toNat + k)) st b.toNat with
  | some out=>(out,0)
  | none=>([],15)
end Go.Proofs.YthjjfjhajadimaaGreatDoor
