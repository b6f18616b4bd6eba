/-
  Joined: Own2, StrV, RecsB, TRow, AppRows, AppOne, AppCells, RowsG, BRow.
-/
import Derived.Test.YthjjfjhajadimaaGreatDoorP04
import Derived.WideShapes
import Derived.Laws.StructEq
import Derived.Laws.Rows
import Derived.Deep.RegionLaw
namespace Go.Proofs.YthjjfjhajadimaaGreatDoor
open Go.RowKit
set_option maxRecDepth 100000
theorem ownsRow_kept {S:Nat->Prop} {w w':World} {base:Nat} {e:TypeId} {size:Nat} {v:Value} {n:Nat} {xs:List Value} (h:w.ownsRow base e size v n xs) (hk:Keeps S w w') (hn:∀ k,v.ownBlock = some k->¬ S k):w'.ownsRow base e size v n xs:=by
 refine ⟨h.1,?_⟩
 rcases h.2 with h2 | ⟨g,cap,cur,rfl,hb,hg,rest⟩
 ·exact .inl h2
 ·exact .inr ⟨g,cap,cur,rfl,hb,by rw [hk.block g (lt_of_block hg) (hn g rfl)]; exact hg,rest⟩
theorem ownsRow_lt {w:World} {base:Nat} {e:TypeId} {size:Nat} {v:Value} {n:Nat} {xs:List Value} (h:w.ownsRow base e size v n xs) {k:Nat} (hk:v.ownBlock = some k):k < w.heap.size:=ownsRowF_lt (World.ownsRowF_of h) hk
section
variable {P:Program} (w:World)
theorem run_append_cells0 (t ty e:TypeId) (i:TypeInfo) (z:Value) (size bytes:Nat) (ht:P.underlying t = some (.slice e)) (hi:P.info? e = some i) (hz:i.zero = some z)
  (hsize:i.size = size) (hby:i.bytes = bytes) (hzs:z.cells.size = size) (hsz:0 < size)
  (v:Value) (n:Nat) (xs:List Value) (hown:w.ownsRow 0 e size v n xs)
  (a:Addr) (m c:Nat) (news:List Value) (hl:news.length = m * size) (hnews:∀ j u,news[j]? = some u->w.cell? (a.add j) = some u) (h1:∀ u ∈ news,u.oneCell' = true)
  (h63:n + m<=maxLen) (hbytes:(n + m) * bytes<=140737488355328) :
  ∃ v' w',(Builtin.append_ #[t,t] ty #[v,.slice (some a) m c]).run P w = .ok v' w'/\w'.ownsRow 0 e size v' (n + m) (xs ++ news)/\w.grownBy w' v.ownBlock/\Later w v.ownBlock v'.ownBlock /\
   (v' = .slice none 0 0 ↔ v = .slice none 0 0/\m = 0):=by
 subst hsize
 subst hby
 have hsmall:n + m<=9223372036854775807:=by simp only [maxLen] at h63; omega
 have hlen:(xs ++ news).length = (n + m) * i.size:=by rw [List.length_append,hown.1,hl,Nat.add_mul]
 have grown:∀ (old:Nat),old < n + m->∀ (row:Option Nat),
   (w.drew.alloc (.cells (xs.toArray ++ news.toArray ++ Builtin.zeroCells z.cells (grownCap w (n + m) old e - (n + m))) e)).ownsRow 0 e i.size
    (.slice (some ⟨w.heap.size,0,none⟩) (n + m) (grownCap w (n + m) old e)) (n + m) (xs ++ news) /\
   w.grownBy (w.drew.alloc (.cells (xs.toArray ++ news.toArray ++ Builtin.zeroCells z.cells (grownCap w (n + m) old e - (n + m))) e)) row:=by
  intro old ho row
  have hge:=grownCap_ge w (n + m) old e
  have hcm:grownCap w (n + m) old e<=maxLen:=grownCap_le_maxLen w (n + m) old e h63
  refine ⟨⟨hlen,.inr ⟨w.heap.size,_,_,rfl,Nat.zero_le _,heap_alloc_new w.drew _,hge,hcm,?_,?_⟩⟩,⟨rfl,rfl,rfl,by simp,fun k hk _=>Below.heap_alloc w.drew _ k hk⟩⟩
  ·simp only [Array.size_append,List.size_toArray,size_zeroCells,hzs,hown.1,hl,<- Nat.add_mul]
   congr 1
   omega
  ·simp only [Array.toList_append,List.append_assoc]
   rw [<- List.append_assoc,<- hlen]
   exact List.take_left
 rcases hown.2 with ⟨rfl,rfl⟩ | ⟨g,cap,cur,rfl,hbg,hg,hnc,hcm,hcs,htake⟩
 ·have hx:xs = []:=List.eq_nil_of_length_eq_zero (by simpa using hown.1)
  subst hx
  by_cases hm:m = 0
  ·subst hm
   have hn:news = []:=List.eq_nil_of_length_eq_zero (by simpa using hl)
   subst hn
   refine ⟨.slice none 0 0,w,?_,World.ownsRow_nil w 0 e i.size,⟨rfl,rfl,rfl,Nat.le_refl _,fun _ _ _=>rfl⟩,.inl rfl,by simp⟩
   simp [Builtin.append_,run_underlying ht,sizeOf,typeInfo,hi,Builtin.lenOf,Builtin.firstCells,loadCells,loadCellsFrom]
  ·have hr:=run_append_nil (P:=P) w t ty e i z ht hi hz a m c news hl hnews (by omega) (by omega) (by have hb:=hbytes; simp only [Nat.zero_add] at hb; omega)
   have hgr:=grown 0 (by omega) (Value.ownBlock (.slice none 0 0))
   simp only [Nat.zero_add,List.nil_append,Array.empty_append] at hgr ⊢
   exact ⟨_,_,hr,hgr.1,hgr.2,.inr ⟨_,rfl,Nat.le_refl _⟩,by simp [hm]⟩
 ·by_cases hroom:n + m<=cap
  ·have hfit:n * i.size + news.length<=cur.size:=by rw [hl,hcs,<- Nat.add_mul]; exact Nat.mul_le_mul_right _ hroom
   have hr:=run_append_roomF (P:=P) w t ty e i ht hi g n cap cur (0,0) hg (Nat.zero_le _) a m c news hl hnews h1 hroom hfit
   refine ⟨_,_,hr,⟨hlen,.inr ⟨g,cap,_,rfl,hbg,setRow_heap w g cur _ e _ hg,hroom,hcm,?_,?_⟩⟩,⟨rfl,rfl,rfl,by simp,fun k _ hk=>setRow_other w g k _ (fun e=>hk (by simp [Value.ownBlock,e]))⟩,.inl rfl,by simp⟩
   ·simp only [List.size_toArray,List.length_append,List.length_take,List.length_drop,Array.length_toList]
    omega
   ·rw [htake,<- hlen]
    exact List.take_left
  ·have holds:∀ j u,xs[j]? = some u->w.cell? ((⟨g,0,none⟩:Addr).add j) = some u:=(World.ownsRowF_of hown).cells (g:=g) rfl
   have hr:=run_append_grow (P:=P) w t ty e i z ht hi hz ⟨g,0,none⟩ n cap xs hown.1 holds a m c news hl hnews (by omega) (by omega) (growslice_fits (by omega) hbytes)
   have hgr:=grown cap (by omega) (Value.ownBlock (.slice (some ⟨g,0,none⟩) n cap))
   exact ⟨_,_,hr,hgr.1,hgr.2,.inr ⟨_,rfl,Nat.le_refl _⟩,by simp⟩
theorem wpList_append_cells0 {ops:Array Oper} {rest:List Oper} {o:Oper} {a:Act} {Q:Exit->Act->World->Prop} (hgd:o.guard = none) (s x:Operand) (t:TypeId)
  (ho:o.op = .call { callee:=.builtin .append,args:=#[s,x],argTypes:=#[t,t] })
  (e:TypeId) (i:TypeInfo) (z:Value) (size bytes:Nat) (ht:P.underlying t = some (.slice e)) (hi:P.info? e = some i) (hz:i.zero = some z)
  (hsize:i.size = size) (hby:i.bytes = bytes) (hzs:z.cells.size = size) (hsz:0 < size)
  (v:Value) (n:Nat) (xs:List Value) (hs:a.eval s = v) (hown:w.ownsRow 0 e size v n xs)
  (ad:Addr) (m c:Nat) (news:List Value) (hx:a.eval x = .slice (some ad) m c) (hl:news.length = m * size) (hnews:∀ j u,news[j]? = some u->w.cell? (ad.add j) = some u) (h1:∀ u ∈ news,u.oneCell' = true)
  (h63:n + m<=maxLen) (hbytes:(n + m) * bytes<=140737488355328)
  (h:∀ v' w',w'.ownsRow 0 e size v' (n + m) (xs ++ news)->w.grownBy w' v.ownBlock->Later w v.ownBlock v'.ownBlock->(v' = .slice none 0 0 ↔ v = .slice none 0 0/\m = 0)->wpList P ops Q rest (a.put o.dst v') w'):wpList P ops Q (o :: rest) a w:=by
 refine wpList_plain hgd fun K hK=>?_
 obtain ⟨v',w',hr,h2,h3,h4,h5⟩:=run_append_cells0 (P:=P) w t o.type e i z size bytes ht hi hz hsize hby hzs hsz v n xs hown ad m c news hl hnews h1 h63 hbytes
 unfold Oper.wp execOp
 simp only [ho,resolve,invoke,builtin,Sem.run_bind,Sem.run_pure,Result.andThen_ok,List.map_toArray,List.map_cons,List.map_nil,hs,hx,hr]
 exact hK _ _ (h v' w' h2 h3 h4 h5)
end
end Go.Proofs.YthjjfjhajadimaaGreatDoor
namespace Go.Proofs.YthjjfjhajadimaaGreatDoor
def strV (s:List UInt8):Value:=.string ⟨s.toArray⟩
end Go.Proofs.YthjjfjhajadimaaGreatDoor
namespace Go.Proofs.YthjjfjhajadimaaGreatDoor
open Go.RowKit
set_option maxRecDepth 100000
structure Recs {α:Type} (n:Nat) (f:α->List Value) (W:World) (v:Value) (g off:Nat) (os:List α):Prop where
 val:∃ a cap,v = .slice a os.length cap/\(os ≠ []->a = some ⟨g,off,none⟩)
 le:os.length<=17592186044416
 cells:∀ (k:Nat) (o:α),os[k]? = some o->∀ (j:Nat) (u:Value),(f o)[j]? = some u->W.cell? ⟨g,off + k * n + j,none⟩ = some u
section
variable {α:Type} {n:Nat} {f:α->List Value} {W:World} {v:Value} {g off:Nat} {os:List α}
theorem Recs.elem (h:Recs n f W v g off os) {k:Nat} (hk:k < os.length):∃ o cap,os[k]? = some o/\v = .slice (some ⟨g,off,none⟩) os.length cap:=by
 obtain ⟨a,cap,rfl,ha⟩:=h.val
 have hne:os ≠ []:=by rintro rfl; simp at hk
 obtain rfl:=ha hne
 exact ⟨os[k],cap,List.getElem?_eq_getElem hk,rfl⟩
end
end Go.Proofs.YthjjfjhajadimaaGreatDoor
namespace Go.Proofs.YthjjfjhajadimaaGreatDoor
open Go.RowKit Go.WideShapes
set_option maxRecDepth 100000
abbrev rowV (r:Tb.R):Value:=.agg #[strV r.1,strV r.2]
def rowC (r:Tb.R):List Value:=[strV r.1,strV r.2]
def rowsC (l:List Tb.R):List Value:=l.flatMap rowC
theorem infoRow:(Tryz.prog.info? 101).map (fun i=>(i.zero,i.size,i.bytes)) = some (some (.agg #[.string ⟨#[]⟩,.string ⟨#[]⟩]),2,32):=by kernel_rfl
theorem rowsC_append (l m:List Tb.R):rowsC (l ++ m) = rowsC l ++ rowsC m:=by simp [rowsC]
theorem rowsC_one (r:Tb.R):rowsC [r] = [strV r.1,strV r.2]:=by simp [rowsC,rowC]
abbrev RowsIn (W:World) (v:Value) (g off:Nat) (l:List Tb.R):Prop:=Recs 2 rowC W v g off l
structure NewR (w wr:World) (v:Value) (l:List Tb.R):Prop where
 own:wr.ownsRow 0 101 2 v l.length (rowsC l)
 new:∀ g,v.ownBlock = some g->w.heap.size<=g
 qt:Qt w wr
theorem RowsIn.cell {W:World} {v:Value} {g off:Nat} {l:List Tb.R} (h:RowsIn W v g off l) {k:Nat} {r:Tb.R} (hk:l[k]? = some r):W.cell? ⟨g,off + k * 2,none⟩ = some (strV r.1)/\W.cell? ⟨g,off + k * 2 + 1,none⟩ = some (strV r.2) :=
 ⟨h.cells k r hk 0 _ rfl,h.cells k r hk 1 _ rfl⟩
theorem str_beq (a b:List UInt8):((⟨a.toArray⟩:ByteArray).toList == (⟨b.toArray⟩:ByteArray).toList) = decide (a = b):=by
 rw [Bool.eq_iff_iff]
 simp only [beq_iff_eq,decide_eq_true_eq,ByteArray.toList_eq]
theorem run_equal_row (p q:Tb.R) (w:World):(Op.equalIn 10000 101 (rowV p) (rowV q)).run Tryz.prog w = .ok (decide (p = q)) w:=by
 obtain ⟨a1,b1⟩:=p
 obtain ⟨a2,b2⟩:=q
 have hs:(decide (((a1,b1):Tb.R) = (a2,b2))) = (decide (a1 = a2) && decide (b1 = b2)):=by
  rw [Bool.eq_iff_iff]
  simp
 have hp:Tryz.prog.stoodInHeld 101 = false:=by kernel_rfl
 have ht:Tryz.prog.underlying 101 = some (.struct (Tryz.prog.fieldsOf 101)):=by kernel_rfl
 rw [hs,run_equalIn_struct w 9999 _ _ _ ht hp]
 have e9:=fun (a b:ByteArray)=>run_equalIn_string (P:=Tryz.prog) w 9998 9 a b Tryz.underlying9
 have hf:(Tryz.prog.fieldsOf 101).toList = [{ name:= "Key",type:=9,offset:=0,embedded:=false,tag:= "",pkgPath:= "",byteOffset:=0 },{ name:= "Value",type:=9,offset:=1,embedded:=false,tag:= "",pkgPath:= "",byteOffset:=16 }]:=by kernel_rfl
 have a9:∀ W,(isAgg 9).run Tryz.prog W = .ok false W:=Tryz.isAgg9
 rw [hf]
 unfold strV
 simp only [Op.eqFields,part,Sem.run_bind,a9,Result.andThen_ok,Bool.false_eq_true,if_false,Sem.run_pure,ne_eq,String.reduceEq,not_false_eq_true,if_true,List.getElem?_toArray,List.getElem?_cons_zero,List.getElem?_cons_succ,e9,str_beq]
 by_cases h1:a1 = a2
 ·subst h1
  by_cases h2:b1 = b2
  ·simp [h2,e9,Sem.run_bind]
  ·simp [h2,e9,Sem.run_bind]
 ·simp [h1]
theorem run_neq_row (p q:Tb.R) (w:World):(binOp .neq 101 (rowV p) (rowV q)).run Tryz.prog w = .ok (.bool (!decide (p = q))) w:=by
 rw [run_neq_struct,run_equal_row]; rfl
section
variable {P:Program} (w:World)
theorem run_append_none (t ty e:TypeId) (i:TypeInfo) (ht:P.underlying t = some (.slice e)) (hi:P.info? e = some i) (v:Value) (n:Nat) (xs:List Value) (size:Nat) (hown:w.ownsRow 0 e size v n xs) (c:Nat) :
  (Builtin.append_ #[t,t] ty #[v,.slice none 0 c]).run P w = .ok v w:=by
 rcases hown.2 with ⟨rfl,rfl⟩ | ⟨g,cap,cur,rfl,_,_,hnc,_⟩
 ·simp [Builtin.append_,run_underlying ht,sizeOf,typeInfo,hi,Builtin.lenOf,Builtin.firstCells]
 ·simp [Builtin.append_,run_underlying ht,sizeOf,typeInfo,hi,Builtin.lenOf,Builtin.firstCells,loadCells,hnc,storeCells]
theorem wpList_append_rows {ops:Array Oper} {rest:List Oper} {o:Oper} {a:Act} {Q:Exit->Act->World->Prop} (hgd:o.guard = none) (s x:Operand) (t:TypeId)
  (ho:o.op = .call { callee:=.builtin .append,args:=#[s,x],argTypes:=#[t,t] })
  (e:TypeId) (i:TypeInfo) (z:Value) (size bytes:Nat) (ht:P.underlying t = some (.slice e)) (hi:P.info? e = some i) (hz:i.zero = some z)
  (hsize:i.size = size) (hby:i.bytes = bytes) (hzs:z.cells.size = size) (hsz:0 < size)
  (v:Value) (n:Nat) (xs:List Value) (hs:a.eval s = v) (hown:w.ownsRow 0 e size v n xs)
  (ad:Option Addr) (m c:Nat) (news:List Value) (hx:a.eval x = .slice ad m c) (hl:news.length = m * size) (ha:news ≠ []->∃ p,ad = some p/\∀ (j:Nat) u,news[j]? = some u->w.cell? (p.add j) = some u) (h1:∀ u ∈ news,u.oneCell' = true)
  (h63:n + m<=maxLen) (hbytes:(n + m) * bytes<=140737488355328)
  (h:∀ v' w',w'.ownsRow 0 e size v' (n + m) (xs ++ news)->w.grownBy w' v.ownBlock->Later w v.ownBlock v'.ownBlock->wpList P ops Q rest (a.put o.dst v') w'):wpList P ops Q (o :: rest) a w:=by
 cases ad with
 | some ad =>
  have hnews:∀ j u,news[j]? = some u->w.cell? (ad.add j) = some u:=fun j u hj=>by
   have hne:news ≠ []:=by rintro rfl; simp at hj
   obtain ⟨p,hp,hc⟩:=ha hne
   injection hp with hp
   subst hp
   exact hc j u hj
  exact wpList_append_cells0 w hgd s x t ho e i z size bytes ht hi hz hsize hby hzs hsz v n xs hs hown ad m c news hx hl hnews h1 h63 hbytes (fun v' w' p1 p2 p3 _=>h v' w' p1 p2 p3)
 | none =>
  have hn:news = []:=by
   apply Classical.byContradiction
   intro hne
   obtain ⟨p,hp,_⟩:=ha hne
   cases hp
  subst hn
  have hm:m = 0:=by
   have:m * size = 0:=by simpa using hl.symm
   rcases Nat.mul_eq_zero.1 this with h | h
   ·exact h
   ·omega
  subst hm
  refine wpList_plain hgd fun K hK=>?_
  have hr:=run_append_none (P:=P) w t o.type e i ht hi v n xs size hown c
  unfold Oper.wp execOp
  simp only [ho,resolve,invoke,builtin,Sem.run_bind,Sem.run_pure,Result.andThen_ok,List.map_toArray,List.map_cons,List.map_nil,hs,hx,hr]
  exact hK _ _ (h v w (by simpa using hown) ⟨rfl,rfl,rfl,Nat.le_refl _,fun _ _ _=>rfl⟩ (.inl rfl))
end
section
variable {P:Program} (w:World)
theorem run_append_cells1 (t ty e:TypeId) (i:TypeInfo) (z:Value) (size bytes:Nat) (ht:P.underlying t = some (.slice e)) (hi:P.info? e = some i) (hz:i.zero = some z)
  (hsize:i.size = size) (hby:i.bytes = bytes) (hzs:z.cells.size = size) (hsz:0 < size)
  (v:Value) (n:Nat) (xs:List Value) (hown:w.ownsRow 0 e size v n xs)
  (a:Addr) (m c:Nat) (news:List Value) (hl:news.length = m * size) (hnews:∀ j u,news[j]? = some u->w.cell? (a.add j) = some u) (h1:∀ u ∈ news,u.oneCell' = true)
  (h63:n + m<=maxLen) (hbytes:(n + m) * bytes<=140737488355328) :
  ∃ v' w',(Builtin.append_ #[t,t] ty #[v,.slice (some a) m c]).run P w = .ok v' w'/\w'.ownsRow 0 e size v' (n + m) (xs ++ news)/\((v'.ownBlock = v.ownBlock/\w.grownBy w' v.ownBlock)\/(∃ g,v'.ownBlock = some g/\w.heap.size<=g/\w.grownBy w' none)):=by
 subst hsize
 subst hby
 have hsmall:n + m<=9223372036854775807:=by simp only [maxLen] at h63; omega
 have hlen:(xs ++ news).length = (n + m) * i.size:=by rw [List.length_append,hown.1,hl,Nat.add_mul]
 have grown:∀ (old:Nat),old < n + m->∀ (row:Option Nat),
   (w.drew.alloc (.cells (xs.toArray ++ news.toArray ++ Builtin.zeroCells z.cells (grownCap w (n + m) old e - (n + m))) e)).ownsRow 0 e i.size
    (.slice (some ⟨w.heap.size,0,none⟩) (n + m) (grownCap w (n + m) old e)) (n + m) (xs ++ news) /\
   w.grownBy (w.drew.alloc (.cells (xs.toArray ++ news.toArray ++ Builtin.zeroCells z.cells (grownCap w (n + m) old e - (n + m))) e)) row:=by
  intro old ho row
  have hge:=grownCap_ge w (n + m) old e
  have hcm:grownCap w (n + m) old e<=maxLen:=grownCap_le_maxLen w (n + m) old e h63
  refine ⟨⟨hlen,.inr ⟨w.heap.size,_,_,rfl,Nat.zero_le _,heap_alloc_new w.drew _,hge,hcm,?_,?_⟩⟩,⟨rfl,rfl,rfl,by simp,fun k hk _=>Below.heap_alloc w.drew _ k hk⟩⟩
  ·simp only [Array.size_append,List.size_toArray,size_zeroCells,hzs,hown.1,hl,<- Nat.add_mul]
   congr 1
   omega
  ·simp only [Array.toList_append,List.append_assoc]
   rw [<- List.append_assoc,<- hlen]
   exact List.take_left
 rcases hown.2 with ⟨rfl,rfl⟩ | ⟨g,cap,cur,rfl,hbg,hg,hnc,hcm,hcs,htake⟩
 ·have hx:xs = []:=List.eq_nil_of_length_eq_zero (by simpa using hown.1)
  subst hx
  by_cases hm:m = 0
  ·subst hm
   have hn:news = []:=List.eq_nil_of_length_eq_zero (by simpa using hl)
   subst hn
   refine ⟨.slice none 0 0,w,?_,World.ownsRow_nil w 0 e i.size,.inl ⟨rfl,⟨rfl,rfl,rfl,Nat.le_refl _,fun _ _ _=>rfl⟩⟩⟩
   simp [Builtin.append_,run_underlying ht,sizeOf,typeInfo,hi,Builtin.lenOf,Builtin.firstCells,loadCells,loadCellsFrom]
  ·have hr:=run_append_nil (P:=P) w t ty e i z ht hi hz a m c news hl hnews (by omega) (by omega) (by have hb:=hbytes; simp only [Nat.zero_add] at hb; omega)
   have hgr:=grown 0 (by omega) none
   simp only [Nat.zero_add,List.nil_append,Array.empty_append] at hgr ⊢
   exact ⟨_,_,hr,hgr.1,.inr ⟨_,rfl,Nat.le_refl _,hgr.2⟩⟩
 ·by_cases hroom:n + m<=cap
  ·have hfit:n * i.size + news.length<=cur.size:=by rw [hl,hcs,<- Nat.add_mul]; exact Nat.mul_le_mul_right _ hroom
   have hr:=run_append_roomF (P:=P) w t ty e i ht hi g n cap cur (0,0) hg (Nat.zero_le _) a m c news hl hnews h1 hroom hfit
   refine ⟨_,_,hr,⟨hlen,.inr ⟨g,cap,_,rfl,hbg,setRow_heap w g cur _ e _ hg,hroom,hcm,?_,?_⟩⟩,.inl ⟨rfl,⟨rfl,rfl,rfl,by simp,fun k _ hk=>setRow_other w g k _ (fun e=>hk (by simp [Value.ownBlock,e]))⟩⟩⟩
   ·simp only [List.size_toArray,List.length_append,List.length_take,List.length_drop,Array.length_toList]
    omega
   ·rw [htake,<- hlen]
    exact List.take_left
  ·have holds:∀ j u,xs[j]? = some u->w.cell? ((⟨g,0,none⟩:Addr).add j) = some u:=(World.ownsRowF_of hown).cells (g:=g) rfl
   have hr:=run_append_grow (P:=P) w t ty e i z ht hi hz ⟨g,0,none⟩ n cap xs hown.1 holds a m c news hl hnews (by omega) (by omega) (growslice_fits (by omega) hbytes)
   have hgr:=grown cap (by omega) none
   exact ⟨_,_,hr,hgr.1,.inr ⟨_,rfl,Nat.le_refl _,hgr.2⟩⟩
end
section
variable {α:Type} {f:α->List Value} {n:Nat} {E:TypeId}
def cellsG (f:α->List Value) (l:List α):List Value:=l.flatMap f
theorem cellsG_cons (x:α) (l:List α):cellsG f (x :: l) = f x ++ cellsG f l:=rfl
theorem cellsG_append (l m:List α):cellsG f (l ++ m) = cellsG f l ++ cellsG f m:=by simp [cellsG]
theorem cellsG_one (x:α):cellsG f [x] = f x:=by simp [cellsG]
theorem cellsG_length (hf:∀ x,(f x).length = n):∀ l:List α,(cellsG f l).length = l.length * n
 | []=>by simp [cellsG]
 | x :: l=>by rw [cellsG_cons,List.length_append,hf,cellsG_length hf l,List.length_cons,Nat.succ_mul]; omega
theorem cellsG_get (hf:∀ x,(f x).length = n):∀ {l:List α} {k:Nat} {x:α},l[k]? = some x->∀ {j:Nat} {u:Value},(f x)[j]? = some u->(cellsG f l)[k * n + j]? = some u
 | [],k,x,h,_,_,_=>by simp at h
 | a :: l,0,x,h,j,u,hj=>by
  have e:a = x:=by simpa using h
  subst e
  rw [cellsG_cons,Nat.zero_mul,Nat.zero_add,List.getElem?_append_left (List.getElem?_eq_some_iff.1 hj).1]
  exact hj
 | a :: l,k + 1,x,h,j,u,hj=>by
  have ih:=cellsG_get hf (l:=l) (k:=k) (x:=x) (by simpa using h) hj
  rw [cellsG_cons,show (k + 1) * n + j = (f a).length + (k * n + j) by rw [hf,Nat.succ_mul]; omega,List.getElem?_append_right (by omega),Nat.add_sub_cancel_left]
  exact ih
theorem cellsG_at (hf:∀ x,(f x).length = n) (hn:0 < n):∀ {l:List α} {j:Nat} {u:Value},(cellsG f l)[j]? = some u->∃ x,l[j / n]? = some x/\(f x)[j % n]? = some u
 | [],j,u,h=>by simp [cellsG] at h
 | a :: l,j,u,h=>by
  rw [cellsG_cons] at h
  by_cases hj:j < n
  ·rw [List.getElem?_append_left (by rw [hf]; exact hj)] at h
   exact ⟨a,by rw [Nat.div_eq_of_lt hj]; rfl,by rw [Nat.mod_eq_of_lt hj]; exact h⟩
  ·rw [List.getElem?_append_right (by rw [hf]; omega),hf] at h
   obtain ⟨x,h1,h2⟩:=cellsG_at hf hn h
   have e1:j / n = (j - n) / n + 1:=by rw [Nat.div_eq_sub_div hn (by omega)]
   have e2:j % n = (j - n) % n:=Nat.mod_eq_sub_mod (by omega)
   exact ⟨x,by rw [e1]; simpa using h1,by rw [e2]; exact h2⟩
theorem cellsG_one' (h1:∀ x,∀ u ∈ f x,u.oneCell' = true) (l:List α):∀ u ∈ cellsG f l,u.oneCell' = true:=by
 intro u hu
 unfold cellsG at hu
 obtain ⟨x,_,hx⟩:=List.mem_flatMap.1 hu
 exact h1 x u hx
theorem recs_turn {W W':World} {v:Value} {g off:Nat} {l:List α} (h:Recs n f W v g off l) (q:Qt W W'):Recs n f W' v g off l:=⟨h.val,h.le,fun k o hk j u hj=>q.cellv (h.cells k o hk j u hj)⟩
theorem recs_kept {S:Nat->Prop} {W W':World} {v:Value} {g off:Nat} {l:List α} (h:Recs n f W v g off l) (q:Keeps S W W') (hS:l ≠ []->¬ S g):Recs n f W' v g off l:=⟨h.val,h.le,fun k o hk j u hj=>q.cellv (h.cells k o hk j u hj) (hS (by rintro rfl; simp at hk))⟩
theorem recs_lt (hn:0 < n) (hf:∀ x,(f x).length = n) {W:World} {v:Value} {g off:Nat} {l:List α} (h:Recs n f W v g off l) (hl:l ≠ []):g < W.heap.size:=by
 obtain ⟨x,r,rfl⟩:=List.exists_cons_of_ne_nil hl
 exact World.block_lt_of_cell? W _ (h.cells 0 x rfl 0 ((f x)[0]'(by rw [hf]; exact hn)) (List.getElem?_eq_getElem _))
theorem recs_news (hf:∀ x,(f x).length = n) (hn:0 < n) {W:World} {a:Option Addr} {m c g o:Nat} {l:List α} (h:Recs n f W (.slice a m c) g o l):cellsG f l ≠ []->∃ p,a = some p/\∀ (j:Nat) (u:Value),(cellsG f l)[j]? = some u->W.cell? (p.add j) = some u:=by
 intro hne
 have hl:l ≠ []:=by rintro rfl; exact hne rfl
 obtain ⟨a',cap,e,ha⟩:=h.val
 injection e with e1 e2 e3
 refine ⟨⟨g,o,none⟩,e1.trans (ha hl),fun j u hj=>?_⟩
 rw [add_plain]
 obtain ⟨x,h1,h2⟩:=cellsG_at hf hn hj
 have:=h.cells _ x h1 _ u h2
 rwa [show o + j / n * n + j % n = o + j by rw [Nat.add_assoc,Nat.mul_comm,Nat.div_add_mod]] at this
structure NewG (f:α->List Value) (n:Nat) (E:TypeId) (w wr:World) (v:Value) (l:List α):Prop where
 own:wr.ownsRow 0 E n v l.length (cellsG f l)
 new:∀ g,v.ownBlock = some g->w.heap.size<=g
 qt:Qt w wr
theorem NewG.quiet {w wr w2:World} {v:Value} {l:List α} (h:NewG f n E w wr v l) (k:Qt wr w2):NewG f n E w w2 v l:=⟨ownsRow_kept h.own k (fun _ _ e=>e),h.new,Qt.trans h.qt k⟩
theorem ownG_frozen {w:World} {g N m c:Nat} {xs:List Value} (h:w.ownsRow 0 E n (.slice (some ⟨g,0,none⟩) N c) m xs) (j:Nat):w.frozen? ⟨g,j,none⟩ = false:=by
 rcases h.2 with ⟨h2,_⟩ | ⟨g',cap',cur,e2,hb,hg,_⟩
 ·cases h2
 ·injection e2 with e2 e3 e4
  injection e2 with e2
  injection e2 with e2
  subst e2
  exact Lib.frozen_of_heap hg j
theorem ownG_in (hf:∀ x,(f x).length = n) {w:World} {v:Value} {l:List α} (h:w.ownsRow 0 E n v l.length (cellsG f l)) (hl:l.length<=17592186044416):∃ g,Recs n f w v g 0 l/\∀ x,v.ownBlock = some x->x = g:=by
 rcases h.2 with ⟨e,h0⟩ | ⟨g,cap,cur,e,_⟩
 ·have h1:l = []:=List.length_eq_zero_iff.1 h0
  subst h1
  exact ⟨0,⟨⟨none,0,e,fun h=>absurd rfl h⟩,hl,fun k o hk=>by simp at hk⟩,fun x hx=>by rw [e] at hx; cases hx⟩
 ·subst e
  refine ⟨g,⟨⟨_,cap,rfl,fun _=>rfl⟩,hl,fun k o hk j u hj=>?_⟩,fun x hx=>by injection hx with hx; exact hx.symm⟩
  have hc:=(World.ownsRowF_of h).cells (g:=g) rfl _ u (cellsG_get hf hk hj)
  rw [add_plain,Nat.zero_add] at hc
  rw [Nat.zero_add]
  exact hc
theorem ownG_shape {w:World} {v:Value} {m:Nat} {xs:List Value} (h:w.ownsRow 0 E n v m xs):∃ a c,v = .slice a m c:=by
 rcases h.2 with ⟨e,h0⟩ | ⟨g,cap,cur,e,_⟩
 ·exact ⟨none,0,by rw [e,h0]⟩
 ·exact ⟨_,_,e⟩
theorem ownG_some {w:World} {a:Option Addr} {m c k:Nat} {xs:List Value} (h:w.ownsRow 0 E n (.slice a m c) k xs) (hk:0 < k):∃ g,a = some ⟨g,0,none⟩:=by
 rcases h.2 with ⟨_,h0⟩ | ⟨g,cap,cur,e,_⟩
 ·omega
 ·injection e with e; exact ⟨g,e⟩
theorem ownG_cap {w:World} {a:Option Addr} {k m c:Nat} {xs:List Value} (h:w.ownsRow 0 E n (.slice a k c) m xs):m<=c/\(a = none\/∃ g,a = some ⟨g,0,none⟩):=by
 rcases h.2 with ⟨e,h0⟩ | ⟨g,cap,cur,e,hb,hg,hnc,_⟩
 ·injection e with e1 e2 e3
  exact ⟨by omega,.inl e1⟩
 ·injection e with e1 e2 e3
  exact ⟨by omega,.inr ⟨g,e1⟩⟩
theorem ownG_more {W x y:World} {v v':Value} {m:Nat} {l k:List α} {xs:List Value} (hv:∀ g,v.ownBlock = some g->W.heap.size<=g) (q:Qt W x) (hn:m = (l ++ k).length) (hx:xs = cellsG f (l ++ k))
  (own:y.ownsRow 0 E n v' m xs) (gr:x.grownBy y v.ownBlock) (la:Later x v.ownBlock v'.ownBlock) :
  NewG f n E W y v' (l ++ k):=by
 have hz:=q.size
 refine ⟨by rw [<- hn,<- hx]; exact own,fun g e=>?_,Keeps.grown q gr (fun j hj e=>by have:=hv j e.symm; omega)⟩
 rcases la with r | ⟨x',r,hx'⟩
 ·exact hv g (r ▸ e)
 ·rw [r] at e
  injection e with e
  subst e
  omega
end
theorem newsG (W:World) (xs:List Value) (t:TypeId):∀ (j:Nat) (u:Value),xs[j]? = some u->(W.alloc (.cells xs.toArray t)).cell? ((⟨W.heap.size,0,none⟩:Addr).add j) = some u:=by
 intro j u h
 rw [add_plain,Nat.zero_add,cell_of_row _ _ _ _ _ _ (heap_alloc_new W (.cells xs.toArray t)),<- h]
 simp
instance:DecidableEq Bt.O:=fun a b=>match a,b with
 | ⟨d1,k1,v1⟩,⟨d2,k2,v2⟩=>if h:d1 = d2/\k1 = k2/\v1 = v2 then isTrue (by obtain ⟨h1,h2,h3⟩:=h; rw [h1,h2,h3]) else isFalse (fun e=>by injection e with e1 e2 e3; exact h ⟨e1,e2,e3⟩)
abbrev opV (r:Bt.O):Value:=.agg #[.bool r.del,strV r.key,strV r.val]
def opC (r:Bt.O):List Value:=[.bool r.del,strV r.key,strV r.val]
theorem opC_len (r:Bt.O):(opC r).length = 3:=rfl
abbrev opsC (l:List Bt.O):List Value:=cellsG opC l
theorem infoOp12:(Tryz.prog.info? 87).map (fun i=>(i.zero,i.size,i.bytes)) = some (some (.agg #[.bool false,.string ⟨#[]⟩,.string ⟨#[]⟩]),3,40):=by kernel_rfl
theorem opsC_length (l:List Bt.O):(opsC l).length = l.length * 3:=cellsG_length opC_len l
theorem opsC_one' (l:List Bt.O):∀ u ∈ opsC l,u.oneCell' = true:=cellsG_one' (fun r u hr=>by
 simp only [opC,List.mem_cons,List.not_mem_nil,or_false] at hr
 rcases hr with rfl | rfl | rfl <;> rfl) l
abbrev OpsIn (W:World) (v:Value) (g off:Nat) (l:List Bt.O):Prop:=Recs 3 opC W v g off l
abbrev NewO (w wr:World) (v:Value) (l:List Bt.O):Prop:=NewG opC 3 87 w wr v l
theorem OpsIn.cell {W:World} {v:Value} {g off:Nat} {l:List Bt.O} (h:OpsIn W v g off l) {k:Nat} {r:Bt.O} (hk:l[k]? = some r):W.cell? ⟨g,off + k * 3,none⟩ = some (.bool r.del)/\W.cell? ⟨g,off + k * 3 + 1,none⟩ = some (strV r.key)/\W.cell? ⟨g,off + k * 3 + 2,none⟩ = some (strV r.val) :=
 ⟨h.cells k r hk 0 _ rfl,h.cells k r hk 1 _ rfl,h.cells k r hk 2 _ rfl⟩
theorem op_new0 (W:World):(W.alloc (.cells #[] 87)).ownsRow 0 87 3 (.slice (some ⟨W.heap.size,0,none⟩) 0 0) 0 (opsC []) :=
 ⟨rfl,.inr ⟨W.heap.size,0,#[],rfl,Nat.zero_le _,heap_alloc_new W _,Nat.le_refl _,by decide,rfl,rfl⟩⟩
theorem run_equal_op (p q:Bt.O) (w:World):(Op.equalIn 10000 87 (opV p) (opV q)).run Tryz.prog w = .ok (decide (p = q)) w:=by
 obtain ⟨d1,a1,b1⟩:=p
 obtain ⟨d2,a2,b2⟩:=q
 have hs:(decide ((⟨d1,a1,b1⟩:Bt.O) = ⟨d2,a2,b2⟩)) = (decide (d1 = d2) && (decide (a1 = a2) && decide (b1 = b2))):=by
  rw [Bool.eq_iff_iff]
  simp
 have hp:Tryz.prog.stoodInHeld 87 = false:=by kernel_rfl
 have ht:Tryz.prog.underlying 87 = some (.struct (Tryz.prog.fieldsOf 87)):=by kernel_rfl
 rw [hs,run_equalIn_struct w 9999 _ _ _ ht hp]
 have e9:=fun (a b:ByteArray)=>run_equalIn_string (P:=Tryz.prog) w 9998 9 a b Tryz.underlying9
 have e8:=fun (a b:Bool)=>run_equalIn_bool (P:=Tryz.prog) w 9998 4 a b Tryz.underlying4
 have hf:(Tryz.prog.fieldsOf 87).toList = [{ name:= "Delete",type:=4,offset:=0,embedded:=false,tag:= "",pkgPath:= "",byteOffset:=0 },{ name:= "Key",type:=9,offset:=1,embedded:=false,tag:= "",pkgPath:= "",byteOffset:=8 },{ name:= "Value",type:=9,offset:=2,embedded:=false,tag:= "",pkgPath:= "",byteOffset:=24 }]:=by kernel_rfl
 have a9:∀ W,(isAgg 9).run Tryz.prog W = .ok false W:=Tryz.isAgg9
 have a8:∀ W,(isAgg 4).run Tryz.prog W = .ok false W:=Tryz.isAgg4
 rw [hf]
 unfold strV
 simp only [Op.eqFields,part,Sem.run_bind,a8,Result.andThen_ok,Bool.false_eq_true,if_false,Sem.run_pure,ne_eq,String.reduceEq,not_false_eq_true,if_true,List.getElem?_toArray,List.getElem?_cons_zero,List.getElem?_cons_succ,e8]
 by_cases h0:d1 = d2
 ·subst h0
  by_cases h1:a1 = a2
  ·subst h1
   by_cases h2:b1 = b2
   ·simp [h2,e9,Sem.run_bind,a9]
   ·simp [h2,e9,Sem.run_bind,a9]
  ·simp [h1,e9,Sem.run_bind,a9]
 ·simp [h0]
theorem run_neq_op (p q:Bt.O) (w:World):(binOp .neq 87 (opV p) (opV q)).run Tryz.prog w = .ok (.bool (!decide (p = q))) w:=by
 rw [run_neq_struct,run_equal_op]; rfl
end Go.Proofs.YthjjfjhajadimaaGreatDoor
