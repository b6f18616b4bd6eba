/-
  Laws of memory that a disk's walks want: a whole row loaded in a region that draws and only reads ahead of its last steps; cells appended at a step of a region; cells copied.
-/
import Derived.Test.YthjjfjhajadimaaGreatDoorP08
import Derived.Deep.MidRow
import Derived.Lib.SlBuf
import Derived.Lib.LazyBuf
import Derived.StillTailTactics
namespace Go.Proofs.YthjjfjhajadimaaGreatDoor
open Go.RowKit Go.WideShapes
set_option maxRecDepth 100000
section
variable {P:Program}
theorem still_load_mid {ops:Array Oper} {w:World} {Q:Act->Prop} {a:Act} {o:Oper} {rest:List Oper} (hgd:o.guard = none) (ty:TypeId) (x:Operand) (ho:o.op = .load ty x)
  (b f:Nat) (hx:a.eval x = .pointer (some ⟨b,f,none⟩)) (cs:List Value) (d:TypeDesc) (hc:w.rangeAt b f cs) (hu:P.underlying ty = some d) (hd:d.isRow = true) (hi:(P.info? ty).map (·.size) = some cs.length)
  (h:wpStill P ops w Q rest (a.put o.dst (.agg cs.toArray))):wpStill P ops w Q (o :: rest) a:=by
 refine wpStill_step (fun K hK=>?_)
 have hw:Region.wanted o (yielded ops a.tmps) = true:=by simp [Region.wanted,hgd]
 rw [if_pos hw]
 unfold Oper.still execOp
 simp only [ho,hx,Instr.loadAt,Instr.sureAddr,Sem.run_bind,Sem.run_pure,Result.andThen_ok,run_loadVar_mid w b f ty cs d hc hu hd hi]
 rw [Oper.stillUpon_value]
 exact hK _ h
theorem wpAny_tail {md:Region.Mode} {ops:Array Oper} {Q:Exit->Act->World->Prop} (k g:Nat) {listed:Array Bool} {a:Act} {w:World} (hg:(ops.toList.drop k).length = g) (hB:Region.seqB md ops g k listed = true) (h:wpList P ops Q (ops.toList.drop k) a w):wpAny P md ops Q g listed a w:=by
 subst hg
 exact wpAny_of_seq _ k listed a w (fun j=>by simp) hB h
theorem step_load_mid {ops:Array Oper} {w:World} {Q:Exit->Act->World->Prop} {K:Act->World->Prop} {E:Prop} {a:Act} {o:Oper} (hgd:o.guard = none) (ty:TypeId) (x:Operand) (ho:o.op = .load ty x)
  (b f:Nat) (hx:a.eval x = .pointer (some ⟨b,f,none⟩)) (cs:List Value) (d:TypeDesc) (hc:w.rangeAt b f cs) (hu:P.underlying ty = some d) (hd:d.isRow = true) (hi:(P.info? ty).map (·.size) = some cs.length)
  (h:K (a.put o.dst (.agg cs.toArray)) w):if Region.wanted o (yielded ops a.tmps) = true then Oper.wp P o a w K Q else E:=by
 have hw:Region.wanted o (yielded ops a.tmps) = true:=by simp [Region.wanted,hgd]
 rw [if_pos hw]
 exact wp_load_mid ty x ho b f hx cs d hc hu hd hi h
theorem step_append_cells {w:World} {ops:Array Oper} {o:Oper} {a:Act} {K:Act->World->Prop} {Q:Exit->Act->World->Prop} {E:Prop} (hgd:o.guard = none) (s x:Operand) (t:TypeId)
  (ho:o.op = .call { callee:=.builtin .append,args:=#[s,x],argTypes:=#[t,t] })
  (e:TypeId) (i:TypeInfo) (z:Value) (size bytes:Nat) (ht:P.underlying t = some (.slice e)) (hi:P.info? e = some i) (hz:i.zero = some z) (hsize:i.size = size) (hby:i.bytes = bytes) (hzs:z.cells.size = size) (hsz:0 < size)
  (v:Value) (n:Nat) (xs:List Value) (hs:a.eval s = v) (hown:w.ownsRow 0 e size v n xs)
  (ad:Addr) (c:Nat) (us:List Value) (hl:us.length = size) (hx:a.eval x = .slice (some ad) 1 c) (hnews:∀ (j:Nat) y,us[j]? = some y->w.cell? (ad.add j) = some y) (h1:∀ u ∈ us,u.oneCell' = true)
  (h63:n + 1<=maxLen) (hbytes:(n + 1) * bytes<=140737488355328)
  (h:∀ g' cap' w',w'.ownsRow 0 e size (.slice (some ⟨g',0,none⟩) (n + 1) cap') (n + 1) (xs ++ us)->((some g' = v.ownBlock/\w.grownBy w' v.ownBlock)\/(w.heap.size<=g'/\w.grownBy w' none))->K (a.put o.dst (.slice (some ⟨g',0,none⟩) (n + 1) cap')) w') :
  if Region.wanted o (yielded ops a.tmps) = true then Oper.wp P o a w K Q else E:=by
 have hw:Region.wanted o (yielded ops a.tmps) = true:=by simp [Region.wanted,hgd]
 rw [if_pos hw]
 obtain ⟨v',w',hr,h2,h3⟩:=run_append_cells1 (P:=P) w t o.type e i z size bytes ht hi hz hsize hby hzs hsz v n xs hown ad 1 c us (by omega) hnews h1 h63 hbytes
 have hform:∃ g cap,v' = .slice (some ⟨g,0,none⟩) (n + 1) cap:=by
  rcases h2.2 with ⟨_,h0⟩ | ⟨g,cap,cur,e',_⟩
  ·omega
  ·exact ⟨g,cap,e'⟩
 obtain ⟨g',cap',rfl⟩:=hform
 unfold Oper.wp execOp
 simp only [ho,resolve,invoke,builtin,Sem.run_bind,Sem.run_pure,Result.andThen_ok,List.map_toArray,List.map_cons,List.map_nil,hs,hx,hr]
 refine h g' cap' w' h2 ?_
 rcases h3 with ⟨q,h3⟩ | ⟨g,q,hg,h3⟩
 ·exact .inl ⟨q,h3⟩
 ·simp [Value.ownBlock] at q
  subst q
  exact .inr ⟨hg,h3⟩
theorem wpList_append_way1 {w:World} {ops:Array Oper} {rest:List Oper} {o:Oper} {a:Act} {Q:Exit->Act->World->Prop} (hgd:o.guard = none) (s x:Operand) (t:TypeId)
  (ho:o.op = .call { callee:=.builtin .append,args:=#[s,x],argTypes:=#[t,t] })
  (e:TypeId) (i:TypeInfo) (z:Value) (size bytes:Nat) (ht:P.underlying t = some (.slice e)) (hi:P.info? e = some i) (hz:i.zero = some z) (hsize:i.size = size) (hby:i.bytes = bytes) (hzs:z.cells.size = size) (hsz:0 < size)
  (v:Value) (n:Nat) (xs:List Value) (hs:a.eval s = v) (hown:w.ownsRow 0 e size v n xs)
  (ad:Addr) (c:Nat) (us:List Value) (hl:us.length = size) (hx:a.eval x = .slice (some ad) 1 c) (hnews:∀ (j:Nat) y,us[j]? = some y->w.cell? (ad.add j) = some y) (h1:∀ u ∈ us,u.oneCell' = true)
  (h63:n + 1<=maxLen) (hbytes:(n + 1) * bytes<=140737488355328)
  (h:∀ g' cap' w',w'.ownsRow 0 e size (.slice (some ⟨g',0,none⟩) (n + 1) cap') (n + 1) (xs ++ us)->((some g' = v.ownBlock/\w.grownBy w' v.ownBlock)\/(w.heap.size<=g'/\w.grownBy w' none))->wpList P ops Q rest (a.put o.dst (.slice (some ⟨g',0,none⟩) (n + 1) cap')) w') :
  wpList P ops Q (o :: rest) a w:=by
 refine wpList_plain hgd fun K hK=>?_
 have hw:Region.wanted o (yielded ops a.tmps) = true:=by simp [Region.wanted,hgd]
 have q:=step_append_cells (K:=K) (Q:=Q) (E:=False) hgd s x t ho e i z size bytes ht hi hz hsize hby hzs hsz v n xs hs hown ad c us hl hx hnews h1 h63 hbytes (ops:=ops) (fun g' cap' w' h2 h3=>hK _ _ (h g' cap' w' h2 h3))
 rw [if_pos hw] at q
 exact q
end
theorem take_set_self {l:List Value} {k:Nat} {u:Value} (h:k < l.length):(l.set k u).take (k + 1) = l.take k ++ [u]:=by
 rw [List.take_succ_eq_append_getElem (by simpa using h),List.take_set_of_le (Nat.le_refl k)]
 simp
theorem fill_list:∀ (us:List Value) (k:Nat) (cs:Array Value),k + us.length = cs.size->((us.zipIdx k).foldl (fun cs (p:Value × Nat)=>cs.setIfInBounds p.2 p.1) cs).toList = cs.toList.take k ++ us
 | [],k,cs,h=>by simp at h; subst h; simp [<- Array.length_toList]
 | u :: r,k,cs,h=>by
  rw [List.zipIdx_cons,List.foldl_cons]
  simp only [List.length_cons] at h
  rw [fill_list r (k + 1) _ (by simp; omega)]
  simp only [Array.toList_setIfInBounds]
  rw [take_set_self (by simp; omega),List.append_assoc]
  rfl
theorem run_buildSlice_one {P:Program} (w:World) (t e:TypeId) (i:TypeInfo) (z:Value) (us:List Value) (ht:P.underlying t = some (.slice e)) (hi:P.info? e = some i) (hz:i.zero = some z) (hs:i.size = us.length) (h0:0 < us.length) (h24:us.length<=16777216) :
  (Instr.buildSlice t 1 #[(0,.agg us.toArray)]).run P w = .ok (.slice (some ⟨w.heap.size,0,none⟩) 1 1) (w.alloc (.cells us.toArray e)):=by
 have hsz:(sizeOf e).run P w = .ok us.length w:=by simp [sizeOf,typeInfo,hi,hs]
 have hzv:(zeroValue e).run P w = .ok z w:=by simp [zeroValue,typeInfo,hi,hz]
 have hfill:∀ cs:Array Value,cs.size = us.length->Instr.fill (fun i=>some (i * us.length,us.length)) cs [(0,Value.agg us.toArray)] = some us.toArray:=by
  intro cs hc
  have hu:(Value.agg us.toArray).cells = us.toArray:=rfl
  have hlast:=fill_list us 0 cs (by omega)
  simp only [List.take_zero,List.nil_append] at hlast
  have hfold:(Value.agg us.toArray).cells.zipIdx.foldl (fun cs (p:Value × Nat)=>cs.setIfInBounds p.2 p.1) cs = us.toArray:=by
   apply Array.toList_inj.1
   rw [hu,<- Array.foldl_toList]
   simpa using hlast
  unfold Instr.fill
  simp only [Nat.zero_mul,Nat.zero_add]
  rw [if_neg (by simp [hu,hc])]
  unfold Instr.fill
  exact congrArg some hfold
 unfold Instr.buildSlice
 have h24':¬ (1 * us.length > 2 ^ 24):=by omega
 have h0':¬ (1 * us.length = 0):=by omega
 simp only [Sem.run_bind,run_underlying ht,Result.andThen_ok,hsz,h24',h0',if_false,hzv,Sem.run_pure]
 rw [hfill _ (by simp)]
 simp only [newRow,Sem.run_bind,run_newObj,Result.andThen_ok,Sem.run_pure]
 rfl
theorem step_buildSlice_one {P:Program} {w:World} {ops:Array Oper} {o:Oper} {a:Act} {K:Act->World->Prop} {Q:Exit->Act->World->Prop} {E:Prop} (hgd:o.guard = none) (t e:TypeId) (x:Operand) (ho:o.op = .buildSlice t 1 #[(0,x)]) (i:TypeInfo) (z:Value) (us:List Value) (hx:a.eval x = .agg us.toArray)
  (ht:P.underlying t = some (.slice e)) (hi:P.info? e = some i) (hz:i.zero = some z) (hs:i.size = us.length) (h0:0 < us.length) (h24:us.length<=16777216)
  (h:K (a.put o.dst (.slice (some ⟨w.heap.size,0,none⟩) 1 1)) (w.alloc (.cells us.toArray e))):if Region.wanted o (yielded ops a.tmps) = true then Oper.wp P o a w K Q else E:=by
 have hw:Region.wanted o (yielded ops a.tmps) = true:=by simp [Region.wanted,hgd]
 rw [if_pos hw]
 unfold Oper.wp execOp
 have hr:=run_buildSlice_one (P:=P) w t e i z us ht hi hz hs h0 h24
 simp only [ho,List.map_toArray,List.map_cons,List.map_nil,hx,Sem.run_bind,hr,Result.andThen_ok,Sem.run_pure]
 exact h
theorem wpList_buildSlice_one {P:Program} {w:World} {ops:Array Oper} {rest:List Oper} {o:Oper} {a:Act} {Q:Exit->Act->World->Prop} (hgd:o.guard = none) (t e:TypeId) (x:Operand) (ho:o.op = .buildSlice t 1 #[(0,x)]) (i:TypeInfo) (z:Value) (us:List Value) (hx:a.eval x = .agg us.toArray)
  (ht:P.underlying t = some (.slice e)) (hi:P.info? e = some i) (hz:i.zero = some z) (hs:i.size = us.length) (h0:0 < us.length) (h24:us.length<=16777216)
  (h:wpList P ops Q rest (a.put o.dst (.slice (some ⟨w.heap.size,0,none⟩) 1 1)) (w.alloc (.cells us.toArray e))):wpList P ops Q (o :: rest) a w:=by
 refine wpList_plain hgd fun K hK=>?_
 have hw:Region.wanted o (yielded ops a.tmps) = true:=by simp [Region.wanted,hgd]
 have q:=step_buildSlice_one (K:=K) (Q:=Q) (E:=False) (ops:=ops) hgd t e x ho i z us hx ht hi hz hs h0 h24 (hK _ _ h)
 rw [if_pos hw] at q
 exact q
theorem keeps_setCells (b:Nat):∀ (vs:List Value) (o:Nat) (w:World),Keeps (fun k=>k = b) w (w.setCells b o vs)
 | [],_,w=>Keeps.refl _ w
 | v :: r,o,w=>Keeps.trans (keeps_setCell w b o v) (keeps_setCells b r (o + 1) _) (fun _ _ e=>e)
theorem setCells_row {b:Nat} {t:TypeId}:∀ (vs:List Value) (o:Nat) (w:World) (C:Array Value),w.heap[b]? = some (.cells C t (0,0))->∃ C',(w.setCells b o vs).heap[b]? = some (.cells C' t (0,0))/\C'.size = C.size
 | [],_,_,C,h=>⟨C,h,rfl⟩
 | v :: r,o,w,C,h=>by
  obtain ⟨C',h1,h2⟩:=setCells_row r (o + 1) _ _ (setCell_row h o v)
  exact ⟨C',h1,by rw [h2]; simp⟩
theorem Dur.set {W:World} {g:Nat} {D:List (List UInt8)} (h:Dur W g D) (hD:∀ (i:Nat) (t:List UInt8),D[i]? = some t->t.length = 256) {p n:Nat} {s:List UInt8} (hp:p < D.length) (hn:n<=256) (hs:s.length = 256) :
  Dur (W.setCells g (p * 256) (Lib.byteCells (s.take n))) g (D.set p (tornBy (D.getD p []) s n)):=by
 obtain ⟨C,hC,hz⟩:=h.blk
 obtain ⟨C',hC',hz'⟩:=setCells_row (Lib.byteCells (s.take n)) (p * 256) W C hC
 have hl:(Lib.byteCells (s.take n)).length = n:=by rw [Lib.byteCells_length,List.length_take]; omega
 refine ⟨⟨C',hC',by rw [hz',hz,List.length_set]⟩,fun i t hi=>?_⟩
 rw [List.getElem?_set] at hi
 split at hi
 ·rename_i e
  subst e
  first | (rw [if_pos hp] at hi; injection hi with hi; subst hi) | (injection hi with hi; subst hi)
  have hold:D[p]? = some (D.getD p []):=by simp [List.getD,hp]
  intro j v hj
  unfold tornBy at hj
  rw [Lib.byteCells_append] at hj
  by_cases hjn:j < n
  ·rw [List.getElem?_append_left (by omega)] at hj
   have:=World.rangeAt_setCells_same W g (p * 256) (Lib.byteCells (s.take n)) (fun q hq=>?_) j v hj
   ·exact this
   ·have hq2:q < 256:=by omega
    exact ⟨(h.rng p _ hold).isSome q (by rw [Lib.byteCells_length,hD p _ hold]; exact hq2),frozen_of_row hC _⟩
  ·rw [List.getElem?_append_right (by omega),hl] at hj
   have hj':(Lib.byteCells (D.getD p []))[j]? = some v:=by
    simp only [Lib.byteCells,List.map_drop,List.getElem?_drop] at hj
    rw [show n + (j - n) = j by omega] at hj
    exact hj
   have hlj:=(List.getElem?_eq_some_iff.1 hj').1
   rw [World.cell?_setCells_out g _ (p * 256) W ⟨g,p * 256 + j,none⟩ (fun _ _=>.inr (by show p * 256 + (Lib.byteCells (s.take n)).length<=p * 256 + j; omega))]
   exact h.rng p _ hold j v hj'
 ·rename_i e
  have hti:=hD i t hi
  refine World.rangeAt_setCells_apart (h.rng i t hi) g (p * 256) _ (.inr ?_)
  rw [hl,Lib.byteCells_length,hti]
  rcases Nat.lt_or_gt_of_ne e with e | e
  ·right; have:p * 256 + 256<=i * 256:=by omega
   omega
  ·left; omega
end Go.Proofs.YthjjfjhajadimaaGreatDoor
