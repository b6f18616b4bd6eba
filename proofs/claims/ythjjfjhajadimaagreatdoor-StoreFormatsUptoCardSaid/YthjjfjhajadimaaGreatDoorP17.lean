/-
  Joined: OA, TTree, TMem, TNode, TTurn.
-/
import Derived.Test.YthjjfjhajadimaaGreatDoorP16
import Derived.Deep.RegionHeld3
namespace Go.Proofs.YthjjfjhajadimaaGreatDoor
open Go.RowKit Go.WideShapes
set_option maxRecDepth 100000
theorem kept_new {w w1 w2:World} {r1:Option Nat} (k1:Qt w w1) (k2:Kept w.heap.size none r1 w1 w2):Qt w w2 :=
 Keeps.trans (S:=fun _=>False) k1 k2.keeps (fun i hi e=>by
  rcases e with e | e
  ·omega
  ·cases e)
theorem out_new {w w1 w2 w3:World} {r1:Option Nat} (k1:Qt w w1) (k2:Kept w.heap.size none r1 w1 w2) (k3:Keeps (fun k=>some k = r1) w2 w3):Qt w w3 :=
 Keeps.trans (S:=fun _=>False) (kept_new k1 k2) k3 (fun i hi e=>by
  have:=k1.size
  rcases k2.later with q | ⟨g,q,hg⟩
  ·rw [q] at e; cases e
  ·rw [q] at e; injection e with e; omega)
theorem number13_any (n:Nat) (hn:n < 9223372036854775808) (w:World) :
  Calls Tryz.prog 118 #[.int .i64 (n:Int)] w fun e w'=>e = .returned (.int .i64 (((Lib.uvarint n).length:Nat):Int))/\Qt w w':=by
 have wz:IntKind.u64.wrap (n:Int) = (n:Int):=by rw [IntKind.wrap_u64]; omega
 have NEW:=wnew_any w
 go_enter Tryz.func118,Tryz.ntmps118
 go_wp2_with fail
 refine NEW.mono ?_
 rintro e w1 ⟨rfl,r1,k1,s1⟩
 have FX:=wuint_any w.heap.size none [] n w1 r1 (by decide) (by omega)
 have K1:=Lib.hid k1
 clear r1 k1 s1 NEW
 go_wp2_with fail
 refine FX.mono ?_
 rintro e w2 ⟨rfl,r,r2,k2⟩
 have LN:=wlen_any w.heap.size r _ w2 r2
 have FIN:=Lib.hid (kept_new K1.out k2)
 clear r2 k2 FX
 go_wp2_with fail
 refine LN.mono ?_
 rintro e w3 ⟨rfl,rfl⟩
 clear LN
 go_wp2
 go_ret
 exact ⟨rfl,FIN.out⟩
theorem text13_any (s:ByteArray) (hs:s.size<=1152921504606846976) (w:World) :
  Calls Tryz.prog 114 #[.string s] w fun e w'=>e = .returned (.int .i64 (((textB s.data.toList).length:Nat):Int))/\Qt w w':=by
 have NB:=number13_any s.size (by omega)
 have hl:=Lib.uvarint_length64 (x:=s.size) (by omega)
 have HT:=Lib.hid (show (((textB s.data.toList).length:Nat):Int) = (((Lib.uvarint s.size).length:Nat):Int) + (s.size:Int) by
  have e:s.data.toList.length = s.size:=rfl
  unfold textB
  rw [List.length_append,e]
  omega)
 generalize (Lib.uvarint s.size).length = L at *
 go_enter Tryz.func114,Tryz.ntmps114
 go_wp2_with fail
 refine (NB _).mono ?_
 rintro e w1 ⟨rfl,q1⟩
 go_wp2
 go_ret
 exact ⟨by rw [HT.out]; rfl,q1⟩
theorem results_six {fn:Func} {a b c d e f:Tmp} (h:fn.results = #[.tmp a,.tmp b,.tmp c,.tmp d,.tmp e,.tmp f]) (tmps:Array Value) (P:Program) (w:World) :
  (results fn tmps).run P w = .ok (.tuple #[tmps.getD a undef,tmps.getD b undef,tmps.getD c undef,tmps.getD d undef,tmps.getD e undef,tmps.getD f undef]) w:=by
 simp [results,h]
def layT (n:Nat):Value:=.tuple #[.int .i64 2,.int .i64 (2 + ((So.each n:Nat):Int)),.int .i64 ((So.each n:Nat):Int),.int .i64 ((So.logAt n:Nat):Int),.int .i64 ((So.many n:Nat):Int),.nilIface]
def layN (ad:Nat->Addr) (e:Nat):Value:=.tuple #[.int .i64 0,.int .i64 0,.int .i64 0,.int .i64 0,.int .i64 0,errV ad e]
def layR (ad:Nat->Addr) (n:Int):Value:=if So.layE n = 0 then layT n.toNat else layN ad (So.layE n)
theorem layE_in {n:Int} (h1:64<=n) (h2:n<=65536):So.layE n = 0:=by
 unfold So.layE
 rw [if_neg (by omega),if_neg (by omega)]
theorem layout13_any (ad:Nat->Addr) (n:Int) (w:World) (hE:Errs ad w) :
  Calls Tryz.prog 29 #[.int .i64 n] w fun e w'=>e = .returned (layR ad n)/\∃ m,w' = w.drewN m:=by
 by_cases h1:n < 64
 ·have FIN:=Lib.hid (show layR ad n = layN ad 13 from by unfold layR; rw [show So.layE n = 13 from if_pos h1]; rfl)
  have y:decide (n < 64) = true:=decide_eq_true h1
  have c13:w.cell? ⟨5,0,none⟩ = some (.iface 335 (.pointer (some (ad 13)))):=hE.cells 12 _ rfl
  clear hE h1
  go_enter Tryz.func29,Tryz.ntmps29
  go_wp2
  go_quiet (fail)
  go_wp2
  refine bodyPost_ret (results_six rfl _ _ _) rfl ?_
  exact ⟨by rw [FIN.out]; rfl,_,rfl⟩
 ·have y1:decide (n < 64) = false:=decide_eq_false h1
  by_cases h2:65536 < n
  ·have FIN:=Lib.hid (show layR ad n = layN ad 6 from by unfold layR; rw [show So.layE n = 6 from by unfold So.layE; rw [if_neg h1,if_pos h2]]; rfl)
   have y:decide (65536 < n) = true:=decide_eq_true h2
   have c6:w.cell? ⟨0,0,none⟩ = some (.iface 335 (.pointer (some (ad 6)))):=hE.cells 5 _ rfl
   clear hE h1 h2
   go_enter Tryz.func29,Tryz.ntmps29
   go_wp2
   go_quiet (fail)
   go_wp2
   refine bodyPost_ret (results_six rfl _ _ _) rfl ?_
   exact ⟨by rw [FIN.out]; rfl,_,rfl⟩
  ·have y2:decide (65536 < n) = false:=decide_eq_false h2
   have hin:=layE_in (n:=n) (by omega) (by omega)
   obtain ⟨m,rfl⟩:∃ m:Nat,n = m:=⟨n.toNat,by omega⟩
   have hq:((m:Int) - 2).tdiv 3 = ((So.each m:Nat):Int):=by unfold So.each; rw [Int.tdiv_eq_ediv_of_nonneg (by omega)]; omega
   have hlog:So.logAt m = 2 + So.each m + So.each m:=by unfold So.logAt; omega
   have hmany:((So.many m:Nat):Int) = (m:Int) - (2 + ((So.each m:Nat):Int) + ((So.each m:Nat):Int)):=by unfold So.many So.each; omega
   have hel:So.each m<=65536:=by unfold So.each; omega
   have HF:=Lib.hid (show layT m = .tuple #[.int .i64 2,.int .i64 (2 + ((So.each m:Nat):Int)),.int .i64 ((So.each m:Nat):Int),.int .i64 (2 + ((So.each m:Nat):Int) + ((So.each m:Nat):Int)),.int .i64 ((m:Int) - (2 + ((So.each m:Nat):Int) + ((So.each m:Nat):Int))),.nilIface] by
    unfold layT
    rw [hmany,hlog]
    simp)
   have h1':64<=m:=by omega
   have h2':m<=65536:=by omega
   have FIN:=Lib.hid (show layR ad (m:Int) = layT m from by unfold layR; rw [if_pos hin]; rfl)
   clear hE hlog hmany h1 h2 hin
   generalize So.each m = a at *
   go_enter Tryz.func29,Tryz.ntmps29
   go_wp2
   refine bodyPost_ret (results_six rfl _ _ _) rfl ?_
   refine ⟨?_,0,rfl⟩
   rw [FIN.out,HF.out]
   rfl
def layV (b n:Nat):Value:=.agg #[.pointer (some ⟨b,0,none⟩),.int .i64 2,.int .i64 (2 + ((So.each n:Nat):Int)),.int .i64 ((So.each n:Nat):Int),.int .i64 ((So.logAt n:Nat):Int),.int .i64 ((So.many n:Nat):Int)]
def layCells (b n:Nat):Array Value:=#[.pointer (some ⟨b,0,none⟩),.int .i64 2,.int .i64 (2 + ((So.each n:Nat):Int)),.int .i64 ((So.each n:Nat):Int),.int .i64 ((So.logAt n:Nat):Int),.int .i64 ((So.many n:Nat):Int)]
theorem lay_new (w:World) (b n:Nat):∃ W,w.alloc (.cells (layCells b n) 135) = W/\Qt w W/\W.heap[w.heap.size]? = some (.cells (layCells b n) 135 (0,0)):=⟨_,rfl,(Qt.refl w).alloc _,heap_alloc_new w _⟩
end Go.Proofs.YthjjfjhajadimaaGreatDoor
namespace Go.Proofs.YthjjfjhajadimaaGreatDoor.Tb
set_option maxRecDepth 100000
inductive Tr where
 | leaf
 | node (l:Tr) (r:R) (t:Tr)
def Tr.list:Tr->List R
 | .leaf=>[]
 | .node l r t=>l.list ++ r :: t.list
section
variable {a b:List R} {r:R} {k v:Txt}
theorem sorted_mid:Sorted (a ++ r :: b) ↔ Sorted a/\Sorted b/\(∀ x ∈ a,lt x.1 r.1 = true)/\(∀ x ∈ b,lt r.1 x.1 = true):=by
 unfold Sorted
 rw [List.pairwise_append,List.pairwise_cons]
 constructor
 ·rintro ⟨h1,⟨h2,h3⟩,h4⟩
  exact ⟨h1,h3,fun x hx=>h4 x hx r (by simp),h2⟩
 ·rintro ⟨h1,h2,h3,h4⟩
  refine ⟨h1,⟨h4,h2⟩,fun x hx y hy=>?_⟩
  rcases List.mem_cons.1 hy with rfl | hy
  ·exact h3 x hx
  ·exact lt_trans (h3 x hx) (h4 y hy)
theorem sorted_left (h:Sorted (a ++ r :: b)):Sorted a:=(sorted_mid.1 h).1
theorem sorted_right (h:Sorted (a ++ r :: b)):Sorted b:=(sorted_mid.1 h).2.1
theorem get_left (h:Sorted (a ++ r :: b)) (hk:lt k r.1 = true):get (a ++ r :: b) k = get a k:=by
 obtain ⟨h1,h2,h3,h4⟩:=sorted_mid.1 h
 cases e:get a k with
 | some u=>exact (get_some h).2 (List.mem_append_left _ ((get_some h1).1 e))
 | none =>
  refine get_none.2 fun x hx=>?_
  rcases List.mem_append.1 hx with hx | hx
  ·exact get_none.1 e x hx
  ·rcases List.mem_cons.1 hx with rfl | hx
   ·exact fun e=>lt_ne hk e.symm
   ·exact fun e=>lt_ne (lt_trans hk (h4 x hx)) e.symm
theorem get_right (h:Sorted (a ++ r :: b)) (hk:lt r.1 k = true):get (a ++ r :: b) k = get b k:=by
 obtain ⟨h1,h2,h3,h4⟩:=sorted_mid.1 h
 cases e:get b k with
 | some u=>exact (get_some h).2 (List.mem_append_right _ (List.mem_cons_of_mem _ ((get_some h2).1 e)))
 | none =>
  refine get_none.2 fun x hx=>?_
  rcases List.mem_append.1 hx with hx | hx
  ·exact lt_ne (lt_trans (h3 x hx) hk)
  ·rcases List.mem_cons.1 hx with rfl | hx
   ·exact lt_ne hk
   ·exact get_none.1 e x hx
theorem get_mid (h:Sorted (a ++ r :: b)):get (a ++ r :: b) r.1 = some r.2:=(get_some h).2 (by simp)
theorem put_left (h:Sorted (a ++ r :: b)) (hk:lt k r.1 = true):put (a ++ r :: b) k v = put a k v ++ r :: b:=by
 obtain ⟨h1,h2,h3,h4⟩:=sorted_mid.1 h
 refine sorted_ext (put_sorted h _ _) (sorted_mid.2 ⟨put_sorted h1 _ _,h2,fun x hx=>?_,h4⟩) fun x=>?_
 ·rcases put_mem.1 hx with rfl | ⟨hx,_⟩
  ·exact hk
  ·exact h3 x hx
 ·rw [put_mem,List.mem_append,List.mem_append,put_mem,List.mem_cons]
  constructor
  ·rintro (e | ⟨e | e | e,hn⟩)
   ·exact .inl (.inl e)
   ·exact .inl (.inr ⟨e,hn⟩)
   ·exact .inr (.inl e)
   ·exact .inr (.inr e)
  ·rintro ((e | ⟨e,hn⟩) | e | e)
   ·exact .inl e
   ·exact .inr ⟨.inl e,hn⟩
   ·exact .inr ⟨.inr (.inl e),fun c=>lt_ne hk (by rw [e] at c; exact c.symm)⟩
   ·exact .inr ⟨.inr (.inr e),fun c=>lt_ne (lt_trans hk (h4 x e)) c.symm⟩
theorem put_right (h:Sorted (a ++ r :: b)) (hk:lt r.1 k = true):put (a ++ r :: b) k v = a ++ r :: put b k v:=by
 obtain ⟨h1,h2,h3,h4⟩:=sorted_mid.1 h
 refine sorted_ext (put_sorted h _ _) (sorted_mid.2 ⟨h1,put_sorted h2 _ _,h3,fun x hx=>?_⟩) fun x=>?_
 ·rcases put_mem.1 hx with rfl | ⟨hx,_⟩
  ·exact hk
  ·exact h4 x hx
 ·rw [put_mem,List.mem_append,List.mem_append,List.mem_cons,List.mem_cons,put_mem]
  constructor
  ·rintro (e | ⟨e | e | e,hn⟩)
   ·exact .inr (.inr (.inl e))
   ·exact .inl e
   ·exact .inr (.inl e)
   ·exact .inr (.inr (.inr ⟨e,hn⟩))
  ·rintro (e | e | e | ⟨e,hn⟩)
   ·exact .inr ⟨.inl e,lt_ne (lt_trans (h3 x e) hk)⟩
   ·exact .inr ⟨.inr (.inl e),fun c=>lt_ne hk (by rw [e] at c; exact c)⟩
   ·exact .inl e
   ·exact .inr ⟨.inr (.inr e),hn⟩
theorem put_mid (h:Sorted (a ++ r :: b)):put (a ++ r :: b) r.1 v = a ++ (r.1,v) :: b:=by
 obtain ⟨h1,h2,h3,h4⟩:=sorted_mid.1 h
 refine sorted_ext (put_sorted h _ _) (sorted_mid.2 ⟨h1,h2,h3,h4⟩) fun x=>?_
 rw [put_mem,List.mem_append,List.mem_append,List.mem_cons,List.mem_cons]
 constructor
 ·rintro (e | ⟨e | e | e,hn⟩)
  ·exact .inr (.inl e)
  ·exact .inl e
  ·exact absurd (by rw [e]) hn
  ·exact .inr (.inr e)
 ·rintro (e | e | e)
  ·exact .inr ⟨.inl e,lt_ne (h3 x e)⟩
  ·exact .inl e
  ·exact .inr ⟨.inr (.inr e),fun c=>lt_ne (h4 x e) c.symm⟩
theorem del_noneT {l:List R} (h:∀ x ∈ l,x.1 ≠ k):del l k = l:=List.filter_eq_self.2 (fun x hx=>by simpa using h x hx)
theorem del_left (h:Sorted (a ++ r :: b)) (hk:lt k r.1 = true):del (a ++ r :: b) k = del a k ++ r :: b:=by
 obtain ⟨h1,h2,h3,h4⟩:=sorted_mid.1 h
 have e1:del (r :: b) k = r :: b:=del_noneT fun x hx=>by
  rcases List.mem_cons.1 hx with rfl | hx
  ·exact fun e=>lt_ne hk e.symm
  ·exact fun e=>lt_ne (lt_trans hk (h4 x hx)) e.symm
 unfold del at *
 rw [List.filter_append,e1]
theorem del_right (h:Sorted (a ++ r :: b)) (hk:lt r.1 k = true):del (a ++ r :: b) k = a ++ r :: del b k:=by
 obtain ⟨h1,h2,h3,h4⟩:=sorted_mid.1 h
 have e1:del a k = a:=del_noneT fun x hx=>lt_ne (lt_trans (h3 x hx) hk)
 unfold del at *
 rw [List.filter_append,e1,List.filter_cons_of_pos (by simpa using lt_ne hk)]
theorem del_mid (h:Sorted (a ++ r :: b)):del (a ++ r :: b) r.1 = a ++ b:=by
 obtain ⟨h1,h2,h3,h4⟩:=sorted_mid.1 h
 have e1:del a r.1 = a:=del_noneT fun x hx=>lt_ne (h3 x hx)
 have e2:del b r.1 = b:=del_noneT fun x hx=>fun e=>lt_ne (h4 x hx) e.symm
 unfold del at *
 rw [List.filter_append,e1,List.filter_cons_of_neg (by simp),e2]
theorem del_first (h:Sorted (r :: b)):del (r :: b) r.1 = b:=del_mid (a:=[]) h
theorem del_sum {l:List R} (h:Sorted l) (hg:get l k = some v):bytes (del l k) + (k.length + v.length) = bytes l:=by
 obtain ⟨a,b,rfl⟩:=List.append_of_mem ((get_some h).1 hg)
 rw [del_mid (r:=(k,v)) h,bytes_append,bytes_append,bytes_cons]
 simp only
 omega
theorem del_same {l:List R} (hg:get l k = none):del l k = l:=del_noneT (get_none.1 hg)
theorem put_sum (l:List R):bytes (put l k v) = bytes (del l k) + (k.length + v.length):=by
 unfold put
 rw [ins_bytes]
 simp only
 omega
theorem put_some {l:List R} {u:Txt} (h:Sorted l) (hg:get l k = some u):(bytes l:Int) - ((k.length:Int) + u.length) + ((k.length:Int) + v.length) = (bytes (put l k v):Int):=by
 have h1:=del_sum h hg
 have h2:=put_sum (v:=v) (k:=k) l
 omega
theorem put_new {l:List R} (hg:get l k = none):(bytes l:Int) + ((k.length:Int) + v.length) = (bytes (put l k v):Int):=by
 have h1:=del_same hg
 have h2:=put_sum (v:=v) (k:=k) l
 rw [h1] at h2
 omega
def inSpan (lo hi:Txt) (ends:Bool) (r:R):Bool:=!lt r.1 lo && !(ends && !lt r.1 hi)
def sel (lo hi:Txt) (ends:Bool) (l:List R):List R:=l.filter (inSpan lo hi ends)
theorem sel_from (l:List R) (lo hi:Txt):sel lo hi false l = fromL l lo:=by
 unfold sel fromL
 refine List.filter_congr fun x _=>?_
 unfold inSpan
 cases lt x.1 lo <;> rfl
variable {lo hi:Txt} {ends:Bool}
theorem sel_low (h:Sorted (a ++ r :: b)) (hr:lt r.1 lo = true):sel lo hi ends (a ++ r :: b) = sel lo hi ends b:=by
 obtain ⟨h1,h2,h3,h4⟩:=sorted_mid.1 h
 have e1:sel lo hi ends a = []:=List.filter_eq_nil_iff.2 fun x hx=>by simp [inSpan,lt_trans (h3 x hx) hr]
 unfold sel at *
 rw [List.filter_append,e1,List.filter_cons_of_neg (by simp [inSpan,hr])]
 rfl
theorem sel_high (h:Sorted (a ++ r :: b)) (he:ends = true) (hr:lt r.1 hi = false):sel lo hi ends (a ++ r :: b) = sel lo hi ends a:=by
 obtain ⟨h1,h2,h3,h4⟩:=sorted_mid.1 h
 have e1:sel lo hi ends b = []:=List.filter_eq_nil_iff.2 fun x hx=>by
  have:lt x.1 hi = false:=by
   cases e:lt x.1 hi with
   | false=>rfl
   | true=>rw [lt_trans (h4 x hx) e] at hr; cases hr
  simp [inSpan,this,he]
 unfold sel at *
 rw [List.filter_append,List.filter_cons_of_neg (by simp [inSpan,hr,he]),e1,List.append_nil]
theorem sel_mid (h1:lt r.1 lo = false) (h2:(ends && !lt r.1 hi) = false):sel lo hi ends (a ++ r :: b) = sel lo hi ends a ++ r :: sel lo hi ends b:=by
 unfold sel
 rw [List.filter_append,List.filter_cons_of_pos (by unfold inSpan; rw [h1,h2]; rfl)]
end
end Go.Proofs.YthjjfjhajadimaaGreatDoor.Tb
namespace Go.Proofs.YthjjfjhajadimaaGreatDoor
open Go.RowKit Go.WideShapes
set_option maxRecDepth 100000
def IsT (X:Nat->Prop) (W:World):Option Addr->Tb.Tr->Prop
 | p,.leaf=>p = none
 | p,.node l r t=>∃ (b:Nat) (pl pr:Option Addr),p = some ⟨b,0,none⟩/\X b/\W.cell? ⟨b,0,none⟩ = some (strV r.1)/\W.cell? ⟨b,1,none⟩ = some (strV r.2)/\W.cell? ⟨b,2,none⟩ = some (.pointer pl)/\W.cell? ⟨b,3,none⟩ = some (.pointer pr)/\W.cell? ⟨b,4,none⟩ = some (.int .i64 ((l.list.length + (t.list.length + 1):Nat):Int))/\IsT X W pl l/\IsT X W pr t
theorem IsT.more {X Y:Nat->Prop} {W:World} (h:∀ k,k < W.heap.size->X k->Y k):∀ {p:Option Addr} {T:Tb.Tr},IsT X W p T->IsT Y W p T
 | _,.leaf,ht=>ht
 | _,.node _ _ _,⟨b,pl,pr,hp,hb,c0,c1,c2,c3,c4,hl,hr⟩=>⟨b,pl,pr,hp,h b (World.block_lt_of_cell? W _ c0) hb,c0,c1,c2,c3,c4,IsT.more h hl,IsT.more h hr⟩
theorem IsT.kept {X K:Nat->Prop} {W W':World} (h:Keeps K W W') (hK:∀ k,X k->¬ K k):∀ {p:Option Addr} {T:Tb.Tr},IsT X W p T->IsT X W' p T
 | _,.leaf,ht=>ht
 | _,.node _ _ _,⟨b,pl,pr,hp,hb,c0,c1,c2,c3,c4,hl,hr⟩=>⟨b,pl,pr,hp,hb,h.cellv c0 (hK b hb),h.cellv c1 (hK b hb),h.cellv c2 (hK b hb),h.cellv c3 (hK b hb),h.cellv c4 (hK b hb),IsT.kept h hK hl,IsT.kept h hK hr⟩
theorem IsT.qt {X:Nat->Prop} {W W':World} (q:Qt W W') {p:Option Addr} {T:Tb.Tr} (h:IsT X W p T):IsT X W' p T:=h.kept q (fun _ _ e=>e)
theorem IsT.lt {X:Nat->Prop} {W:World} {p:Option Addr} {T:Tb.Tr} (h:IsT X W p T):IsT (fun k=>X k/\k < W.heap.size) W p T:=h.more (fun _ hk x=>⟨x,hk⟩)
set_option maxHeartbeats 400000 in
theorem count_any {X:Nat->Prop} {W:World} {p:Option Addr} {T:Tb.Tr} (h:IsT X W p T):Calls Tryz.prog 167 #[.pointer p] W fun e w'=>e = .returned (.int .i64 (T.list.length:Int))/\w' = W:=by
 cases T with
 | leaf =>
  obtain rfl:p = none:=h
  go_enter Tryz.func167,Tryz.ntmps167
  go_wp2
  go_ret
  exact ⟨rfl,rfl⟩
 | node l r t =>
  obtain ⟨b,pl,pr,rfl,_,_,_,_,_,c4,_,_⟩:=h
  rw [show (Tb.Tr.node l r t).list.length = l.list.length + (t.list.length + 1) by rw [Tb.Tr.list,List.length_append,List.length_cons]]
  generalize l.list.length + (t.list.length + 1) = n at *
  go_enter Tryz.func167,Tryz.ntmps167
  go_wp2
  go_ret
  exact ⟨rfl,rfl⟩
set_option maxHeartbeats 400000 in
theorem weight_any {X:Nat->Prop} {W:World} {p:Option Addr} {T:Tb.Tr} (h:IsT X W p T) (hb:T.list.length<=17592186044416):Calls Tryz.prog 268 #[.pointer p] W fun e w'=>e = .returned (.int .i64 ((T.list.length:Int) + 1))/\w' = W:=by
 have CN:=count_any h
 generalize T.list.length = n at *
 have lo:(0:Int)<=(n:Int) + 1:=by omega
 have hi:(n:Int) + 1<=9223372036854775807:=by omega
 go_enter Tryz.func268,Tryz.ntmps268
 go_wp2_with (go_at_call 167; refine CN.mono ?_; rintro e w' ⟨rfl,rfl⟩)
 go_ret
 exact ⟨rfl,rfl⟩
structure NodeR (W:World) (b:Nat) (r:Tb.R):Prop where
 key:W.cell? ⟨b,0,none⟩ = some (strV r.1)
 value:W.cell? ⟨b,1,none⟩ = some (strV r.2)
theorem NodeR.qt {W W':World} {b:Nat} {r:Tb.R} (h:NodeR W b r) (q:Qt W W'):NodeR W' b r:=⟨q.cellv h.key,q.cellv h.value⟩
theorem node_cells {W W1:World} {c:Array Value} (h:W1 = W.alloc (.cells c 280)) {k:Nat} {v:Value} (hv:c[k]? = some v):W1.cell? ⟨W.heap.size,k,none⟩ = some v:=by
 rw [h,cell_of_row _ _ _ _ _ _ (heap_alloc_new W _)]
 exact hv
theorem wrapI {x:Int} (h1:-9223372036854775808<=x) (h2:x<=9223372036854775807):IntKind.i64.wrap x = x:=by
 rw [IntKind.wrap_i64]
 omega
def Made (X:Nat->Prop) (W:World) (l:List Tb.R) (e:Ending) (W':World):Prop:=∃ (p:Option Addr) (T:Tb.Tr),e = .returned (.pointer p)/\T.list = l/\IsT X W' p T/\Qt W W'
set_option maxHeartbeats 1600000 in
theorem between_any {X:Nat->Prop} {W:World} {nb:Nat} {r:Tb.R} {pl pr:Option Addr} {L R:Tb.Tr} (hn:NodeR W nb r) (hl:IsT X W pl L) (hr:IsT X W pr R) (hb:L.list.length + (R.list.length + 1)<=17592186044416) (hX:∀ k,W.heap.size<=k->X k) :
  Calls Tryz.prog 271 #[.pointer (some ⟨nb,0,none⟩),.pointer pl,.pointer pr] W fun e W'=>∃ p,e = .returned (.pointer p)/\IsT X W' p (.node L r R)/\Qt W W':=by
 have c0:=hn.key
 have c1:=hn.value
 have CN:=Lib.hid (fun (n:Nat)=>(count_any (hr.qt (Keeps.drewN (Qt.refl W) n))))
 have WT:=Lib.hid (fun (n:Nat)=>(weight_any (hl.qt (Keeps.drewN (Qt.refl W) n)) (by omega)))
 obtain ⟨K,hK⟩:∃ K:ByteArray,strV r.1 = .string K:=⟨_,rfl⟩
 obtain ⟨V,hV⟩:∃ V:ByteArray,strV r.2 = .string V:=⟨_,rfl⟩
 rw [hK] at c0
 rw [hV] at c1
 have ws:=Lib.hid (show IntKind.i64.wrap ((L.list.length:Int) + 1 + (R.list.length:Int)) = ((L.list.length + (R.list.length + 1):Nat):Int) from by rw [wrapI (by omega) (by omega)]; push_cast; omega)
 have HL:=Lib.hid hl
 have HR:=Lib.hid hr
 have HN:=Lib.hid hn
 have HB:=Lib.hid hb
 have HX:=Lib.hid hX
 clear hl hr hn hb hX
 go_enter Tryz.func271,Tryz.ntmps271
 go_wp2_with fail
 go_region_held3 (fun W'=>W'.cell? ⟨nb,0,none⟩ = some (.string K)/\W'.cell? ⟨nb,1,none⟩ = some (.string V))
  (go_keep)
  (first
   | (go_at_call 268; refine (WT.out _).mono ?_; rintro e w' ⟨rfl,rfl⟩)
   | (go_at_call 167; refine (CN.out _).mono ?_; rintro e w' ⟨rfl,rfl⟩))
 rw [ws.out]
 have NC:=fun {k:Nat} {v:Value} (hv:(#[Value.string K,Value.string V,Value.pointer pl,Value.pointer pr,Value.int .i64 ((L.list.length + (R.list.length + 1):Nat):Int)]:Array Value)[k]? = some v)=>node_cells (W:=W.drewN 1) rfl hv
 generalize hW1:(W.drewN 1).alloc (.cells #[Value.string K,Value.string V,Value.pointer pl,Value.pointer pr,Value.int .i64 ((L.list.length + (R.list.length + 1):Nat):Int)] 280) = W1 at *
 have Q1:Qt W W1:=hW1 ▸ (Keeps.drewN (Qt.refl W) 1).alloc _
 have FIN:=Lib.hid (show IsT X W1 (some ⟨W.heap.size,0,none⟩) (.node L r R) from
  ⟨W.heap.size,pl,pr,rfl,HX.out _ (Nat.le_refl _),by rw [hK]; exact NC (k:=0) rfl,by rw [hV]; exact NC (k:=1) rfl,NC (k:=2) rfl,NC (k:=3) rfl,NC (k:=4) rfl,HL.out.qt Q1,HR.out.qt Q1⟩)
 have Q1:=Lib.hid Q1
 clear NC hW1
 go_wp2
 go_ret
 exact ⟨_,rfl,FIN.out,Q1.out⟩
set_option maxHeartbeats 3200000 in
theorem turnedLeft_any {X:Nat->Prop} {W:World} {nb:Nat} {r:Tb.R} {pl pr:Option Addr} {L R:Tb.Tr} (hn:NodeR W nb r) (hl:IsT X W pl L) (hr:IsT X W pr R) (hb:L.list.length + (R.list.length + 1)<=17592186044416) (hX:∀ k,W.heap.size<=k->X k) (hw:3 * (L.list.length + 1) < R.list.length + 1) :
  Calls Tryz.prog 269 #[.pointer (some ⟨nb,0,none⟩),.pointer pl,.pointer pr] W (Made X W (L.list ++ r :: R.list)):=by
 cases R with
 | leaf=>exact absurd hw (by simp [Tb.Tr.list])
 | node A rr B =>
  obtain ⟨rb,pa,pq,rfl,_,k0,k1,k2,k3,_,hA,hB⟩:=hr
  have hlen:(Tb.Tr.node A rr B).list.length = A.list.length + (B.list.length + 1):=by rw [Tb.Tr.list,List.length_append,List.length_cons]
  rw [hlen] at hb hw
  clear hlen
  have NR:NodeR W rb rr:=⟨k0,k1⟩
  have WI:=Lib.hid (fun (n:Nat)=>weight_any (hA.qt (Keeps.drewN (Qt.refl W) n)) (by omega))
  have WQ:=Lib.hid (fun (n:Nat)=>weight_any (hB.qt (Keeps.drewN (Qt.refl W) n)) (by omega))
  by_cases hs:A.list.length + 1 < 2 * (B.list.length + 1)
  ·have GO:=Lib.hid (fun (w:World) (q:Qt W w)=>between_any (hn.qt q) (hl.qt q) (hA.qt q) (by omega) (fun k hk=>hX k (Nat.le_trans q.size hk)))
   have GH:=Lib.hid (fun (w:World) (p:Option Addr) (q:Qt W w) (i:IsT X w p (.node L r A))=>between_any (NR.qt q) i (hB.qt q) (by simp only [Tb.Tr.list,List.length_append,List.length_cons]; omega) (fun k hk=>hX k (Nat.le_trans q.size hk)))
   have KC:=Lib.hid (fun (w:World) (q:Qt W w)=>(show w.cell? ⟨rb,3,none⟩ = some (.pointer pq) from q.cellv k3))
   have hs':((A.list.length:Int) + 1 < 2 * ((B.list.length:Int) + 1)):=by omega
   have hb1:(A.list.length:Int)<=17592186044416:=by omega
   have hb2:(B.list.length:Int)<=17592186044416:=by omega
   have EQ:=Lib.hid (show (.node (.node L r A) rr B:Tb.Tr).list = L.list ++ r :: (Tb.Tr.node A rr B).list from by simp [Tb.Tr.list])
   clear hn hl hA hB k0 k1 NR hb hX hw hs
   generalize A.list.length = n at *
   generalize B.list.length = m at *
   go_enter Tryz.func269,Tryz.ntmps269
   go_wp2_with fail
   go_quiet ((first | (go_at_call 268; with_reducible exact Calls.quiet_of_same (WI.out _)) | (go_at_call 268; with_reducible exact Calls.quiet_of_same (WQ.out _))))
   generalize hw2:W.drewN nq = w2 at *
   have Q2:=Lib.hid (show Qt W w2 from hw2 ▸ Keeps.drewN (Qt.refl W) nq)
   have QD:=Lib.hid (show Qt W w2.drew from Keeps.drew Q2.out)
   have kk:=KC.out _ Q2.out
   clear hw2 k2 k3
   go_wp2_with fail
   go_region_held3 (fun W'=>W'.cell? ⟨rb,3,none⟩ = some (.pointer pq))
    (first | exact KC.out _ QD.out | exact KC.out _ (Hid.out (by assumption)))
    (first
     | (go_at_call 271; refine (GO.out _ QD.out).mono ?_; rintro e w3 ⟨p3,rfl,i3,q3⟩; have Q3:=Lib.hid (Qt.trans QD.out q3); have I3:=Lib.hid i3; clear GO i3 q3)
     | (go_at_call 271; refine (GH.out _ _ Q3.out I3.out).mono ?_; rintro e w4 ⟨p4,rfl,i4,q4⟩; have Q4:=Lib.hid (Qt.trans Q3.out q4); have I4:=Lib.hid i4; clear GH i4 q4))
   go_wp2
   go_ret
   exact ⟨_,_,rfl,EQ.out,I4.out,Q4.out⟩
  ·cases A with
   | leaf=>exact absurd (show (0:Nat) + 1 < 2 * (B.list.length + 1) by omega) hs
   | node C ir D =>
    obtain ⟨ib,pc,pd,rfl,_,m0,m1,m2,m3,_,hC,hD⟩:=hA
    have hlen:(Tb.Tr.node C ir D).list.length = C.list.length + (D.list.length + 1):=by rw [Tb.Tr.list,List.length_append,List.length_cons]
    have IR:NodeR W ib ir:=⟨m0,m1⟩
    have G1:=Lib.hid (fun (w:World) (q:Qt W w)=>between_any (hn.qt q) (hl.qt q) (hC.qt q) (by omega) (fun k hk=>hX k (Nat.le_trans q.size hk)))
    have G2:=Lib.hid (fun (w:World) (q:Qt W w)=>between_any (NR.qt q) (hD.qt q) (hB.qt q) (by omega) (fun k hk=>hX k (Nat.le_trans q.size hk)))
    have G3:=Lib.hid (fun (w:World) (p1 p2:Option Addr) (q:Qt W w) (i1:IsT X w p1 (.node L r C)) (i2:IsT X w p2 (.node D rr B))=>between_any (IR.qt q) i1 i2 (by simp only [Tb.Tr.list,List.length_append,List.length_cons]; omega) (fun k hk=>hX k (Nat.le_trans q.size hk)))
    have KC:=Lib.hid (fun (w:World) (q:Qt W w)=>(show w.cell? ⟨rb,3,none⟩ = some (.pointer pq)/\w.cell? ⟨ib,2,none⟩ = some (.pointer pc)/\w.cell? ⟨ib,3,none⟩ = some (.pointer pd) from ⟨q.cellv k3,q.cellv m2,q.cellv m3⟩))
    rw [hlen] at WI hs
    have hs':¬ (((C.list.length + (D.list.length + 1):Nat):Int) + 1 < 2 * ((B.list.length:Int) + 1)):=by omega
    have hb1:((C.list.length + (D.list.length + 1):Nat):Int)<=17592186044416:=by omega
    have hb2:(B.list.length:Int)<=17592186044416:=by omega
    have EQ:=Lib.hid (show (Tb.Tr.node (.node L r C) ir (.node D rr B)).list = L.list ++ r :: (Tb.Tr.node (.node C ir D) rr B).list from by simp [Tb.Tr.list])
    clear hn hl hC hD hB k0 k1 m0 m1 NR IR hb hX hw hs hlen
    generalize C.list.length + (D.list.length + 1) = n at *
    generalize B.list.length = m at *
    go_enter Tryz.func269,Tryz.ntmps269
    go_wp2_with fail
    go_quiet ((first | (go_at_call 268; with_reducible exact Calls.quiet_of_same (WI.out _)) | (go_at_call 268; with_reducible exact Calls.quiet_of_same (WQ.out _))))
    generalize hw2:W.drewN nq = w2 at *
    have Q2:=Lib.hid (show Qt W w2 from hw2 ▸ Keeps.drewN (Qt.refl W) nq)
    have QD:=Lib.hid (show Qt W w2.drew from Keeps.drew Q2.out)
    have kk:=KC.out _ Q2.out
    clear hw2 k2 k3 m2 m3
    go_wp2_with fail
    go_region_held3 (fun W'=>W'.cell? ⟨rb,3,none⟩ = some (.pointer pq)/\W'.cell? ⟨ib,2,none⟩ = some (.pointer pc)/\W'.cell? ⟨ib,3,none⟩ = some (.pointer pd))
     (first | exact KC.out _ QD.out | exact KC.out _ (Hid.out (by assumption)))
     (first
      | (go_at_call 271; refine (G1.out _ QD.out).mono ?_; rintro e w3 ⟨p3,rfl,i3,q3⟩; have Q3:=Lib.hid (Qt.trans QD.out q3); have I3:=Lib.hid i3; clear G1 i3 q3)
      | (go_at_call 271; refine (G2.out _ Q3.out).mono ?_; rintro e w4 ⟨p4,rfl,i4,q4⟩; have Q4:=Lib.hid (Qt.trans Q3.out q4); have I4:=Lib.hid i4; have J3:=Lib.hid (I3.out.qt q4); clear G2 i4 q4)
      | (go_at_call 271; refine (G3.out _ _ _ Q4.out J3.out I4.out).mono ?_; rintro e w5 ⟨p5,rfl,i5,q5⟩; have Q5:=Lib.hid (Qt.trans Q4.out q5); have I5:=Lib.hid i5; clear G3 i5 q5))
    go_wp2
    go_ret
    exact ⟨_,_,rfl,EQ.out,I5.out,Q5.out⟩
set_option maxHeartbeats 3200000 in
theorem turnedRight_any {X:Nat->Prop} {W:World} {nb:Nat} {r:Tb.R} {pl pr:Option Addr} {L R:Tb.Tr} (hn:NodeR W nb r) (hl:IsT X W pl L) (hr:IsT X W pr R) (hb:L.list.length + (R.list.length + 1)<=17592186044416) (hX:∀ k,W.heap.size<=k->X k) (hw:3 * (R.list.length + 1) < L.list.length + 1) :
  Calls Tryz.prog 270 #[.pointer (some ⟨nb,0,none⟩),.pointer pl,.pointer pr] W (Made X W (L.list ++ r :: R.list)):=by
 cases L with
 | leaf=>exact absurd hw (by simp [Tb.Tr.list])
 | node A rr B =>
  obtain ⟨rb,pa,pq,rfl,_,k0,k1,k2,k3,_,hA,hB⟩:=hl
  have hlen:(Tb.Tr.node A rr B).list.length = A.list.length + (B.list.length + 1):=by rw [Tb.Tr.list,List.length_append,List.length_cons]
  rw [hlen] at hb hw
  clear hlen
  have NR:NodeR W rb rr:=⟨k0,k1⟩
  have WI:=Lib.hid (fun (n:Nat)=>weight_any (hB.qt (Keeps.drewN (Qt.refl W) n)) (by omega))
  have WQ:=Lib.hid (fun (n:Nat)=>weight_any (hA.qt (Keeps.drewN (Qt.refl W) n)) (by omega))
  by_cases hs:B.list.length + 1 < 2 * (A.list.length + 1)
  ·have GO:=Lib.hid (fun (w:World) (q:Qt W w)=>between_any (hn.qt q) (hB.qt q) (hr.qt q) (by omega) (fun k hk=>hX k (Nat.le_trans q.size hk)))
   have GH:=Lib.hid (fun (w:World) (p:Option Addr) (q:Qt W w) (i:IsT X w p (.node B r R))=>between_any (NR.qt q) (hA.qt q) i (by simp only [Tb.Tr.list,List.length_append,List.length_cons]; omega) (fun k hk=>hX k (Nat.le_trans q.size hk)))
   have KC:=Lib.hid (fun (w:World) (q:Qt W w)=>(show w.cell? ⟨rb,2,none⟩ = some (.pointer pa) from q.cellv k2))
   have hs':((B.list.length:Int) + 1 < 2 * ((A.list.length:Int) + 1)):=by omega
   have hb1:(B.list.length:Int)<=17592186044416:=by omega
   have hb2:(A.list.length:Int)<=17592186044416:=by omega
   have EQ:=Lib.hid (show (.node A rr (.node B r R):Tb.Tr).list = (Tb.Tr.node A rr B).list ++ r :: R.list from by simp [Tb.Tr.list])
   clear hn hr hA hB k0 k1 NR hb hX hw hs
   generalize B.list.length = n at *
   generalize A.list.length = m at *
   go_enter Tryz.func270,Tryz.ntmps270
   go_wp2_with fail
   go_quiet ((first | (go_at_call 268; with_reducible exact Calls.quiet_of_same (WI.out _)) | (go_at_call 268; with_reducible exact Calls.quiet_of_same (WQ.out _))))
   generalize hw2:W.drewN nq = w2 at *
   have Q2:=Lib.hid (show Qt W w2 from hw2 ▸ Keeps.drewN (Qt.refl W) nq)
   have QD:=Lib.hid (show Qt W w2.drew from Keeps.drew Q2.out)
   have kk:=KC.out _ Q2.out
   clear hw2 k2 k3
   go_wp2_with fail
   go_region_held3 (fun W'=>W'.cell? ⟨rb,2,none⟩ = some (.pointer pa))
    (first | exact KC.out _ QD.out | exact KC.out _ (Hid.out (by assumption)))
    (first
     | (go_at_call 271; refine (GO.out _ QD.out).mono ?_; rintro e w3 ⟨p3,rfl,i3,q3⟩; have Q3:=Lib.hid (Qt.trans QD.out q3); have I3:=Lib.hid i3; clear GO i3 q3)
     | (go_at_call 271; refine (GH.out _ _ Q3.out I3.out).mono ?_; rintro e w4 ⟨p4,rfl,i4,q4⟩; have Q4:=Lib.hid (Qt.trans Q3.out q4); have I4:=Lib.hid i4; clear GH i4 q4))
   go_wp2
   go_ret
   exact ⟨_,_,rfl,EQ.out,I4.out,Q4.out⟩
  ·cases B with
   | leaf=>exact absurd (show (0:Nat) + 1 < 2 * (A.list.length + 1) by omega) hs
   | node C ir D =>
    obtain ⟨ib,pc,pd,rfl,_,m0,m1,m2,m3,_,hC,hD⟩:=hB
    have hlen:(Tb.Tr.node C ir D).list.length = C.list.length + (D.list.length + 1):=by rw [Tb.Tr.list,List.length_append,List.length_cons]
    have IR:NodeR W ib ir:=⟨m0,m1⟩
    have G1:=Lib.hid (fun (w:World) (q:Qt W w)=>between_any (NR.qt q) (hA.qt q) (hC.qt q) (by omega) (fun k hk=>hX k (Nat.le_trans q.size hk)))
    have G2:=Lib.hid (fun (w:World) (q:Qt W w)=>between_any (hn.qt q) (hD.qt q) (hr.qt q) (by omega) (fun k hk=>hX k (Nat.le_trans q.size hk)))
    have G3:=Lib.hid (fun (w:World) (p1 p2:Option Addr) (q:Qt W w) (i1:IsT X w p1 (.node A rr C)) (i2:IsT X w p2 (.node D r R))=>between_any (IR.qt q) i1 i2 (by simp only [Tb.Tr.list,List.length_append,List.length_cons]; omega) (fun k hk=>hX k (Nat.le_trans q.size hk)))
    have KC:=Lib.hid (fun (w:World) (q:Qt W w)=>(show w.cell? ⟨rb,2,none⟩ = some (.pointer pa)/\w.cell? ⟨ib,2,none⟩ = some (.pointer pc)/\w.cell? ⟨ib,3,none⟩ = some (.pointer pd) from ⟨q.cellv k2,q.cellv m2,q.cellv m3⟩))
    rw [hlen] at WI hs
    have hs':¬ (((C.list.length + (D.list.length + 1):Nat):Int) + 1 < 2 * ((A.list.length:Int) + 1)):=by omega
    have hb1:((C.list.length + (D.list.length + 1):Nat):Int)<=17592186044416:=by omega
    have hb2:(A.list.length:Int)<=17592186044416:=by omega
    have EQ:=Lib.hid (show (Tb.Tr.node (.node A rr C) ir (.node D r R)).list = (Tb.Tr.node A rr (.node C ir D)).list ++ r :: R.list from by simp [Tb.Tr.list])
    clear hn hr hC hD hA k0 k1 m0 m1 NR IR hb hX hw hs hlen
    generalize C.list.length + (D.list.length + 1) = n at *
    generalize A.list.length = m at *
    go_enter Tryz.func270,Tryz.ntmps270
    go_wp2_with fail
    go_quiet ((first | (go_at_call 268; with_reducible exact Calls.quiet_of_same (WI.out _)) | (go_at_call 268; with_reducible exact Calls.quiet_of_same (WQ.out _))))
    generalize hw2:W.drewN nq = w2 at *
    have Q2:=Lib.hid (show Qt W w2 from hw2 ▸ Keeps.drewN (Qt.refl W) nq)
    have QD:=Lib.hid (show Qt W w2.drew from Keeps.drew Q2.out)
    have kk:=KC.out _ Q2.out
    clear hw2 k2 k3 m2 m3
    go_wp2_with fail
    go_region_held3 (fun W'=>W'.cell? ⟨rb,2,none⟩ = some (.pointer pa)/\W'.cell? ⟨ib,2,none⟩ = some (.pointer pc)/\W'.cell? ⟨ib,3,none⟩ = some (.pointer pd))
     (first | exact KC.out _ QD.out | exact KC.out _ (Hid.out (by assumption)))
     (first
      | (go_at_call 271; refine (G1.out _ QD.out).mono ?_; rintro e w3 ⟨p3,rfl,i3,q3⟩; have Q3:=Lib.hid (Qt.trans QD.out q3); have I3:=Lib.hid i3; clear G1 i3 q3)
      | (go_at_call 271; refine (G2.out _ Q3.out).mono ?_; rintro e w4 ⟨p4,rfl,i4,q4⟩; have Q4:=Lib.hid (Qt.trans Q3.out q4); have I4:=Lib.hid i4; have J3:=Lib.hid (I3.out.qt q4); clear G2 i4 q4)
      | (go_at_call 271; refine (G3.out _ _ _ Q4.out J3.out I4.out).mono ?_; rintro e w5 ⟨p5,rfl,i5,q5⟩; have Q5:=Lib.hid (Qt.trans Q4.out q5); have I5:=Lib.hid i5; clear G3 i5 q5))
    go_wp2
    go_ret
    exact ⟨_,_,rfl,EQ.out,I5.out,Q5.out⟩
set_option maxHeartbeats 1600000 in
theorem balanced_any {X:Nat->Prop} {W:World} {nb:Nat} {r:Tb.R} {pl pr:Option Addr} {L R:Tb.Tr} (hn:NodeR W nb r) (hl:IsT X W pl L) (hr:IsT X W pr R) (hb:L.list.length + (R.list.length + 1)<=17592186044416) (hX:∀ k,W.heap.size<=k->X k) :
  Calls Tryz.prog 248 #[.pointer (some ⟨nb,0,none⟩),.pointer pl,.pointer pr] W (Made X W (L.list ++ r :: R.list)):=by
 have WL:=weight_any hl (by omega)
 have WR:=weight_any hr (by omega)
 have BT:=Lib.hid (between_any hn hl hr hb hX)
 have TL:=Lib.hid (turnedLeft_any hn hl hr hb hX)
 have TR:=Lib.hid (turnedRight_any hn hl hr hb hX)
 clear hn hl hr hX
 generalize L.list.length = n at *
 generalize R.list.length = m at *
 go_enter Tryz.func248,Tryz.ntmps248
 go_wp2_with fail
 refine WR.mono ?_
 rintro e w' ⟨rfl,rfl⟩
 go_wp2_with fail
 refine WL.mono ?_
 rintro e w' ⟨rfl,rfl⟩
 go_wp2_with fail
 ·refine (TL.out (by omega)).mono ?_
  rintro e w1 ⟨p,T,rfl,h1,h2,h3⟩
  have FIN:=Lib.hid (And.intro h1 (And.intro h2 h3))
  clear h1 h2 h3 TL TR BT WL WR
  go_wp2
  go_ret
  exact ⟨_,_,rfl,FIN.out⟩
 ·refine WL.mono ?_
  rintro e w2 ⟨rfl,rfl⟩
  go_wp2_with fail
  refine WR.mono ?_
  rintro e w2 ⟨rfl,rfl⟩
  go_wp2_with fail
  ·refine (TR.out (by omega)).mono ?_
   rintro e w1 ⟨p,T,rfl,h1,h2,h3⟩
   have FIN:=Lib.hid (And.intro h1 (And.intro h2 h3))
   clear h1 h2 h3 TL TR BT WL WR
   go_wp2
   go_ret
   exact ⟨_,_,rfl,FIN.out⟩
  ·refine BT.out.mono ?_
   rintro e w1 ⟨p,rfl,h2,h3⟩
   have FIN:=Lib.hid (And.intro h2 h3)
   clear h2 h3 TL TR BT WL WR
   go_wp2
   go_ret
   exact ⟨_,_,rfl,rfl,FIN.out⟩
end Go.Proofs.YthjjfjhajadimaaGreatDoor
