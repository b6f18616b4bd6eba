/-
  Joined: TOut, TPtr, TTabA, TTabK.
-/
import Derived.Test.YthjjfjhajadimaaGreatDoorP16
import Derived.Laws.Cover1
namespace Go.Proofs.YthjjfjhajadimaaGreatDoor
open Go.RowKit Go.WideShapes
set_option maxRecDepth 100000
set_option maxHeartbeats 3200000 in
theorem without_any {X:Nat->Prop} (T:Tb.Tr):∀ (k:ByteArray) (p:Option Addr) (W:World),IsT X W p T->Tb.Sorted T.list->T.list.length<=17592186044416->(∀ k,W.heap.size<=k->X k) ->
  Calls Tryz.prog 219 #[.pointer p,.string k] W (Made X W (Tb.del T.list k.data.toList)):=by
 induction T with
 | leaf =>
  rintro k p W h _ _ hX
  obtain rfl:p = none:=h
  have FIN:=Lib.hid (show IsT X W none .leaf from rfl)
  clear hX
  go_enter Tryz.func219,Tryz.ntmps219
  go_wp2
  go_ret
  exact ⟨_,_,rfl,rfl,FIN.out,Qt.refl _⟩
 | node l r t ihl ihr =>
  rintro k p W h hS hlen0 hX
  obtain ⟨b,pl,pr,rfl,_,x0,x1,x2,x3,_,hl,hr⟩:=h
  have x0':=x0
  have x1':=x1
  obtain ⟨K,hK,hKl⟩:∃ K:ByteArray,strV r.1 = .string K/\K.data.toList = r.1:=⟨⟨r.1.toArray⟩,rfl,rfl⟩
  rw [hK] at x0
  rw [Tb.Tr.list] at hS hlen0 ⊢
  have hlen:(Tb.del (l.list ++ r :: t.list) k.data.toList).length<=17592186044416:=Nat.le_trans (List.length_filter_le _ _) hlen0
  by_cases hlt:Tb.lt k.data.toList r.1 = true
  ·have zk:Op.bytesLess k.toList K.toList = true:=by rw [ByteArray.toList_eq,ByteArray.toList_eq,hKl]; exact hlt
   have EQ:=Lib.hid (show Tb.del (l.list ++ r :: t.list) k.data.toList = Tb.del l.list k.data.toList ++ r :: t.list from Tb.del_left hS hlt)
   have HS:=Lib.hid (Tb.sorted_left hS)
   have HL:=Lib.hid (show l.list.length<=17592186044416 from by have h:=hlen0; rw [List.length_append,List.length_cons] at h; omega)
   have LB:=Lib.hid (show (Tb.del l.list k.data.toList).length + (t.list.length + 1)<=17592186044416 from by have h:=hlen; rw [EQ.out,List.length_append,List.length_cons] at h; omega)
   have NR:=Lib.hid (show NodeR W b r from ⟨x0',x1'⟩)
   have HO:=Lib.hid hr
   have IH:=Lib.hid (fun (w:World) (q:Qt W w)=>ihl k pl w (hl.qt q) HS.out HL.out (fun k hk=>hX k (Nat.le_trans q.size hk)))
   have BL:=Lib.hid (fun (w:World) (p1:Option Addr) (T1:Tb.Tr) (q:Qt W w) (e1:T1.list = Tb.del l.list k.data.toList) (i:IsT X w p1 T1)=>balanced_any (NR.out.qt q) i (HO.out.qt q) (by have h:=LB.out; rw [<- e1] at h; omega) (fun k hk=>hX k (Nat.le_trans q.size hk)))
   have KC:=Lib.hid (fun (w:World) (q:Qt W w)=>(show w.cell? ⟨b,2,none⟩ = some (.pointer pl)/\w.cell? ⟨b,3,none⟩ = some (.pointer pr) from ⟨q.cellv x2,q.cellv x3⟩))
   have QD:=Lib.hid (show Qt W W.drew from Keeps.drew (Qt.refl W))
   clear hK hKl hS hlen hl hr hX ihl ihr x0' x1' hlt
   go_enter Tryz.func219,Tryz.ntmps219
   go_wp2_with fail
   go_region_held3 (fun W'=>W'.cell? ⟨b,2,none⟩ = some (.pointer pl)/\W'.cell? ⟨b,3,none⟩ = some (.pointer pr))
    (first | exact KC.out _ QD.out | exact KC.out _ (Hid.out (by assumption)))
    (first
     | (go_at_call 219; refine (IH.out _ QD.out).mono ?_; rintro e w3 ⟨p3,T3,rfl,e3,i3,q3⟩; have Q3:=Lib.hid (Qt.trans QD.out q3); have I3:=Lib.hid i3; have E3:=Lib.hid e3; clear IH i3 q3 e3)
     | (go_at_call 248; refine (BL.out _ _ _ Q3.out E3.out I3.out).mono ?_; rintro e w4 ⟨p4,T4,rfl,e4,i4,q4⟩; have Q4:=Lib.hid (Qt.trans Q3.out q4); have I4:=Lib.hid i4; have E4:=Lib.hid e4; clear BL i4 q4 e4))
   go_wp2
   go_ret
   exact ⟨_,_,rfl,by rw [E4.out,E3.out,EQ.out],I4.out,Q4.out⟩
  ·by_cases hgt:Tb.lt r.1 k.data.toList = true
   ·have zk:Op.bytesLess k.toList K.toList = false:=by rw [ByteArray.toList_eq,ByteArray.toList_eq,hKl]; exact Bool.eq_false_iff.2 hlt
    have zg:(k.toList == K.toList) = false:=by rw [ByteArray.toList_eq,ByteArray.toList_eq,hKl]; simpa using fun e=>Tb.lt_ne hgt e.symm
    have EQ:=Lib.hid (show Tb.del (l.list ++ r :: t.list) k.data.toList = l.list ++ r :: Tb.del t.list k.data.toList from Tb.del_right hS hgt)
    have HS:=Lib.hid (Tb.sorted_right hS)
    have HL:=Lib.hid (show t.list.length<=17592186044416 from by have h:=hlen0; rw [List.length_append,List.length_cons] at h; omega)
    have LB:=Lib.hid (show (Tb.del t.list k.data.toList).length + (l.list.length + 1)<=17592186044416 from by have h:=hlen; rw [EQ.out,List.length_append,List.length_cons] at h; omega)
    have NR:=Lib.hid (show NodeR W b r from ⟨x0',x1'⟩)
    have HO:=Lib.hid hl
    have IH:=Lib.hid (fun (w:World) (q:Qt W w)=>ihr k pr w (hr.qt q) HS.out HL.out (fun k hk=>hX k (Nat.le_trans q.size hk)))
    have BL:=Lib.hid (fun (w:World) (p1:Option Addr) (T1:Tb.Tr) (q:Qt W w) (e1:T1.list = Tb.del t.list k.data.toList) (i:IsT X w p1 T1)=>balanced_any (NR.out.qt q) (HO.out.qt q) i (by have h:=LB.out; rw [<- e1] at h; omega) (fun k hk=>hX k (Nat.le_trans q.size hk)))
    have KC:=Lib.hid (fun (w:World) (q:Qt W w)=>(show w.cell? ⟨b,2,none⟩ = some (.pointer pl)/\w.cell? ⟨b,3,none⟩ = some (.pointer pr) from ⟨q.cellv x2,q.cellv x3⟩))
    have QD:=Lib.hid (show Qt W W.drew from Keeps.drew (Qt.refl W))
    clear hK hKl hS hlen hl hr hX ihl ihr x0' x1' hlt hgt
    go_enter Tryz.func219,Tryz.ntmps219
    go_wp2_with fail
    go_region_held3 (fun W'=>W'.cell? ⟨b,2,none⟩ = some (.pointer pl)/\W'.cell? ⟨b,3,none⟩ = some (.pointer pr))
     (first | exact KC.out _ QD.out | exact KC.out _ (Hid.out (by assumption)))
     (first
      | (go_at_call 219; refine (IH.out _ QD.out).mono ?_; rintro e w3 ⟨p3,T3,rfl,e3,i3,q3⟩; have Q3:=Lib.hid (Qt.trans QD.out q3); have I3:=Lib.hid i3; have E3:=Lib.hid e3; clear IH i3 q3 e3)
      | (go_at_call 248; refine (BL.out _ _ _ Q3.out E3.out I3.out).mono ?_; rintro e w4 ⟨p4,T4,rfl,e4,i4,q4⟩; have Q4:=Lib.hid (Qt.trans Q3.out q4); have I4:=Lib.hid i4; have E4:=Lib.hid e4; clear BL i4 q4 e4))
    go_wp2
    go_ret
    exact ⟨_,_,rfl,by rw [E4.out,E3.out,EQ.out],I4.out,Q4.out⟩
   ·have hke:r.1 = k.data.toList:=(Tb.lt_total (Bool.eq_false_iff.2 hlt) (Bool.eq_false_iff.2 hgt)).symm
    have zk:Op.bytesLess k.toList K.toList = false:=by rw [ByteArray.toList_eq,ByteArray.toList_eq,hKl]; exact Bool.eq_false_iff.2 hlt
    have zg:(k.toList == K.toList) = true:=by rw [ByteArray.toList_eq,ByteArray.toList_eq,hKl]; simpa using hke.symm
    have hdel:Tb.del (l.list ++ r :: t.list) k.data.toList = l.list ++ t.list:=by rw [<- hke]; exact Tb.del_mid hS
    rw [hdel] at hlen ⊢
    cases l with
    | leaf =>
     obtain rfl:pl = none:=hl
     have FIN:=Lib.hid hr
     clear hK hKl hS hlen hlen0 hr hX ihl ihr x0' x1' hlt hgt hke hdel
     go_enter Tryz.func219,Tryz.ntmps219
     go_wp2
     go_ret
     exact ⟨_,_,rfl,rfl,FIN.out,Qt.refl _⟩
    | node l1 l2 l3 =>
     cases t with
     | leaf =>
      obtain rfl:pr = none:=hr
      have FIN:=Lib.hid hl
      obtain ⟨lb,_,_,rfl,_⟩:=hl
      clear hK hKl hS hlen hlen0 hX ihl ihr x0' x1' hlt hgt hke hdel
      go_enter Tryz.func219,Tryz.ntmps219
      go_wp2
      go_ret
      exact ⟨_,_,rfl,by simp [Tb.Tr.list],FIN.out,Qt.refl _⟩
     | node t1 t2 t3 =>
      have FS:=first_any hr
      have HL:=Lib.hid hl
      have HR:=Lib.hid hr
      have HX:=Lib.hid hX
      have HS:=Lib.hid (Tb.sorted_right hS)
      have HLN:=Lib.hid hlen
      have IHR:=Lib.hid ihr
      obtain ⟨lb,_,_,rfl,_⟩:=hl
      obtain ⟨tb,_,_,rfl,_⟩:=hr
      clear hK hKl hS hlen hlen0 hX ihl ihr x0' x1' hlt hgt hke hdel
      generalize hA:(Tb.Tr.node l1 l2 l3) = A at *
      generalize hB:(Tb.Tr.node t1 t2 t3) = B at *
      clear hA hB
      go_enter Tryz.func219,Tryz.ntmps219
      go_wp2_with fail
      refine FS.mono ?_
      rintro e w1 ⟨⟨nb,x,rest,rfl,hn,hrest⟩,rfl⟩
      obtain ⟨N,hN,hNl⟩:∃ N:ByteArray,strV x.1 = .string N/\N.data.toList = x.1:=⟨⟨x.1.toArray⟩,rfl,rfl⟩
      have n0:w1.cell? ⟨nb,0,none⟩ = some (.string N):=by rw [<- hN]; exact hn.key
      have HD:=Lib.hid (show Tb.del B.list N.data.toList = rest from by have h:=HS.out; rw [hrest] at h; rw [hNl,hrest]; exact Tb.del_first h)
      have hbl:B.list.length<=17592186044416:=by have h:=HLN.out; rw [List.length_append] at h; omega
      have LB:=Lib.hid (show A.list.length + (rest.length + 1)<=17592186044416 from by have h:=HLN.out; rw [List.length_append,hrest,List.length_cons] at h; omega)
      have EQ:=Lib.hid (show A.list ++ x :: rest = A.list ++ B.list from by rw [hrest])
      have IH:=Lib.hid (fun (w:World) (q:Qt w1 w)=>IHR.out N _ w (HR.out.qt q) HS.out hbl (fun k hk=>HX.out k (Nat.le_trans q.size hk)))
      have NR:=Lib.hid hn
      have BL:=Lib.hid (fun (w:World) (p1:Option Addr) (T1:Tb.Tr) (q:Qt w1 w) (e1:T1.list = rest) (i:IsT X w p1 T1)=>balanced_any (NR.out.qt q) (HL.out.qt q) i (by have h:=LB.out; rw [<- e1] at h; omega) (fun k hk=>HX.out k (Nat.le_trans q.size hk)))
      have KC:=Lib.hid (fun (w:World) (q:Qt w1 w)=>(show w.cell? ⟨b,2,none⟩ = some (.pointer (some ⟨lb,0,none⟩))/\w.cell? ⟨b,3,none⟩ = some (.pointer (some ⟨tb,0,none⟩))/\w.cell? ⟨nb,0,none⟩ = some (.string N) from ⟨q.cellv x2,q.cellv x3,q.cellv n0⟩))
      have QD:=Lib.hid (show Qt w1 w1.drew from Keeps.drew (Qt.refl w1))
      clear hN hNl hrest hbl hn FS IHR
      go_wp2_with fail
      go_region_held3 (fun W'=>W'.cell? ⟨b,2,none⟩ = some (.pointer (some ⟨lb,0,none⟩))/\W'.cell? ⟨b,3,none⟩ = some (.pointer (some ⟨tb,0,none⟩))/\W'.cell? ⟨nb,0,none⟩ = some (.string N))
       (first | exact KC.out _ QD.out | exact KC.out _ (Hid.out (by assumption)))
       (first
        | (go_at_call 219; refine (IH.out _ QD.out).mono ?_; rintro e w3 ⟨p3,T3,rfl,e3,i3,q3⟩; have Q3:=Lib.hid (Qt.trans QD.out q3); have I3:=Lib.hid i3; have E3:=Lib.hid (e3.trans HD.out); clear IH i3 q3 e3)
        | (go_at_call 248; refine (BL.out _ _ _ Q3.out E3.out I3.out).mono ?_; rintro e w4 ⟨p4,T4,rfl,e4,i4,q4⟩; have Q4:=Lib.hid (Qt.trans Q3.out q4); have I4:=Lib.hid i4; have E4:=Lib.hid e4; clear BL i4 q4 e4))
      go_wp2
      go_ret
      exact ⟨_,_,rfl,by rw [E4.out,E3.out,EQ.out],I4.out,Q4.out⟩
end Go.Proofs.YthjjfjhajadimaaGreatDoor
namespace Go.Proofs.YthjjfjhajadimaaGreatDoor
abbrev ptrV (b:Nat):Value:=.pointer (some ⟨b,0,none⟩)
end Go.Proofs.YthjjfjhajadimaaGreatDoor
namespace Go.Proofs.YthjjfjhajadimaaGreatDoor
open Go.RowKit Go.WideShapes
set_option maxRecDepth 100000
def CTab (W:World) (b:Nat) (p:Option Addr) (m:Nat):Prop:=W.heap[b]? = some (.cells #[.pointer p,.int .i64 (m:Int)] 216 (0,0))
section
variable {W W':World} {b m:Nat} {p:Option Addr}
theorem CTab.lt (h:CTab W b p m):b < W.heap.size:=lt_of_block h
theorem CTab.tree (h:CTab W b p m):W.cell? ⟨b,0,none⟩ = some (.pointer p):=by rw [cell_of_row _ _ _ _ _ _ h]; rfl
theorem CTab.sum (h:CTab W b p m):W.cell? ⟨b,1,none⟩ = some (.int .i64 (m:Int)):=by rw [cell_of_row _ _ _ _ _ _ h]; rfl
theorem CTab.open0 (h:CTab W b p m):W.frozen? ⟨b,0,none⟩ = false:=by simp [World.frozen?,show W.heap[b]? = _ from h]
theorem CTab.open1 (h:CTab W b p m):W.frozen? ⟨b,1,none⟩ = false:=by simp [World.frozen?,show W.heap[b]? = _ from h]
theorem CTab.kept {K:Nat->Prop} (h:CTab W b p m) (k:Keeps K W W') (hK:¬ K b):CTab W' b p m:=(k.block b h.lt hK).trans h
theorem CTab.qt (h:CTab W b p m) (k:Qt W W'):CTab W' b p m:=h.kept k (fun e=>e)
theorem CTab.set0 (h:CTab W b p m) (q:Option Addr):CTab (W.setCell ⟨b,0,none⟩ (.pointer q)) b q m:=by
 unfold CTab at h ⊢
 simp only [World.setCell,Array.getElem?_modify,h,if_true,Option.map_some]
 rfl
theorem CTab.set1 (h:CTab W b p m) {i:Int} {n:Nat} (hi:i = (n:Int)):CTab (W.setCell ⟨b,1,none⟩ (.int .i64 i)) b p n:=by
 subst hi
 unfold CTab at h ⊢
 simp only [World.setCell,Array.getElem?_modify,h,if_true,Option.map_some]
 rfl
end
structure Tbl (W:World) (b:Nat) (l:List Tb.R) (A:Nat->Prop):Prop where
 is:∃ (p:Option Addr) (T:Tb.Tr) (X:Nat->Prop),CTab W b p (Tb.bytes l)/\T.list = l/\IsT X W p T/\∀ k,X k->A k/\k ≠ b
 own:A b
 lt:∀ k,A k->k < W.heap.size
 sorted:Tb.Sorted l
 len:l.length<=4398046511104
 sum:Tb.bytes l<=9223372036854775807
section
variable {W W':World} {b:Nat} {l:List Tb.R} {A:Nat->Prop}
theorem Tbl.kept {K:Nat->Prop} (h:Tbl W b l A) (k:Keeps K W W') (hK:∀ j,A j->¬ K j):Tbl W' b l A:=by
 obtain ⟨p,T,X,c,e,i,x⟩:=h.is
 exact ⟨⟨p,T,X,c.kept k (hK b h.own),e,i.kept k (fun j hj=>hK j (x j hj).1),x⟩,h.own,fun j hj=>Nat.lt_of_lt_of_le (h.lt j hj) k.size,h.sorted,h.len,h.sum⟩
theorem Tbl.qt (h:Tbl W b l A) (k:Qt W W'):Tbl W' b l A:=h.kept k (fun _ _ e=>e)
set_option maxHeartbeats 400000 in
theorem textClone_any (s:ByteArray) (w:World) (h:s.size<=281474976710656):Calls Tryz.prog 221 #[.string s] w fun e w'=>e = .returned (.string s)/\Qt w w':=by
 have CL:=Tryz.stringslite_Clone s w h
 clear h
 go_enter Tryz.func221,Tryz.ntmps221
 go_wp2_with fail
 refine CL.mono ?_
 rintro e w1 ⟨rfl,k1⟩
 have Q:=Lib.hid (Qt.of_below k1)
 clear k1 CL
 go_wp2
 go_ret
 exact ⟨rfl,Q.out⟩
set_option maxHeartbeats 400000 in
theorem len11_any (h:Tbl W b l A):Calls Tryz.prog 106 #[ptrV b] W fun e w'=>e = .returned (.int .i64 (l.length:Int))/\w' = W:=by
 obtain ⟨p,T,X,c,e,i,_⟩:=h.is
 have c0:=c.tree
 have CN:=count_any i
 rw [e] at CN
 clear h c e i
 go_enter Tryz.func106,Tryz.ntmps106
 go_wp2_with fail
 refine CN.mono ?_
 rintro e w1 ⟨rfl,rfl⟩
 go_wp2
 go_ret
 exact ⟨rfl,rfl⟩
set_option maxHeartbeats 400000 in
theorem get11_any (h:Tbl W b l A) (k:ByteArray):Calls Tryz.prog 90 #[ptrV b,.string k] W fun e w'=>e = .returned (GotV (Tb.get l k.data.toList))/\w' = W:=by
 obtain ⟨p,T,X,c,e,i,_⟩:=h.is
 have c0:=c.tree
 have FD:=find_any i (by rw [e]; exact h.sorted) k
 rw [e] at FD
 clear h c e i
 unfold GotV at FD ⊢
 generalize (Tb.get l k.data.toList).isSome = ok at *
 obtain ⟨V,hV⟩:∃ V:ByteArray,strV ((Tb.get l k.data.toList).getD []) = .string V:=⟨_,rfl⟩
 rw [hV] at FD ⊢
 clear hV
 go_enter Tryz.func90,Tryz.ntmps90
 go_wp2_with fail
 refine FD.mono ?_
 rintro e w1 ⟨rfl,rfl⟩
 go_wp2
 go_ret2
 exact ⟨rfl,rfl⟩
set_option maxHeartbeats 400000 in
theorem new11_any (w:World):Calls Tryz.prog 112 #[] w fun e w'=>∃ b,e = .returned (ptrV b)/\Tbl w' b [] (fun k=>k = b)/\w.heap.size<=b/\Qt w w':=by
 go_enter Tryz.func112,Tryz.ntmps112
 go_wp2
 go_ret
 refine ⟨_,rfl,⟨⟨none,.leaf,fun _=>False,heap_alloc_new w _,rfl,rfl,fun _ e=>e.elim⟩,rfl,fun k hk=>?_,List.Pairwise.nil,by decide,by decide⟩,Nat.le_refl _,(Qt.refl w).alloc _⟩
 subst hk
 simp
end
section
variable {W W':World} {b:Nat} {l:List Tb.R} {A:Nat->Prop}
set_option maxHeartbeats 1600000 in
theorem clone11_any (h:Tbl W b l A):Calls Tryz.prog 113 #[ptrV b] W fun e w'=>∃ c,e = .returned (ptrV c)/\Tbl w' c l (fun k=>(A k/\k ≠ b)\/k = c)/\W.heap.size<=c/\Qt W w':=by
 obtain ⟨p,T,X,c,e,i,x⟩:=h.is
 have c0:=c.tree
 have c1:=c.sum
 have QD:=Lib.hid (show Qt W W.drew from Keeps.drew (Qt.refl W))
 have FIN:=Lib.hid (show ∀ W1:World,W1 = (W.alloc (.cells #[.pointer p,.int .i64 (Tb.bytes l:Int)] 216)).drew->Tbl W1 W.heap.size l (fun k=>(A k/\k ≠ b)\/k = W.heap.size)/\Qt W W1 from by
  rintro W1 rfl
  have q:Qt W (W.alloc (.cells #[.pointer p,.int .i64 (Tb.bytes l:Int)] 216)).drew:=Keeps.drew ((Qt.refl W).alloc _)
  refine ⟨⟨⟨p,T,X,heap_alloc_new W _,e,i.qt q,fun k hk=>⟨.inl (x k hk),fun ek=>?_⟩⟩,.inr rfl,fun k hk=>?_,h.sorted,h.len,h.sum⟩,q⟩
  ·have:=h.lt k (x k hk).1
   omega
  ·rcases hk with hk | hk
   ·exact Nat.lt_of_lt_of_le (h.lt k hk.1) q.size
   ·subst hk; simp)
 clear h c e i x
 go_enter Tryz.func113,Tryz.ntmps113
 go_wp2_with fail
 go_region_held3 (fun W'=>W'.cell? ⟨b,0,none⟩ = some (.pointer p)/\W'.cell? ⟨b,1,none⟩ = some (.int .i64 (Tb.bytes l:Int)))
  (first | exact ⟨QD.out.cellv c0,QD.out.cellv c1⟩ | go_keep) (fail)
 obtain ⟨f1,f2⟩:=FIN.out _ rfl
 have F:=Lib.hid (And.intro f1 f2)
 clear f1 f2 FIN
 go_wp2
 go_ret
 exact ⟨_,rfl,F.out.1,Nat.le_refl _,F.out.2⟩
end
end Go.Proofs.YthjjfjhajadimaaGreatDoor
