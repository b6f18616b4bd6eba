/-
  Joined: TTabB, BLen, BAppl.
-/
import Derived.Test.YthjjfjhajadimaaGreatDoorP17
import Derived.Deep.RegionLaw
import Derived.LoopTactic
namespace Go.Proofs.YthjjfjhajadimaaGreatDoor
open Go.RowKit Go.WideShapes
set_option maxRecDepth 100000
section
variable {W W':World} {b:Nat} {l:List Tb.R} {A:Nat->Prop}
def Turned (W:World) (b:Nat) (A:Nat->Prop) (l:List Tb.R) (W':World):Prop:=∃ A2,Tbl W' b l A2/\(∀ k,A2 k->A k\/W.heap.size<=k)/\Keeps (fun k=>k = b) W W'
theorem Turned.of {p q:Option Addr} {T2:Tb.Tr} {m:Nat} {X:Nat->Prop} {w2 w3:World} {l2:List Tb.R} (hX:∀ k,X k->A k/\k ≠ b) (hA:A b) (hlt:∀ k,A k->k < W.heap.size) (hs:Tb.Sorted l2) (hl:l2.length<=4398046511104) (hm:m<=9223372036854775807) (k2:Keeps (fun k=>k = b) W w2) (q3:Qt w2 w3) (c3:CTab w3 b p m) (hmm:m = Tb.bytes l2) (e2:T2.list = l2) (i:IsT (fun k=>X k\/W.heap.size<=k) w3 q T2):Turned W b A l2 (w3.setCell ⟨b,0,none⟩ (.pointer q)):=by
 have hb:=hlt b hA
 have ks:Keeps (fun k=>k = b) w3 (w3.setCell ⟨b,0,none⟩ (.pointer q)):=Keeps.setCell (S:=fun k=>k = b) (p:=⟨b,0,none⟩) (Keeps.refl _ w3) (fun _=>rfl) _
 have K:Keeps (fun k=>k = b) W (w3.setCell ⟨b,0,none⟩ (.pointer q)):=Keeps.trans (Keeps.trans k2 q3 (fun _ _ e=>e.elim)) ks (fun _ _ e=>e)
 have hi:=i.kept ks (fun k hk e=>by
  subst e
  rcases hk with hk | hk
  ·exact (hX _ hk).2 rfl
  ·omega)
 refine ⟨fun k=>(A k\/W.heap.size<=k)/\k < (w3.setCell ⟨b,0,none⟩ (.pointer q)).heap.size,⟨⟨q,T2,_,hmm ▸ c3.set0 q,e2,hi.lt,fun k hk=>⟨⟨hk.1.imp (fun h=>(hX k h).1) id,hk.2⟩,fun e=>?_⟩⟩,⟨.inl hA,Nat.lt_of_lt_of_le hb K.size⟩,fun k hk=>hk.2,hs,hl,hmm ▸ hm⟩,fun k hk=>hk.1,K⟩
 subst e
 rcases hk.1 with h | h
 ·exact (hX _ h).2 rfl
 ·omega
set_option maxHeartbeats 3200000 in
theorem put11_any (h:Tbl W b l A) (k v:ByteArray) (hk:k.size<=281474976710656) (hv:v.size<=281474976710656) (hlen:(Tb.put l k.data.toList v.data.toList).length<=4398046511104) (hsum:Tb.bytes l + (k.size + v.size)<=9223372036854775807) :
  Calls Tryz.prog 172 #[ptrV b,.string k,.string v] W fun e W'=>e = .returned (.bool (Tb.get l k.data.toList).isSome)/\Turned W b A (Tb.put l k.data.toList v.data.toList) W':=by
 have GT:=get11_any h k
 obtain ⟨p,T,X,c,e,i,x⟩:=h.is
 have HC:=Lib.hid c
 have HI:=Lib.hid i
 have HX:=Lib.hid x
 have HA:=Lib.hid h.own
 have HLT:=Lib.hid h.lt
 have HS:=Lib.hid h.sorted
 have HL:=Lib.hid hlen
 have HE:=Lib.hid e
 have CK:=Lib.hid (fun w=>textClone_any k w hk)
 have CV:=Lib.hid (fun w=>textClone_any v w hv)
 have hpl:Tb.bytes (Tb.put l k.data.toList v.data.toList)<=Tb.bytes l + (k.size + v.size):=by
  have:=Tb.put_bytes l k.data.toList v.data.toList
  rwa [show k.data.toList.length = k.size from rfl,show v.data.toList.length = v.size from rfl] at this
 have HM:=Lib.hid (show Tb.bytes (Tb.put l k.data.toList v.data.toList)<=9223372036854775807 from Nat.le_trans hpl hsum)
 have c1:=c.sum
 have f1:=c.open1
 have f0:=c.open0
 unfold GotV at GT
 cases hg:Tb.get l k.data.toList with
 | none =>
  rw [hg] at GT
  have NM:=Lib.hid (Tb.put_new (v:=v.data.toList) hg)
  have SZ:=Lib.hid (show (k.data.toList.length:Int) = k.size/\(v.data.toList.length:Int) = v.size from ⟨rfl,rfl⟩)
  have WI:=Lib.hid (fun (w2 w:World) (k2:Keeps (fun j=>j = b) W w2) (q:Qt w2 w)=>with_any (X:=fun j=>X j\/W.heap.size<=j) k v T p w (((HI.out.kept k2 (fun j hj=>(HX.out j hj).2)).qt q).more (fun j _ hj=>.inl hj)) (by rw [HE.out]; exact HS.out) (by rw [HE.out]; exact Nat.le_trans HL.out (by decide)) (fun j hj=>.inr (Nat.le_trans k2.size (Nat.le_trans q.size hj))))
  rw [HE.out] at WI
  generalize Tb.bytes l = m at *
  clear h c e i hpl x hk hv
  go_enter Tryz.func172,Tryz.ntmps172
  go_wp2_with fail
  refine GT.mono ?_
  rintro e w1 ⟨rfl,rfl⟩
  have K0:Keeps (fun j=>j = b) w1 w1:=Keeps.refl _ w1
  go_wp2_with fail
  generalize hw2:w1.setCell ⟨b,1,none⟩ (.int .i64 ((m:Int) + ((k.size:Int) + (v.size:Int)))) = w2 at *
  have C2:CTab w2 b p (Tb.bytes (Tb.put l k.data.toList v.data.toList)):=hw2 ▸ HC.out.set1 (by have:=NM.out; rw [SZ.out.1,SZ.out.2] at this; exact this)
  have K2:=Lib.hid (show Keeps (fun j=>j = b) w1 w2 from hw2 ▸ Keeps.setCell (S:=fun j=>j = b) (p:=⟨b,1,none⟩) K0 (fun _=>rfl) _)
  have QD:=Lib.hid (show Qt w2 w2.drew from Keeps.drew (Qt.refl w2))
  have KC:=Lib.hid (fun (w:World) (q:Qt w2 w)=>(show w.cell? ⟨b,0,none⟩ = some (.pointer p)/\w.frozen? ⟨b,0,none⟩ = false from ⟨(C2.qt q).tree,(C2.qt q).open0⟩))
  have CC:=Lib.hid (fun (w:World) (q:Qt w2 w)=>C2.qt q)
  have d0:=C2.tree
  have g0:=C2.open0
  clear hw2 C2 K0 c1 f1 f0
  go_region_law (first
   | (go_simp; go_at_call 221; refine (CK.out _).mono ?_; rintro e wA ⟨rfl,qA⟩; have QA:=Lib.hid (Qt.trans QD.out qA); obtain ⟨dA,gA⟩:=KC.out _ QA.out; clear CK qA)
   | (go_simp; go_at_call 221; refine (CV.out _).mono ?_; rintro e wB ⟨rfl,qB⟩; have QB:=Lib.hid (Qt.trans QA.out qB); obtain ⟨dB,gB⟩:=KC.out _ QB.out; clear CV qB)
   | (go_simp; go_at_call 220; refine (WI.out _ _ K2.out QB.out).mono ?_; rintro e wC ⟨pC,TC,rfl,eC,iC,qC⟩; have QC:=Lib.hid (Qt.trans QB.out qC); obtain ⟨dC,gC⟩:=KC.out _ QC.out; have IC:=Lib.hid iC; have EC:=Lib.hid eC; clear WI eC iC qC))
  all_goals
   have FIN:=Lib.hid (Turned.of (W:=w1) (A:=A) HX.out HA.out HLT.out (Tb.put_sorted HS.out k.data.toList v.data.toList) HL.out HM.out K2.out QC.out (CC.out _ QC.out) rfl EC.out IC.out)
   clear dC gC
   go_wp2
   go_ret
   exact ⟨rfl,FIN.out⟩
 | some u =>
  obtain ⟨U,hU,hUl⟩:∃ U:ByteArray,strV ((some u:Option Tb.Txt).getD []) = .string U/\u.length = U.size:=⟨⟨u.toArray⟩,rfl,rfl⟩
  rw [hg,hU] at GT
  have NM:=Lib.hid (Tb.put_some (v:=v.data.toList) h.sorted hg)
  have SZ:=Lib.hid (show (k.data.toList.length:Int) = k.size/\(v.data.toList.length:Int) = v.size/\(u.length:Int) = U.size from ⟨rfl,rfl,by rw [hUl]⟩)
  have hko:k.size + U.size<=Tb.bytes l:=by
   have h1:=Tb.del_sum h.sorted hg
   rw [hUl,show k.data.toList.length = k.size from rfl] at h1
   omega
  clear hU hUl
  have WI:=Lib.hid (fun (w2 w:World) (k2:Keeps (fun j=>j = b) W w2) (q:Qt w2 w)=>with_any (X:=fun j=>X j\/W.heap.size<=j) k v T p w (((HI.out.kept k2 (fun j hj=>(HX.out j hj).2)).qt q).more (fun j _ hj=>.inl hj)) (by rw [HE.out]; exact HS.out) (by rw [HE.out]; exact Nat.le_trans HL.out (by decide)) (fun j hj=>.inr (Nat.le_trans k2.size (Nat.le_trans q.size hj))))
  rw [HE.out] at WI
  generalize Tb.bytes l = m at *
  clear h c e i hpl x hk hv
  go_enter Tryz.func172,Tryz.ntmps172
  go_wp2_with fail
  refine GT.mono ?_
  rintro e w1 ⟨rfl,rfl⟩
  have K0:Keeps (fun j=>j = b) w1 w1:=Keeps.refl _ w1
  go_wp2_with fail
  generalize hw2:(w1.setCell ⟨b,1,none⟩ (.int .i64 ((m:Int) - ((k.size:Int) + (U.size:Int))))).setCell ⟨b,1,none⟩ (.int .i64 ((m:Int) - ((k.size:Int) + (U.size:Int)) + ((k.size:Int) + (v.size:Int)))) = w2 at *
  have C2:CTab w2 b p (Tb.bytes (Tb.put l k.data.toList v.data.toList)):=hw2 ▸ (HC.out.set1 (i:=(m:Int) - ((k.size:Int) + (U.size:Int))) (n:=m - (k.size + U.size)) (by omega)).set1 (by have:=NM.out; rw [SZ.out.1,SZ.out.2.1,SZ.out.2.2] at this; exact this)
  have K2:=Lib.hid (show Keeps (fun j=>j = b) w1 w2 from hw2 ▸ Keeps.setCell (S:=fun j=>j = b) (p:=⟨b,1,none⟩) (Keeps.setCell (S:=fun j=>j = b) (p:=⟨b,1,none⟩) K0 (fun _=>rfl) _) (fun _=>rfl) _)
  have QD:=Lib.hid (show Qt w2 w2.drew from Keeps.drew (Qt.refl w2))
  have KC:=Lib.hid (fun (w:World) (q:Qt w2 w)=>(show w.cell? ⟨b,0,none⟩ = some (.pointer p)/\w.frozen? ⟨b,0,none⟩ = false from ⟨(C2.qt q).tree,(C2.qt q).open0⟩))
  have CC:=Lib.hid (fun (w:World) (q:Qt w2 w)=>C2.qt q)
  have d0:=C2.tree
  have g0:=C2.open0
  clear hw2 C2 K0 c1 f1 f0
  go_region_law (first
   | (go_simp; go_at_call 221; refine (CK.out _).mono ?_; rintro e wA ⟨rfl,qA⟩; have QA:=Lib.hid (Qt.trans QD.out qA); obtain ⟨dA,gA⟩:=KC.out _ QA.out; clear CK qA)
   | (go_simp; go_at_call 221; refine (CV.out _).mono ?_; rintro e wB ⟨rfl,qB⟩; have QB:=Lib.hid (Qt.trans QA.out qB); obtain ⟨dB,gB⟩:=KC.out _ QB.out; clear CV qB)
   | (go_simp; go_at_call 220; refine (WI.out _ _ K2.out QB.out).mono ?_; rintro e wC ⟨pC,TC,rfl,eC,iC,qC⟩; have QC:=Lib.hid (Qt.trans QB.out qC); obtain ⟨dC,gC⟩:=KC.out _ QC.out; have IC:=Lib.hid iC; have EC:=Lib.hid eC; clear WI eC iC qC))
  all_goals
   have FIN:=Lib.hid (Turned.of (W:=w1) (A:=A) HX.out HA.out HLT.out (Tb.put_sorted HS.out k.data.toList v.data.toList) HL.out HM.out K2.out QC.out (CC.out _ QC.out) rfl EC.out IC.out)
   clear dC gC
   go_wp2
   go_ret
   exact ⟨rfl,FIN.out⟩
set_option maxHeartbeats 3200000 in
theorem del11_any (h:Tbl W b l A) (k:ByteArray) :
  Calls Tryz.prog 171 #[ptrV b,.string k] W fun e W'=>e = .returned (.bool (Tb.get l k.data.toList).isSome)/\Turned W b A (Tb.del l k.data.toList) W':=by
 have GT:=get11_any h k
 obtain ⟨p,T,X,c,e,i,x⟩:=h.is
 have HC:=Lib.hid c
 have HI:=Lib.hid i
 have HX:=Lib.hid x
 have HA:=Lib.hid h.own
 have HLT:=Lib.hid h.lt
 have HS:=Lib.hid h.sorted
 have HLL:=Lib.hid h.len
 have HL:=Lib.hid (Nat.le_trans (List.length_filter_le _ _) h.len:(Tb.del l k.data.toList).length<=4398046511104)
 have HE:=Lib.hid e
 have HM:=Lib.hid (show Tb.bytes (Tb.del l k.data.toList)<=9223372036854775807 from Nat.le_trans (Tb.del_bytes _ _) h.sum)
 have c0:=c.tree
 have c1:=c.sum
 have f1:=c.open1
 have f0:=c.open0
 unfold GotV at GT
 cases hg:Tb.get l k.data.toList with
 | none =>
  rw [hg] at GT
  have FIN:=Lib.hid (show Turned W b A (Tb.del l k.data.toList) W from by rw [Tb.del_same hg]; exact ⟨A,h,fun _ hk=>.inl hk,Keeps.refl _ _⟩)
  clear h c e i x
  go_enter Tryz.func171,Tryz.ntmps171
  go_wp2_with fail
  refine GT.mono ?_
  rintro e w1 ⟨rfl,rfl⟩
  go_wp2
  go_ret
  exact ⟨rfl,FIN.out⟩
 | some u =>
  obtain ⟨U,hU,hUl⟩:∃ U:ByteArray,strV ((some u:Option Tb.Txt).getD []) = .string U/\u.length = U.size:=⟨⟨u.toArray⟩,rfl,rfl⟩
  rw [hg,hU] at GT
  have hko:Tb.bytes (Tb.del l k.data.toList) + (k.size + U.size) = Tb.bytes l:=by
   have h1:=Tb.del_sum h.sorted hg
   rw [hUl,show k.data.toList.length = k.size from rfl] at h1
   exact h1
  have hsum:=h.sum
  clear hU hUl
  have WO:=Lib.hid (fun (w2 w:World) (k2:Keeps (fun j=>j = b) W w2) (q:Qt w2 w)=>without_any (X:=fun j=>X j\/W.heap.size<=j) T k p w (((HI.out.kept k2 (fun j hj=>(HX.out j hj).2)).qt q).more (fun j _ hj=>.inl hj)) (by rw [HE.out]; exact HS.out) (by rw [HE.out]; exact Nat.le_trans HLL.out (by decide)) (fun j hj=>.inr (Nat.le_trans k2.size (Nat.le_trans q.size hj))))
  rw [HE.out] at WO
  generalize Tb.bytes l = m at *
  clear h c e i x
  go_enter Tryz.func171,Tryz.ntmps171
  go_wp2_with fail
  refine GT.mono ?_
  rintro e w1 ⟨rfl,rfl⟩
  have K0:Keeps (fun j=>j = b) w1 w1:=Keeps.refl _ w1
  go_wp2_with fail
  generalize hw2:w1.setCell ⟨b,1,none⟩ (.int .i64 ((m:Int) - ((k.size:Int) + (U.size:Int)))) = w2 at *
  have C2:CTab w2 b p (Tb.bytes (Tb.del l k.data.toList)):=hw2 ▸ HC.out.set1 (by omega)
  have K2:=Lib.hid (show Keeps (fun j=>j = b) w1 w2 from hw2 ▸ Keeps.setCell (S:=fun j=>j = b) (p:=⟨b,1,none⟩) K0 (fun _=>rfl) _)
  have KC:=Lib.hid (fun (w:World) (q:Qt w2 w)=>C2.qt q)
  clear hw2 K0 c0 c1 f1 f0 hko hsum
  refine (WO.out _ _ K2.out (Qt.refl w2)).mono ?_
  rintro e w3 ⟨p3,T3,rfl,e3,i3,q3⟩
  have C3:=KC.out _ q3
  have c0:=C3.tree
  have f0:=C3.open0
  have FIN:=Lib.hid (Turned.of (W:=w1) (A:=A) HX.out HA.out HLT.out (Tb.del_sorted HS.out k.data.toList) HL.out HM.out K2.out q3 C3 rfl e3 i3)
  clear C3 C2 i3 q3 e3 WO GT
  go_wp2
  go_ret
  exact ⟨rfl,FIN.out⟩
end
end Go.Proofs.YthjjfjhajadimaaGreatDoor
namespace Go.Proofs.YthjjfjhajadimaaGreatDoor
set_option maxRecDepth 100000
theorem apply_length (l:List Tb.R):∀ ops:List Bt.O,(Bt.apply l ops).length<=l.length + ops.length:=by
 intro ops
 generalize hr:ops.reverse = rev
 induction rev generalizing ops with
 | nil =>
  obtain rfl:ops = []:=by simpa using hr
  exact Nat.le_refl _
 | cons a rev ih =>
  obtain rfl:ops = rev.reverse ++ [a]:=by simpa using congrArg List.reverse hr
  have:=ih rev.reverse (by simp)
  rw [Bt.apply_snoc,List.length_append,List.length_singleton]
  unfold Bt.doOp
  split
  ·have:=List.length_filter_le (fun r:Tb.R=>r.1 != a.key) (Bt.apply l rev.reverse)
   unfold Tb.del
   omega
  ·have:=Tb.put_length_le (Bt.apply l rev.reverse) a.key a.val
   omega
end Go.Proofs.YthjjfjhajadimaaGreatDoor
namespace Go.Proofs.YthjjfjhajadimaaGreatDoor
open Go.RowKit Go.WideShapes
set_option maxRecDepth 100000
namespace Bt
def opsW (ops:List O):Nat:=(ops.map fun o=>o.key.length + o.val.length).sum
theorem opsW_take (ops:List O) (i:Nat):opsW (ops.take i)<=opsW ops:=by
 have h:opsW ops = opsW (ops.take i) + opsW (ops.drop i):=by
  unfold opsW
  rw [<- List.sum_append,<- List.map_append,List.take_append_drop]
 omega
theorem opsW_snoc (ops:List O) (o:O):opsW (ops ++ [o]) = opsW ops + (o.key.length + o.val.length):=by simp [opsW]
theorem doOp_bytes (l:List Tb.R) (o:O):Tb.bytes (doOp l o)<=Tb.bytes l + (o.key.length + o.val.length):=by
 unfold doOp
 split
 ·have:=Tb.del_bytes l o.key; omega
 ·exact Tb.put_bytes l o.key o.val
theorem apply_bytes (l:List Tb.R):∀ (ops:List O),Tb.bytes (apply l ops)<=Tb.bytes l + opsW ops:=by
 intro ops
 induction h:ops.length generalizing ops with
 | zero =>
  obtain rfl:=List.length_eq_zero_iff.1 h
  exact Nat.le_refl _
 | succ n ih =>
  obtain ⟨pre,o,rfl⟩:∃ pre o,ops = pre ++ [o]:=by
   have hne:ops ≠ []:=by rintro rfl; simp at h
   exact ⟨ops.dropLast,ops.getLast hne,(List.dropLast_concat_getLast hne).symm⟩
  have h1:=ih pre (by simpa using h)
  have h2:=doOp_bytes (apply l pre) o
  rw [apply_snoc,opsW_snoc]
  omega
end Bt
def ApT (w:World) (b:Nat) (A:Nat->Prop) (l:List Tb.R) (ops:List Bt.O) (iv:Value) (wr:World):Prop :=
 ∃ (i:Nat) (A2:Nat->Prop),i<=ops.length/\iv = .int .i64 i/\Tbl wr b (Bt.apply l (ops.take i)) A2/\(∀ k,A2 k->A k\/w.heap.size<=k)/\Keeps (fun k=>k = b) w wr
theorem turned_ap {w wr w2:World} {b:Nat} {A A2:Nat->Prop} {l l2:List Tb.R} {ops:List Bt.O} {i:Nat} {op:Bt.O} (hop:ops[i]? = some op) (K:Keeps (fun k=>k = b) w wr) (hA:∀ k,A2 k->A k\/w.heap.size<=k) (hl:l2 = Bt.doOp (Bt.apply l (ops.take i)) op) (t:Turned wr b A2 l2 w2):ApT w b A l ops (.int .i64 ((i:Int) + 1)) w2:=by
 obtain ⟨A3,t3,h3,k3⟩:=t
 refine ⟨i + 1,A3,(List.getElem?_eq_some_iff.1 hop).1,by simp,?_,fun k hk=>?_,K.trans k3 (fun _ _ e=>e)⟩
 ·rw [List.take_add_one,hop]
  show Tbl w2 b (Bt.apply l (ops.take i ++ [op])) A3
  rw [Bt.apply_snoc,<- hl]
  exact t3
 ·rcases h3 k hk with h | h
  ·exact hA k h
  ·have:=K.size; exact .inr (by omega)
set_option maxHeartbeats 3200000 in
theorem apply12_any {v:Value} {g o b:Nat} {ops:List Bt.O} {l:List Tb.R} {A:Nat->Prop} (w:World) (hT:Tbl w b l A) (hr:OpsIn w v g o ops) (hd:ops ≠ []->g ≠ b)
  (htx:∀ o ∈ ops,o.key.length<=281474976710656/\o.val.length<=281474976710656) (hn:l.length + ops.length<=4398046511104) (hs:Tb.bytes l + Bt.opsW ops<=9223372036854775807) :
  Calls Tryz.prog 115 #[ptrV b,v] w fun e w'=>e = .returned (.tuple #[])/\Turned w b A (Bt.apply l ops) w':=by
 have HR:=Lib.hid hr
 have HD:=Lib.hid hd
 have HX:=Lib.hid htx
 have HN:=Lib.hid hn
 have HS:=Lib.hid hs
 have HLE:=Lib.hid hr.le
 have START:=Lib.hid (show ApT w b A l ops (.int .i64 0) w from ⟨0,A,Nat.zero_le _,rfl,hT,fun _ h=>.inl h,Keeps.refl _ _⟩)
 obtain ⟨a,cap,rfl,ha⟩:=hr.val
 clear hr hd htx hn hs ha hT
 go_enter Tryz.func115,Tryz.ntmps115
 go_wp2
 go_loopw [8] (fun iv wr=>ApT w b A l ops iv wr) (fun iv _=>ops.length - (intOf iv).toNat)
 case atStart=>exact START.out
 case round =>
  obtain ⟨i,A2,hi,rfl,hT,hA,hK⟩:=hrel
  have HT:=Lib.hid hT
  have HA:=Lib.hid hA
  have HK:=Lib.hid hK
  clear START
  by_cases hlt:i < ops.length
  ·have zlt:decide ((i:Int) < (ops.length:Int)) = true:=decide_eq_true (by omega)
   have zlt':decide (i < ops.length) = true:=decide_eq_true hlt
   have hne:ops ≠ []:=by rintro rfl; simp at hlt
   obtain ⟨op,c1,hop,e0⟩:=HR.out.elem hlt
   injection e0 with e0 q1 q2
   clear q1 q2
   subst e0
   obtain ⟨x1,x2,x3⟩:=OpsIn.cell (recs_kept HR.out hK HD.out) hop
   obtain ⟨K,hK1,hKl⟩:∃ K:ByteArray,strV op.key = .string K/\K.data.toList = op.key:=⟨⟨op.key.toArray⟩,rfl,rfl⟩
   obtain ⟨V,hV1,hVl⟩:∃ V:ByteArray,strV op.val = .string V/\V.data.toList = op.val:=⟨⟨op.val.toArray⟩,rfl,rfl⟩
   rw [hK1] at x2
   rw [hV1] at x3
   have k0:(0:Int)<=(i:Int):=by omega
   have k1:(i:Int) < (ops.length:Int):=by omega
   have hw1:=pl_w1 (k:=i) (by have:=HLE.out; omega)
   have HM:=Lib.hid (pl_meas hlt)
   have HOP:=Lib.hid hop
   have hal:(Bt.apply l (ops.take i)).length<=l.length + i:=by
    have h1:=apply_length l (ops.take i)
    rw [List.length_take] at h1
    omega
   have hab:Tb.bytes (Bt.apply l (ops.take i)) + (op.key.length + op.val.length)<=9223372036854775807:=by
    have h1:=Bt.apply_bytes l (ops.take i)
    have h2:=Bt.opsW_take ops (i + 1)
    rw [List.take_add_one,hop,Option.toList_some,Bt.opsW_snoc] at h2
    have:=HS.out
    omega
   have htx:=HX.out op (List.mem_of_getElem? hop)
   have hKs:K.size = op.key.length:=by rw [<- hKl]; rfl
   have hVs:V.size = op.val.length:=by rw [<- hVl]; rfl
   cases hdel:op.del with
   | true =>
    rw [hdel] at x1
    have DL:=fun o=>del11_any (hT.qt ((Qt.refl wr).alloc o)) K
    rw [hKl] at DL
    have FN:=Lib.hid (fun o w2 (t:Turned (wr.alloc o) b A2 (Tb.del (Bt.apply l (ops.take i)) op.key) w2)=>turned_ap (w:=w) (wr:=wr.alloc o) HOP.out (HK.out.alloc o) HA.out (by unfold Bt.doOp; rw [hdel,if_pos rfl]) t)
    clear hT hA hK hlt hi hop hK1 hKl hV1 hVl hal hab htx hKs hVs hdel
    go_wp2_with fail
    refine (DL _).mono ?_
    rintro e w2 ⟨rfl,t⟩
    have FIN:=Lib.hid (FN.out _ _ t)
    clear t DL
    go_wp2
    rw [hw1]
    exact ⟨FIN.out,HM.out⟩
   | false =>
    rw [hdel] at x1
    have PT:=fun o=>put11_any (hT.qt ((Qt.refl wr).alloc o)) K V (by omega) (by omega) (by
     rw [hKl,hVl]
     have h1:=Tb.put_length_le (Bt.apply l (ops.take i)) op.key op.val
     have:=HN.out
     omega) (by rw [hKs,hVs]; exact hab)
    rw [hKl,hVl] at PT
    have FN:=Lib.hid (fun o w2 (t:Turned (wr.alloc o) b A2 (Tb.put (Bt.apply l (ops.take i)) op.key op.val) w2)=>turned_ap (w:=w) (wr:=wr.alloc o) HOP.out (HK.out.alloc o) HA.out (by unfold Bt.doOp; rw [hdel,if_neg (by decide)]) t)
    clear hT hA hK hlt hi hop hK1 hKl hV1 hVl hal hab htx hKs hVs hdel
    go_wp2_with fail
    refine (PT _).mono ?_
    rintro e w2 ⟨rfl,t⟩
    have FIN:=Lib.hid (FN.out _ _ t)
    clear t PT
    go_wp2
    rw [hw1]
    exact ⟨FIN.out,HM.out⟩
  ·obtain rfl:i = ops.length:=by omega
   have zlt:decide ((ops.length:Int) < (ops.length:Int)) = false:=decide_eq_false (by omega)
   have zlt':decide (ops.length < ops.length) = false:=decide_eq_false (by omega)
   have FIN:=Lib.hid (show Turned w b A (Bt.apply l ops) wr from by
    have h:=HT.out
    rw [List.take_length] at h
    exact ⟨A2,h,HA.out,HK.out⟩)
   clear hT hA hK hlt hi
   go_wp2
   go_end0
   exact ⟨rfl,FIN.out⟩
end Go.Proofs.YthjjfjhajadimaaGreatDoor
