/-
  Joined: BSort, BNormC, OSmall, OMust, OCatch.
-/
import Derived.Test.YthjjfjhajadimaaGreatDoorP29
import Derived.Deep.RegionHeld3
import Derived.Test.YthjjfjhajadimaaGreatDoorP21
import Derived.WalkLawsBesides
import Derived.Defers
import Derived.Recover
import Derived.Tactics2
namespace Go.Proofs.YthjjfjhajadimaaGreatDoor
open Go.RowKit Go.WideShapes Go.Sort Go.Shelf
set_option maxRecDepth 100000
set_option maxHeartbeats 800000 in
theorem cmp12_any (x y:Bt.O) (w:World):Calls Tryz.prog 174 #[opV x,opV y] w fun e w'=>e = .returned (.int .i64 (Bt.cmpK x y))/\∃ q os',w' = grow (w.drewN q) os':=by
 obtain ⟨d,k,v⟩:=x
 obtain ⟨d2,k2,v2⟩:=y
 unfold opV Bt.cmpK
 obtain ⟨K,hK,hKl⟩:∃ K:ByteArray,strV k = .string K/\K.data.toList = k:=⟨⟨k.toArray⟩,rfl,rfl⟩
 obtain ⟨V,hV⟩:∃ V:ByteArray,strV v = .string V:=⟨_,rfl⟩
 obtain ⟨K2,hK2,hKl2⟩:∃ K:ByteArray,strV k2 = .string K/\K.data.toList = k2:=⟨⟨k2.toArray⟩,rfl,rfl⟩
 obtain ⟨V2,hV2⟩:∃ V:ByteArray,strV v2 = .string V:=⟨_,rfl⟩
 simp only [hK,hV,hK2,hV2]
 have hcon:=fun W=>Tryz.strings_Compare K K2 W
 rw [hKl,hKl2] at hcon
 clear hK hV hK2 hV2 hKl hKl2
 generalize Lib.compareBytes k k2 = r at hcon ⊢
 have GG:∀ x y:Obj,∃ q os',(w.alloc x).alloc y = grow (w.drewN q) os':=fun x y=>⟨0,_,by rw [alloc_eq_grow,alloc_eq_grow,grow_grow]; rfl⟩
 have HG:=Lib.hid GG
 clear GG
 go_enter Tryz.func174,Tryz.ntmps174
 go_wp2_with (go_at_call 175; refine (hcon _).mono ?_; rintro e w' ⟨rfl,rfl⟩)
 go_ret
 exact ⟨rfl,HG.out _ _⟩
theorem aggOp (W:World):(isAgg (Tryz.sortO_ren.t 24)).run Tryz.prog W = .ok true W:=Tryz.isAgg87 W
theorem sizeOp (W:World):(Go.sizeOf (Tryz.sortO_ren.t 24)).run Tryz.prog W = .ok 3 W:=Tryz.sizeOf87 W
set_option maxHeartbeats 1600000 in
theorem sorted12_any {v:Value} {l m:List Bt.O} (w W:World) (h:NewO w W v l) (ha:Bt.Apart l) (hm:Bt.Norm m) (hmem:∀ o,o ∈ l ↔ o ∈ m) (hlen:l.length<=17592186044416) :
  Calls Tryz.prog 117 #[v] W fun e W'=>e = .returned v/\NewO w W' v m/\Keeps (fun k=>v.ownBlock = some k) W W':=by
 obtain ⟨a,c,rfl⟩:=ownG_shape h.own
 have HN:=Lib.hid h
 by_cases hl:l = []
 ·subst hl
  have hme:m = []:=by
   cases m with
   | nil=>rfl
   | cons x t=>exact absurd ((hmem x).2 (by simp)) (by simp)
  subst hme
  have hcon:=AnyF.slices_SortFunc_none Tryz.sortO a c (.func (.func 174) #[] #[]) W
  change Calls Tryz.prog 173 _ _ _ at hcon
  clear h ha hm hmem hlen
  go_enter Tryz.func117,Tryz.ntmps117
  go_wp2_with (go_at_call 173; refine hcon.mono ?_; rintro e w' ⟨rfl,rfl⟩)
  go_ret
  exact ⟨rfl,HN.out,Keeps.refl _ _⟩
 ·obtain ⟨g,rfl⟩:=ownG_some h.own (by rw [List.length_pos_iff]; exact hl)
  have hsz:l.toArray.size = l.length:=by simp
  have own:W.ownsRow 0 87 3 (.slice (some ⟨g,0,none⟩) l.toArray.size c) l.toArray.size (cellsG opC l.toArray.toList):=by
   have h1:=h.own
   simpa using h1
  have hH:=sortK_holds opC_len (by decide) own
  have hblk:g < W.heap.size:=ownsRow_lt own rfl
  have eg:∀ args w,(callFunc 174 args).run Tryz.prog w = .ok (.enter 174 args) w:=enters_of Tryz.func174 (by kernel_rfl) rfl
  have hcmp:CmpLays Tryz.prog 174 #[] opC 3 Bt.cmpK g 0 l.toArray.size W:=fun _ _ _ _ x y=>cmp12_any x y _
  have hcon:=AnyQ.slices_SortFunc Tryz.sortO 3 aggOp sizeOp opC opC_len (fun x u hu=>opsC_one' [x] u (by simpa [opsC,cellsG] using hu)) Bt.cmpK Bt.swoK 174 #[] g 0 c l.toArray W eg hcmp hH hblk (by rw [hsz]; omega)
  change Calls Tryz.prog 173 _ _ _ at hcon
  rw [hsz] at hcon
  have FN:=Lib.hid (fun (d:Array Bt.O) (n:Nat) (os:Array Obj) (hp:PermIn 0 l.length l.toArray d) (hs:SortedIn (ltOf Bt.cmpK) 0 l.length d)=>(show NewO w (sortWorldK opC 3 W g 0 n d os) (.slice (some ⟨g,0,none⟩) l.length c) m from by
   have hd:d.size = l.length:=by rw [hp.1,hsz]
   have hpp:d.toList.Perm l:=by
    have h2:=hp.2.2
    rw [show d.extract 0 l.length = d by rw [<- hd]; simp,show l.toArray.extract 0 l.length = l.toArray by simp] at h2
    simpa using h2
   have e:=Bt.sorted_is ha hm hmem hpp (by rw [hd]; exact hs)
   have o2:=sortK_own (d2:=d) opC_len (by decide) own (by rw [hd,hsz]) n os
   rw [hsz,e] at o2
   have hml:m.length = l.length:=by rw [<- e,<- hd]; simp
   refine ⟨by rw [hml]; exact o2,h.new,Keeps.trans h.qt (sortK_keeps W g n d os) (fun i hi e2=>by have:=h.new g rfl; omega)⟩))
  clear h ha hm hmem hlen own hH hblk hcmp eg HN hl
  go_enter Tryz.func117,Tryz.ntmps117
  go_wp2_with (go_at_call 173; refine hcon.mono ?_; rintro e w' ⟨rfl,d',n,os,hp,hs,rfl⟩)
  go_ret
  exact ⟨rfl,FN.out d' n os hp hs,(sortK_keeps W g n d' os).mono (fun k _ e=>by rw [e]; rfl)⟩
end Go.Proofs.YthjjfjhajadimaaGreatDoor
namespace Go.Proofs.YthjjfjhajadimaaGreatDoor
open Go.RowKit Go.WideShapes Go.Maps Go.Sort
set_option maxRecDepth 100000
theorem keyedStr:Keyed Tryz.prog 9:=string_keyed Tryz.underlying9
theorem keyStr (K:ByteArray) (h:K.size<=maxLen):keyOf Tryz.prog 9 (.string K) = some (klit K.data.toList):=by
 simp [keyOf,Tryz.underlying9,mapKey,h]
theorem keyStr_inv {key:Value} {kl:Lit} (h:keyOf Tryz.prog 9 key = some kl):∃ K:ByteArray,key = .string K/\kl = klit K.data.toList:=by
 cases key <;> simp [keyOf,Tryz.underlying9,mapKey] at h
 exact ⟨_,rfl,h.2.symm⟩
theorem grown12 {A B:World} (q:Qt A B):A.grownBy B none:=⟨q.os,q.tape,q.output,q.size,fun k hk _=>q.block k hk (fun e=>e)⟩
def NcAt (w:World) (ops:List Bt.O) (b:Nat) (iv:Value) (wr:World):Prop :=
 ∃ i:Nat,i<=ops.length/\iv = .int .i64 i/\wr.ownsMap Tryz.prog 9 opR b i (mapD (ops.take i))/\Qt w wr
def NdAt (w:World) (ops:List Bt.O) (b r N:Nat) (ov:Value) (wr:World):Prop :=
 ∃ (left:Lit->Bool) (cnt:Nat) (xs:List Bt.O),wr.ranges Tryz.prog 9 opR b r ops.length (mapD ops) left cnt/\xs.length + cnt<=N/\Came ops left xs/\NewO w wr ov xs/\ov.ownBlock ≠ some b/\ov.ownBlock ≠ some r
set_option maxHeartbeats 3200000 in
theorem normal12_any {v:Value} {g o:Nat} {ops:List Bt.O} (w:World) (hr:OpsIn w v g o ops) (hb:ops.length * 40<=140737488355328) (hk:∀ o ∈ ops,o.key.length<=maxLen) :
  Calls Tryz.prog 71 #[v] w fun e w'=>∃ v',e = .returned v'/\NewO w w' v' (Bt.normal ops):=by
 have HR:=Lib.hid hr
 have HLE:=Lib.hid hr.le
 have HB:=Lib.hid hb
 have HK:=Lib.hid hk
 obtain ⟨a,cap,rfl,ha⟩:=hr.val
 clear hr ha hb hk
 obtain ⟨i0,hi0,hz0,hz1,hz2⟩:=info_parts infoOp12
 have hmm:=@run_makeMap Tryz.prog
 have OM:=World.ownsMap_made w Tryz.prog 9 opR
 obtain ⟨b,hbe⟩:∃ b,w.heap.size = b:=⟨_,rfl⟩
 rw [hbe] at OM
 have START:=Lib.hid (show NcAt w ops b (.int .i64 0) (w.alloc (.map #[] 0)) from ⟨0,Nat.zero_le _,rfl,OM,(Qt.refl w).alloc _⟩)
 have HBE:=Lib.hid hbe
 clear OM
 go_enter Tryz.func71,Tryz.ntmps71
 go_wp2
 clear hbe hmm
 go_loopw [12] (fun iv wr=>NcAt w ops b iv wr) (fun iv _=>ops.length - (intOf iv).toNat)
 case atStart=>exact START.out
 case round =>
  obtain ⟨i,hi,rfl,hown,hq⟩:=hrel
  have HQ:=Lib.hid hq
  clear START
  by_cases hlt:i < ops.length
  ·have zlt:decide ((i:Int) < (ops.length:Int)) = true:=decide_eq_true (by omega)
   have zlt':decide (i < ops.length) = true:=decide_eq_true hlt
   obtain ⟨op,c1,hop,e0⟩:=HR.out.elem hlt
   injection e0 with e0 q1 q2
   clear q1 q2
   subst e0
   obtain ⟨x1,x2,x3⟩:=OpsIn.cell (recs_turn HR.out hq) hop
   obtain ⟨K,hK,hKl⟩:∃ K:ByteArray,strV op.key = .string K/\K.data.toList = op.key:=⟨⟨op.key.toArray⟩,rfl,rfl⟩
   obtain ⟨V,hV⟩:∃ V:ByteArray,strV op.val = .string V:=⟨_,rfl⟩
   rw [hK] at x2
   rw [hV] at x3
   have k0:(0:Int)<=(i:Int):=by omega
   have k1:(i:Int) < (ops.length:Int):=by omega
   have hw1:wrap64 ((i:Int) + 1) = (i:Int) + 1:=by have:=HLE.out; unfold wrap64; omega
   have HM:=Lib.hid (show ops.length - (intOf (.int .i64 ((i:Int) + 1))).toNat < ops.length - (intOf (.int .i64 (i:Int))).toNat by simp [intOf]; omega)
   have HOW:=Lib.hid hown
   have HLT:=Lib.hid hlt
   have OPV:=Lib.hid (show opV op = .agg #[.bool op.del,.string K,.string V] by unfold opV; rw [hK,hV])
   have FN:=Lib.hid (fun wy (hy:wy.ownsMap Tryz.prog 9 opR b (i + 1) ((mapD (ops.take i)).put (klit op.key) (opDat (Bt.clean op)))) (q:Qt w wy)=>(show NcAt w ops b (.int .i64 ((i:Int) + 1)) wy from
    ⟨i + 1,hlt,by simp,by
     rw [List.take_add_one,hop]
     show wy.ownsMap Tryz.prog 9 opR b (i + 1) (mapD (ops.take i ++ [op]))
     rw [mapD_snoc]
     exact hy,q⟩))
   have KS:=Lib.hid (show K.size<=maxLen from by
    have:=HK.out op (List.mem_of_getElem? hop)
    rw [<- hKl] at this
    exact this)
   have KL:=Lib.hid hKl
   obtain ⟨cv,hcv⟩:∃ cv,opV (Bt.clean op) = cv:=⟨_,rfl⟩
   have BR:=Lib.hid (fun W=>by have h:=bare_any op W; rw [OPV.out,hcv] at h; exact h)
   have UPD:=Lib.hid (fun W (q:Qt wr W)=>World.ownsMap.update (t:=184) (HOW.out.kept (row:=none) (grown12 q) (by simp)) keyedStr Tryz.underlying184 (Nat.lt_of_lt_of_le HLT.out (show ops.length<=maxLen by have:=HLE.out; unfold maxLen; omega)) (keyStr K KS.out) (val:=cv) (d:=opDat (Bt.clean op)) (ps:=[]) (hcv ▸ opR_mk (Bt.clean op)))
   rw [hKl] at UPD
   clear hown hq hlt hi hop hK hV hKl
   go_wp2_with fail
   have b0:(wr.alloc (.cells #[.bool op.del,.string K,.string V] 87)).heap[wr.heap.size]? = some (.cells #[.bool op.del,.string K,.string V] 87 (0,0)):=heap_alloc_new wr _
   have QB0:Qt wr (wr.alloc (.cells #[.bool op.del,.string K,.string V] 87)):=(Qt.refl wr).alloc _
   generalize hWB:World.alloc wr _ = WB at *
   obtain ⟨B5,hB5⟩:∃ B5,wr.heap.size = B5:=⟨_,rfl⟩
   rw [hB5] at b0 ⊢
   have d0:WB.cell? ⟨B5,0,none⟩ = some (.bool op.del):=by rw [Lib.cell_of_heap b0]; rfl
   have d1:WB.cell? ⟨B5,1,none⟩ = some (.string K):=by rw [Lib.cell_of_heap b0]; rfl
   have d2:WB.cell? ⟨B5,2,none⟩ = some (.string V):=by rw [Lib.cell_of_heap b0]; rfl
   have QB:=Lib.hid QB0
   have HB5:=Lib.hid hB5
   have BNE:=Lib.hid (show ¬ B5 = b from fun e=>by have:=HOW.out.lt; omega)
   have KP:=Lib.hid (fun W (q:Keeps (fun k=>k = b) WB W)=>(show W.cell? ⟨B5,0,none⟩ = some (.bool op.del)/\W.cell? ⟨B5,1,none⟩ = some (.string K)/\W.cell? ⟨B5,2,none⟩ = some (.string V) from ⟨q.cellv d0 BNE.out,q.cellv d1 BNE.out,q.cellv d2 BNE.out⟩))
   clear hWB hB5 b0 QB0 x1 x2 x3
   go_region_held3 (fun W'=>W'.cell? ⟨B5,0,none⟩ = some (.bool op.del)/\W'.cell? ⟨B5,1,none⟩ = some (.string K)/\W'.cell? ⟨B5,2,none⟩ = some (.string V))
    (first | go_keep | exact KP.out _ (Keeps.drew (Keeps.refl _ _)) | exact KP.out _ (Keeps.mono q1 (fun _ _ e=>e.elim)) | exact KP.out _ q2)
    (first | (go_at_call 116; refine (BR.out _).mono ?_; rintro e w1 ⟨rfl,k1⟩; have q1:Qt WB w1:=Qt.trans (Keeps.drew (Qt.refl WB)) k1; obtain ⟨w2,hup,hown2,hg2⟩:=UPD.out w1 (Qt.trans QB.out q1); have q2:Keeps (fun k=>k = b) WB w2:=Keeps.grown (S:=fun k=>k = b) (Keeps.mono q1 (fun _ _ e=>e.elim)) hg2 (fun k _ e=>Option.some.inj e)))
   have FIN:=Lib.hid (FN.out w2 hown2 (Keeps.grown (Qt.trans (Qt.trans HQ.out QB.out) q1) hg2 (fun k hk e=>by have:=HBE.out; have:=Option.some.inj e; omega)))
   clear hown2 hg2 hup q2 q1 k1
   go_wp2
   rw [hw1]
   exact ⟨FIN.out,HM.out⟩
  ·obtain rfl:i = ops.length:=by omega
   have zlt:decide ((ops.length:Int) < (ops.length:Int)) = false:=decide_eq_false (by omega)
   have zlt':decide (ops.length < ops.length) = false:=decide_eq_false (by omega)
   obtain ⟨y0,hy0⟩:∃ W:World,W = wr:=⟨_,rfl⟩
   subst hy0
   rw [List.take_length] at hown
   have HSZ:=Lib.hid (size_le hown)
   have HOW:=Lib.hid hown
   have b2:i0.bytes * size (mapD ops)<=281474976710656:=by rw [hz2]; have:=HB.out; have:=HSZ.out; omega
   have b3:size (mapD ops)<=maxLen:=by have:=HLE.out; have:=HSZ.out; unfold maxLen; omega
   clear hq hi hlt
   go_wp2_with (first
    | (at_len; refine wpList_len_own _ rfl _ 184 rfl 9 87 Tryz.underlying184 opR b ops.length (mapD ops) rfl HOW.out ?_)
    | (at_make; refine wpList_make_own _ rfl _ _ 38 rfl 0 87 i0 (.agg #[.bool false,.string ⟨#[]⟩,.string ⟨#[]⟩]) 3 Tryz.underlying38 hi0 hz0 hz1 .i64 .i64 _ (size (mapD ops)) rfl rfl rfl b2 b3 (Nat.zero_le _) ?_; intro w1 own1 gr1)
    | (at_range; refine wpList_range_own _ rfl _ 184 rfl 9 87 keyedStr Tryz.underlying184 opR b ops.length (mapD ops) rfl (HOW.out.kept gr1 (by simp)) ?_; intro w2 hrg hg hs))
   go_frame
   obtain ⟨r,hr⟩:∃ r,w1.heap.size = r:=⟨_,rfl⟩
   rw [hr] at hrg hs ⊢
   have HBL:=Lib.hid (show b < y0.heap.size from HOW.out.lt)
   have HRL:=Lib.hid (show y0.heap.size < r from by rw [<- hr]; exact ownsRow_lt own1 rfl)
   have q1:Qt y0 w1:=⟨gr1.os,gr1.tape,gr1.output,gr1.size,fun k hk _=>gr1.block k hk (by simp)⟩
   have q2:Qt w1 w2:=⟨hg.os,hg.tape,hg.output,hg.size,fun k hk _=>hg.block k hk (by simp)⟩
   have HY:=Lib.hid (show w.heap.size<=y0.heap.size from HQ.out.size)
   have START:=Lib.hid (show NdAt w ops b r (size (mapD ops)) (.slice (some ⟨y0.heap.size,0,none⟩) 0 (size (mapD ops))) w2 from
    ⟨has (mapD ops),size (mapD ops),[],hrg,by simp,came_start ops,⟨ownsRow_kept own1 q2 (fun _ _ e=>e),fun g e=>by injection e with e; have:=HY.out; simp only at e; omega,Qt.trans (Qt.trans HQ.out q1) q2⟩,
     fun e=>by have e2:=Option.some.inj e; simp only at e2; have:=HBL.out; omega,fun e=>by have e2:=Option.some.inj e; simp only at e2; have:=HRL.out; omega⟩)
   clear own1 gr1 hrg hg hs hr q1 q2 b2 b3 hown
   go_loopw [6] (fun ov wr=>NdAt w ops b r (size (mapD ops)) ov wr) (fun _ wr=>wr.rangeLeft b r)
   case atStart=>exact START.out
   case round =>
    obtain ⟨left,cnt,xs,hrg,hlen,came,N,nb,nr⟩:=hrel
    have HRG:=Lib.hid hrg
    have CM:=Lib.hid came
    have NN:=Lib.hid N
    have HLEN:=Lib.hid hlen
    have HNB:=Lib.hid nb
    have HNR:=Lib.hid nr
    obtain ⟨oa,oc,rfl⟩:=ownG_shape N.own
    clear START came N hlen nb nr hrg
    go_wp2_with (at_next; refine wpList_next_ranges (α:=ByteArray) (β:=Bt.O) _ rfl _ rfl 9 keyedStr opR Value.string opV ?iK (fun v y h=>opR_inv h) b r ops.length (mapD ops) left cnt rfl HRG.out ?done ?more)
    case iK =>
     intro key kl h
     obtain ⟨x,hx,_⟩:=keyStr_inv h
     exact ⟨x,hx⟩
    case done =>
     intro hc0 hl0
     have CE:=came_end CM.out hl0
     have SO:=sorted12_any w wr NN.out CM.out.apart (Bt.normal_norm ops) CE (by have:=HLEN.out; have:=HSZ.out; have:=HLE.out; omega)
     clear CE hc0 hl0
     go_wp2_with fail
     refine SO.mono ?_
     rintro e w5 ⟨rfl,N5,_⟩
     have N6:=Lib.hid N5
     clear N5 SO
     go_wp2
     go_ret
     exact ⟨_,rfl,N6.out⟩
    case more =>
     intro x c kl yd yp w4 cnt4 hkey hlk hv hat hrg4 hlt4 hg4 hs4 hen
     obtain ⟨x2,ex,rfl⟩:=keyStr_inv hkey
     have ex2:x = x2:=by injection ex
     subst ex2
     obtain rfl:opDat c = yd:=congrArg Prod.fst (Option.some.inj ((opR_mk c).symm.trans hv))
     obtain ⟨hc,hck⟩:=mapD_entry hat
     rw [<- hck] at hlk hrg4
     have CS:=Lib.hid (came_step CM.out hc hlk)
     have hN1:xs.length + 1<=ops.length:=by have:=HLEN.out; have:=HSZ.out; omega
     have K4:Keeps (fun k=>k = r) wr w4:=Keeps.grown (S:=fun k=>k = r) (Keeps.refl _ _) hg4 (fun k _ e=>Option.some.inj e)
     have OWN4:w4.ownsRow 0 87 3 (.slice oa xs.length oc) xs.length (opsC xs):=ownsRow_kept NN.out.own K4 (fun k e1 e2=>HNR.out (by rw [e1,e2]))
     have OW:=Lib.hid (fun o1 o2=>(show ((w4.alloc o1).alloc o2).ownsRow 0 87 3 (.slice oa xs.length oc) xs.length (opsC xs) from ownsRow_kept OWN4 (((Keeps.refl (fun _=>False) w4).alloc o1).alloc o2) (fun _ _ e=>e)))
     have Q4:=Lib.hid (show Qt w w4 from Keeps.trans NN.out.qt K4 (fun i hi e=>by have:=HRL.out; have:=HY.out; omega))
     have RG:=Lib.hid hrg4
     have HM4:=Lib.hid (show w4.rangeLeft b r = cnt4/\wr.rangeLeft b r = cnt from ⟨hrg4.left_eq,HRG.out.left_eq⟩)
     have HLT4:=Lib.hid hlt4
     have HN1:=Lib.hid hN1
     obtain ⟨K,hK⟩:∃ K:ByteArray,strV c.key = .string K:=⟨_,rfl⟩
     obtain ⟨V,hV⟩:∃ V:ByteArray,strV c.val = .string V:=⟨_,rfl⟩
     have HCV:=Lib.hid (show opC c = [.bool c.del,.string K,.string V] by unfold opC; rw [hK,hV])
     have hb1:xs.length + 1<=maxLen:=by have:=HLE.out; unfold maxLen; omega
     have hb2:(xs.length + 1) * 40<=140737488355328:=by have:=HB.out; omega
     have OPC:opV c = .agg #[.bool c.del,.string K,.string V]:=by unfold opV; rw [hK,hV]
     rw [OPC] at hen ⊢
     clear hkey hat hv hlk hc hck hrg4 hlt4 hg4 hs4 ex hK hV OWN4 K4 hN1 OPC
     go_wp2_with (at_builtin; refine wpList_append_rows _ rfl _ _ 38 rfl 87 i0 (.agg #[.bool false,.string ⟨#[]⟩,.string ⟨#[]⟩]) 3 40 Tryz.underlying38 hi0 hz0 hz1 hz2 rfl (by decide) _ xs.length (opsC xs) rfl (OW.out _ _) (some ⟨w4.heap.size + 1,0,none⟩) 1 1 [.bool c.del,.string K,.string V] rfl rfl (fun _=>⟨_,rfl,fun j u h=>by have:=newsG (w4.alloc (.cells #[.bool c.del,.string K,.string V] 87)) [.bool c.del,.string K,.string V] 87 j u h; rw [show (w4.alloc (.cells #[.bool c.del,.string K,.string V] 87)).heap.size = w4.heap.size + 1 by simp] at this; exact this⟩) (by intro y hy; simp at hy; rcases hy with rfl | rfl | rfl <;> rfl) hb1 hb2 ?_)
     intro v5 w5 own5 gr5 la5
     have Q5:Qt w ((w4.alloc (.cells #[.bool c.del,.string K,.string V] 87)).alloc (.cells #[.bool c.del,.string K,.string V] 87)):=(Q4.out.alloc _).alloc _
     have N5:=Lib.hid (ownG_more (f:=opC) (W:=w) (l:=xs) (k:=[c]) NN.out.new Q5 (by simp) (by rw [cellsG_append,cellsG_one,HCV.out]) own5 gr5 la5)
     have FIN:=Lib.hid (show NdAt w ops b r (size (mapD ops)) v5 w5 from
      ⟨_,cnt4,xs ++ [c],((RG.out.alloc _).alloc _).kept gr5 (fun e=>HNB.out e.symm) (fun e=>HNR.out e.symm),by rw [List.length_append,List.length_singleton]; have:=HLEN.out; have:=HLT4.out; omega,CS.out,N5.out,
       fun e=>by
        rcases la5 with e2 | ⟨z,e2,hz⟩
        ·exact HNB.out (e2 ▸ e)
        ·rw [e2] at e; have e3:=Option.some.inj e; have:=RG.out.owns.lt; simp at hz; omega,
       fun e=>by
        rcases la5 with e2 | ⟨z,e2,hz⟩
        ·exact HNR.out (e2 ▸ e)
        ·rw [e2] at e; have e3:=Option.some.inj e; have:=RG.out.lt; simp at hz; omega⟩)
     have HMM:=Lib.hid (show w5.rangeLeft b r < wr.rangeLeft b r from by
      obtain ⟨_,cnt5,_,h5,_⟩:=FIN.out
      have h6:=(((RG.out.alloc (.cells #[.bool c.del,.string K,.string V] 87)).alloc (.cells #[.bool c.del,.string K,.string V] 87)).kept gr5 (fun e=>HNB.out e.symm) (fun e=>HNR.out e.symm)).left_eq
      rw [h6,HM4.out.2]
      exact HLT4.out)
     clear own5 gr5 la5 Q5
     obtain ⟨a5,c5,rfl⟩:=ownG_shape N5.out.own
     go_wp2
     exact ⟨FIN.out,HMM.out⟩
end Go.Proofs.YthjjfjhajadimaaGreatDoor
namespace Go.Proofs.YthjjfjhajadimaaGreatDoor
open Go.RowKit Go.WideShapes
set_option maxRecDepth 100000
theorem eq_sameO (ei:Addr) (w:World):(binOp .eql 27 (.iface 335 (.pointer (some ei))) (.iface 335 (.pointer (some ei)))).run Tryz.prog w = .ok (.bool true) w:=by
 obtain ⟨i,hi,hcmp⟩:=Option.map_eq_some_iff.1 compErr
 obtain ⟨j,hj,_⟩:=Option.map_eq_some_iff.1 sizeErr
 exact run_eql_iface_ptr_same (P:=Tryz.prog) w ei Tryz.underlying27 Tryz.underlying335 hi hcmp hj
theorem eq_otherO {ad:Nat->Addr} {w:World} (hE:Errs ad w) {i j:Nat} (hi:i < 37) (hj:j < 37) (hne:i ≠ j):(binOp .eql 27 (.iface 335 (.pointer (some (ad (i + 1))))) (.iface 335 (.pointer (some (ad (j + 1)))))).run Tryz.prog w = .ok (.bool false) w:=by
 obtain ⟨k,hk,hcmp⟩:=Option.map_eq_some_iff.1 compErr
 obtain ⟨m,hm,hsz⟩:=Option.map_eq_some_iff.1 sizeErr
 obtain ⟨c1,t1,b1⟩:=hE.blk i hi
 obtain ⟨c2,t2,b2⟩:=hE.blk j hj
 exact run_eql_iface_ptr_other (P:=Tryz.prog) w Tryz.underlying27 Tryz.underlying335 hk hcmp hm (by omega) (fun e=>hne (hE.apart i j hi hj e)) b1 b2
namespace Bt
structure Small (ops:List O):Prop where
 len:ops.length<=4194304
 txt:∀ o ∈ ops,o.key.length<=1073741824/\o.val.length<=1073741824
theorem clean_len (o:O):(clean o).key.length = o.key.length/\(clean o).val.length<=o.val.length:=by
 unfold clean
 refine ⟨rfl,?_⟩
 cases o.del <;> simp
theorem Small.normal {ops:List O} (h:Small ops):Small (normal ops):=by
 refine ⟨Nat.le_trans (normal_length ops) h.len,fun o ho=>?_⟩
 obtain ⟨p,hp,rfl⟩:=normal_mem ho
 have h1:=clean_len p
 have h2:=h.txt p hp
 exact ⟨by omega,by omega⟩
theorem sum_most {α:Type} (f:α->Nat) (M:Nat):∀ (l:List α),(∀ x ∈ l,f x<=M)->(l.map f).sum<=l.length * M
 | [],_=>Nat.zero_le _
 | a :: l,h=>by
  have h1:=sum_most f M l (fun x hx=>h x (by simp [hx]))
  have h2:=h a (by simp)
  rw [List.map_cons,List.sum_cons,List.length_cons,Nat.succ_mul]
  omega
theorem Small.opsW {ops:List O} (h:Small ops):Bt.opsW ops<=9007199254740992:=by
 have h1:=sum_most (fun o:O=>o.key.length + o.val.length) 2147483648 ops (fun o ho=>by have:=h.txt o ho; omega)
 have h2:=h.len
 unfold Bt.opsW
 omega
theorem Small.opsN {ops:List O} (h:Small ops):So.opsN ops<=9007199380570112:=by
 have h1:=sum_most So.newB 2147483678 ops (fun o ho=>by
  have h3:=h.txt o ho
  have h4:=Lib.uvarint_length64 (x:=o.key.length) (by omega)
  have h5:=Lib.uvarint_length64 (x:=o.val.length) (by omega)
  have h6:=So.rowB_length (o.key,o.val)
  simp only at h6
  unfold So.newB
  split
  ·omega
  ·omega)
 have h2:=h.len
 unfold So.opsN
 omega
end Bt
theorem after_hyp {w:World} {t:Nat} {l:List Tb.R} {A:Nat->Prop} {v:Value} {g o:Nat} {ops:List Bt.O} (hT:Tbl w t l A) (hl:(So.rowsB l).length<=1099511627776) (hi:OpsIn w v g o ops) (hn:Bt.Norm ops) (hs:Bt.Small ops):AfH w t l A v g o ops:=by
 have h1:=So.rowsB_len l
 have h2:Tb.bytes l<=(So.rowsB l).length + 10:=by
  have h3:=So.bytes_size l
  have h4:=So.size_eq l
  have h5:=Lib.uvarint_length64 (x:=l.length) (by omega)
  omega
 have h6:=hs.opsW
 have h7:=hs.opsN
 have h8:=hs.len
 exact ⟨hT,hi,hn,fun o ho=>by have:=hs.txt o ho; omega,by omega,by omega,by omega⟩
theorem box_own (W:World) (ty:TypeId) (xs:Array Value):∃ W2,W.alloc (.cells xs ty) = W2/\Qt W W2/\Bk W2 W.heap.size ty xs.toList/\W2.heap.size = W.heap.size + 1:=⟨_,rfl,(Qt.refl W).alloc _,Bk.new W ty xs,by simp⟩
def brokenE:Ending:=.panicked [{ v:=.iface 163 (.agg #[]),recovered:=false }]
theorem need_ok (w:World):Calls Tryz.prog 151 #[.bool true] w fun e w'=>e = .returned (.tuple #[])/\w' = w:=by
 go_enter Tryz.func151,Tryz.ntmps151
 go_wp2
 exact bodyPost_end (results_none rfl _ _ _) rfl ⟨rfl,rfl⟩
theorem need_no (w:World):Calls Tryz.prog 151 #[.bool false] w fun e w'=>e = brokenE/\w' = w:=by
 go_enter Tryz.func151,Tryz.ntmps151
 go_wp2
 exact ⟨rfl,rfl,rfl⟩
theorem mustS_ok (v:Value) (w:World):Calls Tryz.prog 143 #[v,.nilIface] w fun e w'=>e = .returned v/\w' = w:=by
 go_enter Tryz.func143,Tryz.ntmps143
 go_wp2_with fail
 refine (need_ok _).mono ?_
 rintro e w1 ⟨rfl,rfl⟩
 go_wp2
 exact bodyPost_ret (results_tmp (t:=4) rfl _ _ _) rfl ⟨rfl,rfl⟩
theorem mustS_no (v:Value) (ty:TypeId) (p:Value) (w:World):Calls Tryz.prog 143 #[v,.iface ty p] w fun e w'=>e = brokenE/\w' = w:=by
 go_enter Tryz.func143,Tryz.ntmps143
 have NN:=need_no w
 unfold brokenE at NN
 go_wp2_with fail
 refine NN.mono ?_
 rintro e w1 ⟨rfl,rfl⟩
 go_wp2
 exact ⟨rfl,rfl,rfl⟩
theorem mustT_ok (v:Value) (w:World):Calls Tryz.prog 147 #[v,.nilIface] w fun e w'=>e = .returned v/\w' = w:=by
 go_enter Tryz.func147,Tryz.ntmps147
 go_wp2_with fail
 refine (need_ok _).mono ?_
 rintro e w1 ⟨rfl,rfl⟩
 go_wp2
 exact bodyPost_ret (results_tmp (t:=4) rfl _ _ _) rfl ⟨rfl,rfl⟩
theorem mustO_ok (v:Value) (w:World):Calls Tryz.prog 149 #[v,.nilIface] w fun e w'=>e = .returned v/\w' = w:=by
 go_enter Tryz.func149,Tryz.ntmps149
 go_wp2_with fail
 refine (need_ok _).mono ?_
 rintro e w1 ⟨rfl,rfl⟩
 go_wp2
 exact bodyPost_ret (results_tmp (t:=4) rfl _ _ _) rfl ⟨rfl,rfl⟩
theorem mustO_no (v:Value) (ty:TypeId) (p:Value) (w:World):Calls Tryz.prog 149 #[v,.iface ty p] w fun e w'=>e = brokenE/\w' = w:=by
 go_enter Tryz.func149,Tryz.ntmps149
 have NN:=need_no w
 unfold brokenE at NN
 go_wp2_with fail
 refine NN.mono ?_
 rintro e w1 ⟨rfl,rfl⟩
 go_wp2
 exact ⟨rfl,rfl,rfl⟩
theorem mustI_ok (v:Value) (w:World):Calls Tryz.prog 200 #[v,.nilIface] w fun e w'=>e = .returned v/\w' = w:=by
 go_enter Tryz.func200,Tryz.ntmps200
 go_wp2_with fail
 refine (need_ok _).mono ?_
 rintro e w1 ⟨rfl,rfl⟩
 go_wp2
 exact bodyPost_ret (results_tmp (t:=4) rfl _ _ _) rfl ⟨rfl,rfl⟩
theorem mustI_no (v:Value) (ty:TypeId) (p:Value) (w:World):Calls Tryz.prog 200 #[v,.iface ty p] w fun e w'=>e = brokenE/\w' = w:=by
 go_enter Tryz.func200,Tryz.ntmps200
 have NN:=need_no w
 unfold brokenE at NN
 go_wp2_with fail
 refine NN.mono ?_
 rintro e w1 ⟨rfl,rfl⟩
 go_wp2
 exact ⟨rfl,rfl,rfl⟩
theorem mustU_ok (v:Value) (w:World):Calls Tryz.prog 203 #[v,.nilIface] w fun e w'=>e = .returned v/\w' = w:=by
 go_enter Tryz.func203,Tryz.ntmps203
 go_wp2_with fail
 refine (need_ok _).mono ?_
 rintro e w1 ⟨rfl,rfl⟩
 go_wp2
 exact bodyPost_ret (results_tmp (t:=4) rfl _ _ _) rfl ⟨rfl,rfl⟩
theorem mustU_no (v:Value) (ty:TypeId) (p:Value) (w:World):Calls Tryz.prog 203 #[v,.iface ty p] w fun e w'=>e = brokenE/\w' = w:=by
 go_enter Tryz.func203,Tryz.ntmps203
 have NN:=need_no w
 unfold brokenE at NN
 go_wp2_with fail
 refine NN.mono ?_
 rintro e w1 ⟨rfl,rfl⟩
 go_wp2
 exact ⟨rfl,rfl,rfl⟩
theorem eq_broken (w:World):(binOp .eql 20 (.iface 163 (.agg #[])) (.iface 163 (.agg #[]))).run Tryz.prog w = .ok (.bool true) w:=by
 kernel_rfl
theorem catch_broken (ad:Nat->Addr) {w:World} {gs ge:Nat} {xs xe:Value} (hE:Errs ad w) (hs:Bk w gs 34 [xs]) (he:Bk w ge 27 [xe]) (hne:gs ≠ ge) (hns:¬ gs = 8) (older:List PanicEntry) :
  CallsD Tryz.prog 86 #[.pointer (some ⟨gs,0,none⟩),.pointer (some ⟨ge,0,none⟩)] (.panicking ({ v:=.iface 163 (.agg #[]),recovered:=false } :: older)) w fun e u' w' =>
   e = .returned (.tuple #[])/\u' = .panicking ({ v:=.iface 163 (.agg #[]),recovered:=true } :: older)/\w' = (w.setCell ⟨gs,0,none⟩ (.pointer none)).setCell ⟨ge,0,none⟩ (.iface 335 (.pointer (some (ad 15)))):=by
 have s0:=hs.cell 0 _ rfl
 have s1:=hs.frozen 0
 have e0:=he.cell 0 _ rfl
 have e1:=he.frozen 0
 have c15:w.cell? ⟨8,0,none⟩ = some (.iface 335 (.pointer (some (ad 15)))):=hE.cells 14 _ rfl
 have EQ:=eq_broken w
 clear hE hs he
 refine callsD_of_wpS Tryz.func86 rfl fun c₀ cs hu=>?_
 apply wpS_seq
 apply wpS_region
 simp [wpOpsS,go_sem,recoverD,hu,Tryz.ntmps86,Exit.thenS]
 refine wpS_of_wp ?_
 go_wp2
 simp [bodyPostS,results,show (Tryz.func86).results = #[] from rfl]
theorem catch_idle13 {w:World} {gs ge:Nat} :
  CallsD Tryz.prog 86 #[.pointer (some ⟨gs,0,none⟩),.pointer (some ⟨ge,0,none⟩)] .returning w fun e u' w'=>e = .returned (.tuple #[])/\u' = .returning/\w' = w:=by
 refine callsD_of_wpS Tryz.func86 rfl fun c₀ cs hu=>?_
 apply wpS_seq
 apply wpS_region
 simp [wpOpsS,go_sem,recoverD,hu,Tryz.ntmps86,Exit.thenS]
 refine wpS_of_wp ?_
 go_wp2
 cases c₀
 simp_all [bodyPostS,results,show (Tryz.func86).results = #[] from rfl]
end Go.Proofs.YthjjfjhajadimaaGreatDoor
