/-
  The contract of Write.
-/
import Derived.Test.YthjjfjhajadimaaGreatDoorP08
import Derived.Deep.RegionHeld3
import Derived.Deep.AppendLies
import Derived.Outline
namespace Go.Proofs.YthjjfjhajadimaaGreatDoor
open Go.RowKit Go.WideShapes
open Go.Maps (Keyed string_keyed int_keyed keyOf_int_mk)
set_option maxRecDepth 100000
theorem zeroWrite_size:Tryz.zeroCells156.size = 257:=by kernel_rfl
theorem zeroWrite_one:Tryz.zeroCells156.all (·.oneCell') = true:=by kernel_rfl
theorem infoWrite:(Tryz.prog.info? 156).map (·.size) = some 257:=by kernel_rfl
theorem byteSize (w:World):(Go.sizeOf 5).run Tryz.prog w = .ok 1 w:=by kernel_rfl
def strL (s:ByteArray):List UInt8:=s.data.toList
theorem made_write (w:World) (i:Nat) (s:ByteArray) (hs:s.size = 256) :
  ∃ X W2,X = Tryz.zeroCells156.setIfInBounds 0 (.int .i64 i)/\X.size = 257/\X.all (·.oneCell') = true /\
   (Builtin.copy_ #[111,9] 3 #[.slice (some ⟨w.heap.size,1,none⟩) 256 256,.string s]).run Tryz.prog ((w.alloc (.cells Tryz.zeroCells156 156)).setRow w.heap.size X) = .ok (.int .i64 256) W2 /\
   Qt w W2/\W2.rangeAt w.heap.size 0 (wayCells (i,strL s))/\w.heap.size < W2.heap.size:=by
 have hX:(Tryz.zeroCells156.setIfInBounds 0 (Value.int .i64 i)).size = 257:=by rw [Array.size_setIfInBounds,zeroWrite_size]
 have hrow:=setRow_heap (w.alloc (.cells Tryz.zeroCells156 156)) w.heap.size _ (Tryz.zeroCells156.setIfInBounds 0 (Value.int .i64 i)) 156 (0,0) (heap_alloc_new w _)
 have hx0:(Tryz.zeroCells156.setIfInBounds 0 (Value.int .i64 i))[0]? = some (.int .i64 i):=by
  rw [Array.getElem?_setIfInBounds_self_of_lt (by rw [zeroWrite_size]; decide)]
 have hx1:(Tryz.zeroCells156.setIfInBounds 0 (Value.int .i64 i)).all (·.oneCell') = true:=by
  rw [Array.all_eq_true]
  intro j hj
  rw [Array.getElem_setIfInBounds (by simpa using hj)]
  split
  ·rfl
  ·exact (Array.all_eq_true.1 zeroWrite_one) j (by simpa using hj)
 have hk:Qt w ((w.alloc (.cells Tryz.zeroCells156 156)).setRow w.heap.size (Tryz.zeroCells156.setIfInBounds 0 (Value.int .i64 i))) :=
  Keeps.setRow ((Qt.refl w).alloc _) (fun h=>absurd h (Nat.lt_irrefl _)) _
 generalize Tryz.zeroCells156.setIfInBounds 0 (Value.int .i64 i) = X at *
 generalize hW:(w.alloc (.cells Tryz.zeroCells156 156)).setRow w.heap.size X = W1 at *
 have hl:(Lib.byteCells (strL s)).length = 256:=by rw [Lib.byteCells_length]; unfold strL; simp; exact hs
 have hth:W1.there w.heap.size 1 256:=fun j hj=>⟨by
  rw [cell_of_row W1 _ _ _ _ _ hrow,Array.getElem?_eq_getElem (by omega)]; rfl,frozen_of_row hrow _⟩
 have hr:=run_copy_string (P:=Tryz.prog) W1 111 9 3 5 w.heap.size 1 256 256 s Tryz.underlying111 byteSize (by omega) (fun j hj=>(hth j (by omega)).1) (fun j hj=>(hth j (by omega)).2)
 rw [hs] at hr
 refine ⟨X,_,rfl,hX,hx1,(by rw [hW]; exact hr),?_,?_,?_⟩
 ·exact Keeps.trans hk (keeps_setCells w.heap.size _ 1 W1) (fun k h1 h2=>absurd h1 (by subst h2; exact Nat.lt_irrefl _))
 ·intro j v hj
  cases j with
  | zero =>
   rw [World.cell?_setCells_out w.heap.size _ 1 W1 ⟨w.heap.size,0 + 0,none⟩ (fun _ _=>.inl (by show 0 + 0 < 1; omega)),cell_of_row W1 _ _ _ _ _ hrow]
   simp [wayCells] at hj
   subst hj
   exact hx0
  | succ j =>
   have hj':(Lib.byteCells (strL s))[j]? = some v:=by simpa [wayCells] using hj
   have:=World.rangeAt_setCells_same W1 w.heap.size 1 (Lib.byteCells (strL s)) (by rw [hl]; exact hth) j v hj'
   rw [show 0 + (j + 1) = 1 + j by omega]
   exact this
 ·have:=(keeps_setCells w.heap.size (s.data.toList.map fun x=>Value.int .u8 (x.toNat:Int)) 1 W1).size
  have h2:=lt_of_block hrow
  omega
section
variable {w:World} {b gd mb:Nat} {uv:Value} {d:DS}
def DS.push (d:DS) (i:Nat) (s:List UInt8):DS:={ d with ways:=d.ways ++ [(i,s)] }
theorem DS.Ok.push {d:DS} (h:d.Ok) {i:Nat} {s:List UInt8} (hi:i < d.dur.length) (hs:s.length = 256):(d.push i s).Ok:=⟨h.pos,h.le,h.each,ok_ways h.way ⟨hi,hs⟩,h.a0,h.a1⟩
theorem MapsTo.put {D:DataW Unit} {ws:List (Nat × List UInt8)} (h:MapsTo D ws) (hm:Maps.IsMap D) {i:Nat} (hi:i<=65536) (s:List UInt8):MapsTo (D.put (.int .i64 i) (.lit (.int .i64 ws.length))) (ws ++ [(i,s)]):=by
 refine ⟨fun p=>?_,fun p k hk=>?_⟩
 ·rw [lastAt_snoc]
  by_cases hp:i = p
  ·subst hp
   rw [if_pos rfl,Maps.has_put_same hm (keyInt.key (key_nat hi))]
   rfl
  ·rw [if_neg hp,Maps.has_put_other (by intro e; apply hp; injection e with _ e; omega)]
   exact h.has p
 ·rw [lastAt_snoc] at hk
  by_cases hp:i = p
  ·subst hp
   rw [if_pos rfl] at hk
   injection hk with hk
   subst hk
   rw [Maps.atKey_put_same hm (keyInt.key (key_nat hi))]
  ·rw [if_neg hp] at hk
   rw [Maps.atKey_put_other (by intro e; apply hp; injection e with _ e; omega)]
   exact h.at' p k hk
theorem DiskP.pushed {W2 w3 w4 w5:World} {g' c':Nat} {D:DataW Unit} {i:Nat} {s:List UInt8} (h:DiskP w b gd mb uv d) (hm:MapsTo D d.ways) (hi:i < d.dur.length) (hs:s.length = 256) (hD:Maps.IsMap D)
  (k2:Qt w W2) (k3:Keeps (fun k=>some k = some mb) W2 w3) (hown3:w3.ownsMap Tryz.prog 3 (plainElem Tryz.prog 3) mb (d.ways.length + 1) (D.put (.int .i64 i) (.lit (.int .i64 d.ways.length))))
  (k4:Qt w3 w4) (hown5:w5.ownsRow 0 156 257 (.slice (some ⟨g',0,none⟩) (d.ways.length + 1) c') (d.ways.length + 1) (waysCells d.ways ++ wayCells (i,s)))
  (hc:(some g' = uv.ownBlock/\w4.grownBy w5 uv.ownBlock)\/(w4.heap.size<=g'/\w4.grownBy w5 none)) :
  DiskP (w5.setCell ⟨b,1,none⟩ (.slice (some ⟨g',0,none⟩) (d.ways.length + 1) c')) b gd mb (.slice (some ⟨g',0,none⟩) (d.ways.length + 1) c') (d.push i s) /\
  Keeps (foot b gd mb uv) w (w5.setCell ⟨b,1,none⟩ (.slice (some ⟨g',0,none⟩) (d.ways.length + 1) c'))/\w5.frozen? ⟨b,1,none⟩ = false/\w5.cell? ⟨b,1,none⟩ = some uv/\(some g' = uv.ownBlock\/w.heap.size<=g'):=by
 obtain ⟨a1,a2,a3,a4,a5,a6⟩:=h.apart
 have hlt:=h.lt
 have z2:=k2.size
 have z3:=k3.size
 have z4:=k4.size
 have k5:Keeps (fun k=>uv.ownBlock = some k) w4 w5:=by
  rcases hc with ⟨_,q⟩ | ⟨_,q⟩
  ·exact Keeps.grown (Keeps.refl _ w4) q (fun k _ e=>e.symm)
  ·exact Keeps.grown (Keeps.refl _ w4) q (fun k _ e=>by cases e)
 have z5:=k5.size
 have k35:Keeps (fun k=>k = mb\/uv.ownBlock = some k) w w5 :=
  Keeps.trans (Keeps.trans (Keeps.trans (T:=fun k=>some k = some mb) (S:=fun k=>k = mb\/uv.ownBlock = some k) (Keeps.mono k2 (fun _ _ e=>e.elim)) k3 (fun k _ e=>.inl (by simpa using e))) k4 (fun _ _ e=>e.elim)) k5 (fun k _ e=>.inr e)
 have kS:=keeps_setCell w5 b 1 (.slice (some ⟨g',0,none⟩) (d.ways.length + 1) c')
 have hrow5:=(k35.block b (lt_of_block h.cells) (by rintro (e | e); exact a2 e; exact a4 e)).trans h.cells
 have kA:Keeps (foot b gd mb uv) w (w5.setCell ⟨b,1,none⟩ (.slice (some ⟨g',0,none⟩) (d.ways.length + 1) c')) :=
  Keeps.trans (Keeps.mono k35 (fun k _ e=>by rcases e with e | e; exact .inr (.inr (.inl e)); exact .inr (.inr (.inr e)))) kS (fun k _ e=>.inl e)
 have hgb:g' ≠ b:=by
  rcases hc with ⟨q,_⟩ | ⟨q,_⟩
  ·intro e; subst e; exact a4 q.symm
  ·have:=hlt b (.inl rfl); omega
 refine ⟨⟨h.ok.push hi hs,?_,?_,?_,_,?_,hm.put hD (by have:=h.ok.le; omega) s⟩,kA,frozen_of_row hrow5 1,?_⟩
 ·rw [setCell_row hrow5]
  rfl
 ·exact (h.dur.kept k35 (by rintro (e | e); exact a3 e; exact a5 e)).kept kS (fun e=>a1 e.symm)
 ·have e1:(d.push i s).ways.length = d.ways.length + 1:=by simp [DS.push]
  have e2:waysCells (d.push i s).ways = waysCells d.ways ++ wayCells (i,s):=waysCells_snoc _ _
  rw [e1,e2]
  exact ownsRow_kept hown5 kS (fun k q e=>by subst e; simp [Value.ownBlock] at q; exact hgb q)
 ·have e1:(d.push i s).ways.length = d.ways.length + 1:=by simp [DS.push]
  rw [e1]
  exact ownsMap_kept (ownsMap_kept (ownsMap_kept hown3 k4 (fun e=>e)) k5 (fun e=>a6 e)) kS (fun e=>a2 e.symm)
 ·refine ⟨by rw [cell_of_row w5 b 1 _ _ _ hrow5]; rfl,?_⟩
  rcases hc with ⟨q,_⟩ | ⟨q,_⟩
  ·exact .inl q
  ·exact .inr (by omega)
theorem infoWrite3:(Tryz.prog.info? 156).map (fun i=>(i.zero.map (fun z=>z.cells.size),i.size,i.bytes)) = some (some 257,257,264):=by kernel_rfl
theorem partsWrite:∃ i z,Tryz.prog.info? 156 = some i/\i.zero = some z/\i.size = 257/\i.bytes = 264/\z.cells.size = 257:=by
 obtain ⟨i,hi,h⟩:=Option.map_eq_some_iff.1 infoWrite3
 simp only [Prod.mk.injEq] at h
 obtain ⟨z,hz,hc⟩:=Option.map_eq_some_iff.1 h.1
 exact ⟨i,z,hi,hz,h.2.1,h.2.2,hc⟩
theorem goes_wr (d:DS):d.goes.wr = d.wr:=by unfold DS.goes; split <;> rfl
def WroteP (ad:Nat->Addr) (w:World) (b gd mb:Nat) (uv:Value) (d:DS) (i:Int) (s:List UInt8) (e:Ending) (w':World):Prop :=
 e = .returned (errV ad (d.writeE i s))/\∃ uv',DiskP w' b gd mb uv' (d.writeD i s)/\Keeps (foot b gd mb uv) w w'/\∀ k,uv'.ownBlock = some k->uv.ownBlock = some k\/w.heap.size<=k
theorem WroteP.off {ad:Nat->Addr} {w7:World} {i:Nat} {s:List UInt8} {uv':Value} (hr:d.reach i = 0) (hs:s.length = 256) (h0:d.armed = 0) (P:DiskP w7 b gd mb uv' (d.push i s).goes) (K:Keeps (foot b gd mb uv) w w7) (hk:∀ k,uv'.ownBlock = some k->uv.ownBlock = some k\/w.heap.size<=k) :
  WroteP ad w b gd mb uv d i s (.returned (.iface 335 (.pointer (some (ad 12))))) w7:=by
 have e1:d.writeE i s = 12:=by unfold DS.writeE; rw [if_neg (by simp [hr]),if_neg (by simp [hs]),if_pos h0]
 have e2:d.writeD i s = (d.push i s).goes:=by unfold DS.writeD DS.goes; rw [if_neg (by simp [hr]),if_neg (by simp [hs]),if_pos h0,if_pos (show (d.push i s).armed = 0 from h0)]; rfl
 exact ⟨by rw [e1]; rfl,uv',by rw [e2]; exact P,K,hk⟩
theorem WroteP.on {ad:Nat->Addr} {w7:World} {i:Nat} {s:List UInt8} {uv':Value} (hr:d.reach i = 0) (hs:s.length = 256) (h0:d.armed ≠ 0) (P:DiskP w7 b gd mb uv' (d.push i s).goes) (K:Keeps (foot b gd mb uv) w w7) (hk:∀ k,uv'.ownBlock = some k->uv.ownBlock = some k\/w.heap.size<=k) :
  WroteP ad w b gd mb uv d i s (.returned .nilIface) (w7.setCell ⟨b,5,none⟩ (.int .i64 ((d.wr:Int) + 1))):=by
 have e1:d.writeE i s = 0:=by unfold DS.writeE; rw [if_neg (by simp [hr]),if_neg (by simp [hs]),if_neg h0]
 have e3:(d.push i s).goes = { d.push i s with armed:=dec d.armed }:=if_neg h0
 have e2:d.writeD i s = { d.push i s with armed:=dec d.armed,wr:=d.wr + 1 }:=by unfold DS.writeD; rw [if_neg (by simp [hr]),if_neg (by simp [hs]),if_neg h0]; rfl
 have kS:=keeps_setCell w7 b 5 (.int .i64 ((d.wr:Int) + 1))
 refine ⟨by rw [e1]; rfl,uv',?_,Keeps.trans K kS (fun k _ e=>.inl e),hk⟩
 have hok:=P.ok
 rw [e3] at P hok
 rw [e2]
 refine P.turn kS ?_ ⟨hok.pos,hok.le,hok.each,hok.way,hok.a0,hok.a1⟩ rfl rfl
 rw [setCell_row P.cells]
 simp [diskCells]
set_option maxHeartbeats 3200000 in
theorem write_ok (ad:Nat->Addr) (hE:Errs ad w) (hO:OffErrs ad (foot b gd mb uv)) (h:DiskP w b gd mb uv d) (i:Nat) (s:ByteArray) (hr:d.reach i = 0) (hs:s.size = 256) (hf:d.ways.length<=1073741824) (hf2:d.wr<=1152921504606846976) :
  Calls Tryz.prog 182 #[.pointer (some ⟨b,0,none⟩),.int .i64 i,.string s] w (WroteP ad w b gd mb uv d i (strL s)):=by
 have hsz:((s.size:Int) != 256) = false:=by rw [hs]; rfl
 have HRR:=Lib.hid hr
 have HEE:=Lib.hid hE
 obtain ⟨X,W2,hX,hXs,hX1,hcp,k2,hrg,hlt⟩:=made_write w i s hs
 have HX:=Lib.hid hX
 have HI:=Lib.hid (show (Tryz.prog.info? 156).map (·.size) = some X.size by rw [hXs]; exact infoWrite)
 have HZ:=Lib.hid (show Tryz.zeroCells156.size = X.size by rw [hXs]; exact zeroWrite_size)
 obtain ⟨_,hi0,hi1⟩:=DS.reach_zero hr
 have hi:i < d.dur.length:=by omega
 have hle:=h.ok.le
 have hkey:=key_nat (i:=i) (by omega)
 obtain ⟨ua,uc,huv,_⟩:=own_slice h.ways
 subst huv
 have H:=Lib.hid h
 obtain ⟨D,hD,hm⟩:=h.map
 have HM:=Lib.hid hm
 have c1:W2.cell? ⟨b,1,none⟩ = some (.slice ua d.ways.length uc):=k2.cellv (h.cell 1 _ rfl)
 have c2:W2.cell? ⟨b,2,none⟩ = some (.map (some mb)):=k2.cellv (h.cell 2 _ rfl)
 have HD:=Lib.hid (ownsMap_kept hD k2 (fun e=>e))
 have Hs:=Lib.hid hs
 have HR:=Lib.hid hrg
 have HK2:=Lib.hid k2
 clear hX hXs hs hm hD hi0 hi1 hrg k2
 go_enter Tryz.func182,Tryz.ntmps182
 go_wp2_with fail
 refine (reach_p ad hE h i).mono ?_
 rintro e w' ⟨rfl,rfl⟩
 rw [hr,errV_zero]
 clear hr h
 go_wp2_with (first | (refine wpList_store_row _ rfl 156 _ _ rfl w.heap.size X _ 156 rfl (congrArg Value.agg HX.out.symm) (heap_alloc_new w _) HI.out HZ.out hX1 ?_) | (refine Lib.wpList_copy_run _ rfl _ _ 111 9 rfl _ _ rfl rfl hcp ?_))
 go_still_tail 10,(by kernel_rfl)
 change wpList _ _ _ _ _ W2.drew
 obtain ⟨W3,hW3⟩:∃ W3,W2.drew = W3:=⟨_,rfl⟩
 have HD3:=Lib.hid (show W3.ownsMap Tryz.prog 3 (plainElem (H:=Unit) Tryz.prog 3) mb d.ways.length D from hW3 ▸ HD.out)
 have HK3:=Lib.hid (show Qt W2 W3 from hW3 ▸ Keeps.drew (Qt.refl W2))
 rw [hW3]
 clear hW3 hcp HX HI HZ
 go_wp2_with (at_mapUpdate; refine wpList_mapUpdate_own _ rfl _ _ _ 107 rfl 3 3 keyInt Tryz.underlying107 _ mb _ _ rfl HD3.out (by unfold maxLen; omega) _ _ _ rfl rfl hkey _ [] (plainElem_int Tryz.underlying3 (WalkArith.wf_i64 ⟨by omega,by omega⟩)) ?_; intro w3 hown3 hgrow3; have HO3:=Lib.hid hown3; have HG3:=Lib.hid hgrow3; clear hown3 hgrow3)
 have KB3:Keeps (fun k=>some k = some mb) W2 w3:=Keeps.trans (T:=fun k=>some k = some mb) (Keeps.mono HK3.out (fun _ _ e=>e.elim)) ((Keeps.refl (fun k=>some k = some mb) W3).grown HG3.out (fun _ _ e=>e)) (fun _ _ e=>e)
 obtain ⟨a1,a2,a3,a4,a5,a6⟩:=H.out.apart
 have hmb:=H.out.lt mb (.inr (.inr (.inl rfl)))
 have d1:w3.cell? ⟨b,1,none⟩ = some (.slice ua d.ways.length uc):=KB3.cellv c1 (fun e=>a2 (by simpa using e))
 have d2:w3.rangeAt w.heap.size 0 (wayCells (i,strL s)):=fun j v hj=>KB3.cellv (p:=⟨w.heap.size,0 + j,none⟩) (HR.out j v hj) (fun e=>by simp at e; omega)
 have hld:∀ W',W'.cell? ⟨b,1,none⟩ = some (.slice ua d.ways.length uc)/\W'.rangeAt w.heap.size 0 (wayCells (i,strL s))->(Instr.loadAt 156 (.pointer (some ⟨w.heap.size,0,none⟩))).run Tryz.prog W' = .ok (.agg (wayCells (i,strL s)).toArray) W' :=
  fun W' hS=>run_loadAt_mid W' w.heap.size 0 156 _ _ hS.2 Tryz.underlying156 rfl (by rw [wayCells_length (show (strL s).length = 256 by unfold strL; simp; exact Hs.out)]; exact infoWrite)
 have hWC:(wayCells (i,strL s)).length = 257:=wayCells_length (show (strL s).length = 256 by unfold strL; simp; exact Hs.out)
 have HWC:=Lib.hid hWC
 have HONE:=Lib.hid (wayCells_one (i,strL s))
 have F:=Lib.hid (fun w4 g' c' w5 k4 hown5 hc=>DiskP.pushed (w4:=w4) (g':=g') (c':=c') (w5:=w5) (s:=strL s) H.out HM.out hi (show (strL s).length = 256 by unfold strL; simp; exact Hs.out) (HD.out.isMap) HK2.out KB3 HO3.out k4 hown5 hc)
 have HOW:=Lib.hid (fun w4 (k4:Qt w3 w4)=>ownsRow_kept (ownsRow_kept (ownsRow_kept H.out.ways HK2.out (fun _ _ e=>e)) KB3 (fun k q e=>by simp at e; subst e; exact a6 q)) k4 (fun _ _ e=>e))
 obtain ⟨iw,zw,hiw,hzw,hsw,hbw,hzc⟩:=partsWrite
 have HSW:=Lib.hid hsw
 have HBW:=Lib.hid hbw
 have HZC:=Lib.hid hzc
 have HIW:=Lib.hid hiw
 have HZW:=Lib.hid hzw
 clear hWC c1 c2 a1 a2 a3 a4 a5 a6 hld hsw hbw hzc hiw hzw
 generalize wayCells (i,strL s) = us at *
 have HU2:=Lib.hid (show (Tryz.prog.info? 156).map (·.size) = some us.length by rw [HWC.out]; exact infoWrite)
 have HSU:=Lib.hid (show iw.size = us.length by rw [HWC.out]; exact HSW.out)
 have HLU:=Lib.hid (show 0 < us.length by rw [HWC.out]; decide)
 have HLV:=Lib.hid (show us.length<=16777216 by rw [HWC.out]; decide)
 refine wp_region_any (by kernel_rfl) ?_
 change wpAny _ _ _ _ _ _ _ (World.drew _)
 have e1:w3.drew.cell? ⟨b,1,none⟩ = some (.slice ua d.ways.length uc):=d1
 have e2:w3.drew.rangeAt w.heap.size 0 us:=d2
 have q4:Qt w3 (w3.drew.alloc (.cells us.toArray 156)):=(Keeps.drew (Qt.refl w3)).alloc _
 have e3:(w3.drew.alloc (.cells us.toArray 156)).cell? ⟨b,1,none⟩ = some (.slice ua d.ways.length uc):=q4.cellv d1
 have e4:(w3.alloc (.cells us.toArray 156)).cell? ⟨b,1,none⟩ = some (.slice ua d.ways.length uc):=e3
 have HN:=Lib.hid (World.news_of_block (cs:=us.toArray) (t:=156) (fr:=(0,0)) (heap_alloc_new w3.drew _))
 have HO:=Lib.hid (HOW.out _ q4)
 have F2:=Lib.hid (fun g' c' w5 hown5 hc=>F.out _ g' c' w5 q4 hown5 hc)
 clear d1 d2 q4
 refine wpAny_take (i:=0) (v:=.pointer (some ⟨b,0,none⟩)) rfl (by kernel_rfl) (by kernel_rfl) (by kernel_rfl) (fun _ _ _ h=>h) (Or.inl ⟨by rfl,fun W=>by go_simp⟩) ?_
 refine wpAny_take (i:=1) (v:=.pointer (some ⟨b,0,none⟩)) rfl (by kernel_rfl) (by kernel_rfl) (by kernel_rfl) (fun _ _ _ h=>h) (Or.inl ⟨by rfl,fun W=>by go_simp⟩) ?_
 refine wpAny_take (i:=2) (v:=.pointer (some ⟨b,0,none⟩)) rfl (by kernel_rfl) (by kernel_rfl) (by kernel_rfl) (fun _ _ _ h=>h) (Or.inl ⟨by rfl,fun W=>by go_simp⟩) ?_
 refine wpAny_take (i:=3) (v:=.pointer (some ⟨b,1,none⟩)) rfl (by kernel_rfl) (by kernel_rfl) (by kernel_rfl) (fun _ _ _ h=>h) (Or.inl ⟨by rfl,fun W=>by go_simp⟩) ?_
 refine wpAny_ready (rs:=[4,5]) (by kernel_rfl) (by simp) ?_
 refine AllReady.cons rfl (fun K hK=>?_) (AllReady.cons rfl (fun K hK=>?_) AllReady.nil)
 ·go_simp
  refine hK _ _ ?_
  clear hK K
  refine wpAny_tail 5 6 rfl (by kernel_rfl) ?_
  simp only [List.drop_succ_cons,List.drop_zero]
  go_wp2_with (first | (refine wpList_load_mid rfl 156 _ rfl w.heap.size 0 rfl us _ e2 Tryz.underlying156 rfl HU2.out ?_) | (refine wpList_buildSlice_one rfl 108 156 _ rfl iw zw us rfl Tryz.underlying108 HIW.out HZW.out HSU.out HLU.out HLV.out ?_) | (refine wpList_append_way1 rfl _ _ 108 rfl 156 iw zw 257 264 Tryz.underlying108 HIW.out HZW.out HSW.out HBW.out HZC.out (by decide) _ d.ways.length _ rfl HO.out ⟨w3.drew.heap.size,0,none⟩ 1 us HWC.out rfl HN.out HONE.out (by unfold maxLen; omega) (by omega) ?_; intro g' cap' w5 hown5 hc5; obtain ⟨P6,K6,f6,g6,l6⟩:=F2.out g' cap' w5 hown5 hc5; clear hown5 hc5))
  all_goals 
   (have P6':=Lib.hid P6
    have K6':=Lib.hid K6
    have L6':=Lib.hid (fun k (hk:(Value.slice (some ⟨g',0,none⟩) (d.ways.length + 1) cap').ownBlock = some k)=>(show (Value.slice ua d.ways.length uc).ownBlock = some k\/w.heap.size<=k from by simp only [Value.ownBlock,Option.some.injEq] at hk; subst hk; rcases l6 with l6 | l6; exact .inl l6.symm; exact .inr l6))
    clear P6 K6 f6 g6 l6
    generalize w5.setCell ⟨b,1,none⟩ (.slice (some ⟨g',0,none⟩) (d.ways.length + 1) cap') = w6 at *
    refine (goes_p P6'.out).mono ?_
    rintro e w7 ⟨rfl,P7,K7⟩
    have K67:=Lib.hid (Keeps.trans K6'.out K7 (fun k _ e=>(show foot b gd mb (.slice ua d.ways.length uc) k from .inl e)))
    have P7':=Lib.hid P7
    by_cases h0:d.armed = 0
    ·have e7:w7.cell? ⟨6,0,none⟩ = some (.iface 335 (.pointer (some (ad 12)))):=(HEE.out.kept K67.out hO).cells 11 _ rfl
     have hd:decide ((d.push i (strL s)).armed = 0) = true:=decide_eq_true h0
     rw [hd]
     have FIN:=Lib.hid (WroteP.off (ad:=ad) HRR.out (show (strL s).length = 256 by unfold strL; simp; exact Hs.out) h0 P7'.out K67.out L6'.out)
     clear h0 hd P7 K7
     go_wp2
     go_ret
     exact FIN.out
    ·have c5:w7.cell? ⟨b,5,none⟩ = some (.int .i64 d.wr):=P7.cell 5 _ (congrArg (fun n:Nat=>some (Value.int .i64 n)) (goes_wr (d.push i (strL s))))
     have f5:=frozen_of_row P7.cells 5
     have hd:decide ((d.push i (strL s)).armed = 0) = false:=decide_eq_false h0
     rw [hd]
     have FIN:=Lib.hid (WroteP.on (ad:=ad) HRR.out (show (strL s).length = 256 by unfold strL; simp; exact Hs.out) h0 P7'.out K67.out L6'.out)
     clear h0 hd P7 K7
     go_wp2
     go_ret
     exact FIN.out)
 ·refine step_load_mid rfl 156 _ rfl w.heap.size 0 rfl us _ e2 Tryz.underlying156 rfl HU2.out ?_
  refine hK _ _ ?_
  clear hK K
  refine wpAny_ready (rs:=[4,6]) (by kernel_rfl) (by simp) ?_
  refine AllReady.cons rfl (fun K hK=>?_) (AllReady.cons rfl (fun K hK=>?_) AllReady.nil)
  ·go_simp
   refine hK _ _ ?_
   clear hK K
   refine wpAny_tail 6 5 rfl (by kernel_rfl) ?_
   simp only [List.drop_succ_cons,List.drop_zero]
   go_wp2_with (first | (refine wpList_load_mid rfl 156 _ rfl w.heap.size 0 rfl us _ e2 Tryz.underlying156 rfl HU2.out ?_) | (refine wpList_buildSlice_one rfl 108 156 _ rfl iw zw us rfl Tryz.underlying108 HIW.out HZW.out HSU.out HLU.out HLV.out ?_) | (refine wpList_append_way1 rfl _ _ 108 rfl 156 iw zw 257 264 Tryz.underlying108 HIW.out HZW.out HSW.out HBW.out HZC.out (by decide) _ d.ways.length _ rfl HO.out ⟨w3.drew.heap.size,0,none⟩ 1 us HWC.out rfl HN.out HONE.out (by unfold maxLen; omega) (by omega) ?_; intro g' cap' w5 hown5 hc5; obtain ⟨P6,K6,f6,g6,l6⟩:=F2.out g' cap' w5 hown5 hc5; clear hown5 hc5))
   all_goals 
   (have P6':=Lib.hid P6
    have K6':=Lib.hid K6
    have L6':=Lib.hid (fun k (hk:(Value.slice (some ⟨g',0,none⟩) (d.ways.length + 1) cap').ownBlock = some k)=>(show (Value.slice ua d.ways.length uc).ownBlock = some k\/w.heap.size<=k from by simp only [Value.ownBlock,Option.some.injEq] at hk; subst hk; rcases l6 with l6 | l6; exact .inl l6.symm; exact .inr l6))
    clear P6 K6 f6 g6 l6
    generalize w5.setCell ⟨b,1,none⟩ (.slice (some ⟨g',0,none⟩) (d.ways.length + 1) cap') = w6 at *
    refine (goes_p P6'.out).mono ?_
    rintro e w7 ⟨rfl,P7,K7⟩
    have K67:=Lib.hid (Keeps.trans K6'.out K7 (fun k _ e=>(show foot b gd mb (.slice ua d.ways.length uc) k from .inl e)))
    have P7':=Lib.hid P7
    by_cases h0:d.armed = 0
    ·have e7:w7.cell? ⟨6,0,none⟩ = some (.iface 335 (.pointer (some (ad 12)))):=(HEE.out.kept K67.out hO).cells 11 _ rfl
     have hd:decide ((d.push i (strL s)).armed = 0) = true:=decide_eq_true h0
     rw [hd]
     have FIN:=Lib.hid (WroteP.off (ad:=ad) HRR.out (show (strL s).length = 256 by unfold strL; simp; exact Hs.out) h0 P7'.out K67.out L6'.out)
     clear h0 hd P7 K7
     go_wp2
     go_ret
     exact FIN.out
    ·have c5:w7.cell? ⟨b,5,none⟩ = some (.int .i64 d.wr):=P7.cell 5 _ (congrArg (fun n:Nat=>some (Value.int .i64 n)) (goes_wr (d.push i (strL s))))
     have f5:=frozen_of_row P7.cells 5
     have hd:decide ((d.push i (strL s)).armed = 0) = false:=decide_eq_false h0
     rw [hd]
     have FIN:=Lib.hid (WroteP.on (ad:=ad) HRR.out (show (strL s).length = 256 by unfold strL; simp; exact Hs.out) h0 P7'.out K67.out L6'.out)
     clear h0 hd P7 K7
     go_wp2
     go_ret
     exact FIN.out)
  ·refine step_buildSlice_one rfl 108 156 _ rfl iw zw us rfl Tryz.underlying108 HIW.out HZW.out HSU.out HLU.out HLV.out ?_
   refine hK _ _ ?_
   clear hK K
   refine wpAny_ready (rs:=[4]) (by kernel_rfl) (by simp) ?_
   refine AllReady.cons rfl (fun K hK=>?_) AllReady.nil
   go_simp
   refine hK _ _ ?_
   clear hK K
   refine wpAny_tail 7 4 rfl (by kernel_rfl) ?_
   simp only [List.drop_succ_cons,List.drop_zero]
   go_wp2_with (first | (refine wpList_load_mid rfl 156 _ rfl w.heap.size 0 rfl us _ e2 Tryz.underlying156 rfl HU2.out ?_) | (refine wpList_buildSlice_one rfl 108 156 _ rfl iw zw us rfl Tryz.underlying108 HIW.out HZW.out HSU.out HLU.out HLV.out ?_) | (refine wpList_append_way1 rfl _ _ 108 rfl 156 iw zw 257 264 Tryz.underlying108 HIW.out HZW.out HSW.out HBW.out HZC.out (by decide) _ d.ways.length _ rfl HO.out ⟨w3.drew.heap.size,0,none⟩ 1 us HWC.out rfl HN.out HONE.out (by unfold maxLen; omega) (by omega) ?_; intro g' cap' w5 hown5 hc5; obtain ⟨P6,K6,f6,g6,l6⟩:=F2.out g' cap' w5 hown5 hc5; clear hown5 hc5))
   all_goals 
   (have P6':=Lib.hid P6
    have K6':=Lib.hid K6
    have L6':=Lib.hid (fun k (hk:(Value.slice (some ⟨g',0,none⟩) (d.ways.length + 1) cap').ownBlock = some k)=>(show (Value.slice ua d.ways.length uc).ownBlock = some k\/w.heap.size<=k from by simp only [Value.ownBlock,Option.some.injEq] at hk; subst hk; rcases l6 with l6 | l6; exact .inl l6.symm; exact .inr l6))
    clear P6 K6 f6 g6 l6
    generalize w5.setCell ⟨b,1,none⟩ (.slice (some ⟨g',0,none⟩) (d.ways.length + 1) cap') = w6 at *
    refine (goes_p P6'.out).mono ?_
    rintro e w7 ⟨rfl,P7,K7⟩
    have K67:=Lib.hid (Keeps.trans K6'.out K7 (fun k _ e=>(show foot b gd mb (.slice ua d.ways.length uc) k from .inl e)))
    have P7':=Lib.hid P7
    by_cases h0:d.armed = 0
    ·have e7:w7.cell? ⟨6,0,none⟩ = some (.iface 335 (.pointer (some (ad 12)))):=(HEE.out.kept K67.out hO).cells 11 _ rfl
     have hd:decide ((d.push i (strL s)).armed = 0) = true:=decide_eq_true h0
     rw [hd]
     have FIN:=Lib.hid (WroteP.off (ad:=ad) HRR.out (show (strL s).length = 256 by unfold strL; simp; exact Hs.out) h0 P7'.out K67.out L6'.out)
     clear h0 hd P7 K7
     go_wp2
     go_ret
     exact FIN.out
    ·have c5:w7.cell? ⟨b,5,none⟩ = some (.int .i64 d.wr):=P7.cell 5 _ (congrArg (fun n:Nat=>some (Value.int .i64 n)) (goes_wr (d.push i (strL s))))
     have f5:=frozen_of_row P7.cells 5
     have hd:decide ((d.push i (strL s)).armed = 0) = false:=decide_eq_false h0
     rw [hd]
     have FIN:=Lib.hid (WroteP.on (ad:=ad) HRR.out (show (strL s).length = 256 by unfold strL; simp; exact Hs.out) h0 P7'.out K67.out L6'.out)
     clear h0 hd P7 K7
     go_wp2
     go_ret
     exact FIN.out)
theorem WroteP.same {ad:Nat->Addr} {i:Int} {s:List UInt8} {e:Ending} (h:DiskP w b gd mb uv d) (he:e = .returned (errV ad (d.writeE i s))) (hd:d.writeD i s = d):WroteP ad w b gd mb uv d i s e w :=
 ⟨he,uv,by rw [hd]; exact h,Keeps.refl _ _,fun _ hk=>.inl hk⟩
theorem write_err (ad:Nat->Addr) (hE:Errs ad w) (h:DiskP w b gd mb uv d) (i:Int) (s:ByteArray) (hr:d.reach i ≠ 0) :
  Calls Tryz.prog 182 #[.pointer (some ⟨b,0,none⟩),.int .i64 i,.string s] w (WroteP ad w b gd mb uv d i (strL s)):=by
 have FIN:=Lib.hid (fun (e:Ending) (he:e = .returned (.iface 335 (.pointer (some (ad (d.reach i))))))=>WroteP.same (ad:=ad) (i:=i) (s:=strL s) h (he.trans (by unfold DS.writeE; rw [if_pos hr,errV_ne hr])) (by unfold DS.writeD; rw [if_pos hr]))
 have hv:=errV_ne (ad:=ad) hr
 go_enter Tryz.func182,Tryz.ntmps182
 go_wp2_with fail
 refine (reach_p ad hE h i).mono ?_
 rintro e w' ⟨rfl,rfl⟩
 rw [hv]
 clear hv hr hE h
 go_wp2
 go_ret
 exact FIN.out _ rfl
theorem write_form (ad:Nat->Addr) (hE:Errs ad w) (h:DiskP w b gd mb uv d) (i:Int) (s:ByteArray) (hr:d.reach i = 0) (hs:s.size ≠ 256) :
  Calls Tryz.prog 182 #[.pointer (some ⟨b,0,none⟩),.int .i64 i,.string s] w (WroteP ad w b gd mb uv d i (strL s)):=by
 have hl:(strL s).length ≠ 256:=by unfold strL; simpa using hs
 have FIN:=Lib.hid (fun (e:Ending) (he:e = .returned (.iface 335 (.pointer (some (ad 7)))))=>WroteP.same (ad:=ad) (i:=i) (s:=strL s) h (he.trans (by unfold DS.writeE; rw [if_neg (by simp [hr]),if_pos hl]; rfl)) (by unfold DS.writeD; rw [if_neg (by simp [hr]),if_pos hl]))
 have hb:((s.size:Int) != 256) = true:=by rw [bne_iff_ne]; omega
 have e7:w.cell? ⟨1,0,none⟩ = some (.iface 335 (.pointer (some (ad 7)))):=hE.cells 6 _ rfl
 go_enter Tryz.func182,Tryz.ntmps182
 go_wp2_with fail
 refine (reach_p ad hE h i).mono ?_
 rintro e w' ⟨rfl,rfl⟩
 rw [hr,errV_zero]
 clear hr hE h hs hl
 go_wp2
 go_ret
 exact FIN.out _ rfl
theorem write_p (ad:Nat->Addr) (hE:Errs ad w) (hO:OffErrs ad (foot b gd mb uv)) (h:DiskP w b gd mb uv d) (hf:d.Few) (i:Int) (s:ByteArray) :
  Calls Tryz.prog 182 #[.pointer (some ⟨b,0,none⟩),.int .i64 i,.string s] w (WroteP ad w b gd mb uv d i (strL s)):=by
 by_cases hr:d.reach i = 0
 ·by_cases hs:s.size = 256
  ·obtain ⟨_,h0,_⟩:=DS.reach_zero hr
   obtain ⟨j,rfl⟩:=Int.eq_ofNat_of_zero_le h0
   exact write_ok ad hE hO h j s hr hs hf.ways hf.wr
  ·exact write_form ad hE h i s hr hs
 ·exact write_err ad hE h i s hr
end
theorem write_any (ad:Nat->Addr) {w:World} {b:Nat} {d:DS} {S:Nat->Prop} (hE:Errs ad w) (hO:OffErrs ad S) (h:DiskAt w b d S) (hf:d.Few) (i:Int) (s:ByteArray) :
  Calls Tryz.prog 182 #[.pointer (some ⟨b,0,none⟩),.int .i64 i,.string s] w fun e w'=>e = .returned (errV ad (d.writeE i (strL s)))/\DiskAt w' b (d.writeD i (strL s)) (Grow S w w')/\Keeps S w w':=by
 obtain ⟨gd,mb,uv,h,hS⟩:=h
 refine (write_p ad hE (hO.mono hS) h hf i s).mono ?_
 rintro e w' ⟨he,uv',hP,hK,hu⟩
 refine ⟨he,⟨gd,mb,uv',hP,?_⟩,hK.mono (fun k _ hk=>hS k hk)⟩
 intro k hk
 have hlt:=hP.lt k hk
 rcases hk with hk | hk | hk | hk
 ·exact .inl (hS k (.inl hk))
 ·exact .inl (hS k (.inr (.inl hk)))
 ·exact .inl (hS k (.inr (.inr (.inl hk))))
 ·rcases hu k hk with q | q
  ·exact .inl (hS k (.inr (.inr (.inr q))))
  ·exact .inr ⟨q,hlt⟩
theorem read_any (ad:Nat->Addr) {w:World} {b:Nat} {d:DS} {S:Nat->Prop} (hE:Errs ad w) (h:DiskAt w b d S) (i:Int) :
  Calls Tryz.prog 110 #[.pointer (some ⟨b,0,none⟩),.int .i64 i] w fun e w'=>e = .returned (.tuple #[.string ⟨(d.readE i).toArray⟩,errV ad (d.reach i)])/\w = w':=by
 obtain ⟨gd,mb,uv,h,hS⟩:=h
 exact read_p ad hE h i
end Go.Proofs.YthjjfjhajadimaaGreatDoor
