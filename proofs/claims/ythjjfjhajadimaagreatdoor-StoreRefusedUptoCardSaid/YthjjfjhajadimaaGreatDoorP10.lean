/-
  Joined: DFlush, DCrash, DNew, Shelf, DImage, DAny, Zero, SAt, SRead.
-/
import Derived.Test.YthjjfjhajadimaaGreatDoorP09
import Derived.LoopTactic
import Derived.Deep.LoopGhost
import Derived.Shelf.SlGeneric
import Derived.Shelf.SlSortCmp.NoneTotal
import Derived.Ground.SlsfProg
import Derived.Shelf.Strings.Builder1
import Derived.Shelf.Strings.Builder2
import Derived.Shelf.Small.Bits
import Derived.Shelf.Small.Strs
import Derived.Shelf.Small.Wraps
import Derived.Shelf.Strings.BuilderF
import Derived.Shelf.Strconv.Itoa0
import Derived.Shelf.LaysM
import Derived.Shelf.Strconv.Clone
import Derived.Shelf.Strings.Prefix
import Derived.Test.YthjjfjhajadimaaGreatDoorProg
namespace Go.Proofs.YthjjfjhajadimaaGreatDoor
open Go.RowKit Go.WideShapes
set_option maxRecDepth 100000
def DS.setDur (d:DS) (D:List (List UInt8)):DS:={ d with dur:=D }
section
variable {w:World} {b gd mb:Nat} {uv:Value} {d:DS}
theorem DiskP.store {W':World} (h:DiskP w b gd mb uv d) (k:Qt w W') {p n:Nat} {s:List UInt8} (hp:p < d.dur.length) (hn:n<=256) (hs:s.length = 256) :
  DiskP (W'.setCells gd (p * 256) (Lib.byteCells (s.take n))) b gd mb uv (d.setDur (d.dur.set p (tornBy (d.dur.getD p []) s n)))/\Keeps (fun k=>k = gd) w (W'.setCells gd (p * 256) (Lib.byteCells (s.take n))):=by
 obtain ⟨a1,a2,a3,a4,a5,a6⟩:=h.apart
 have h':=h.kept k (fun _ _ e=>e)
 have hk:=keeps_setCells gd (Lib.byteCells (s.take n)) (p * 256) W'
 have hT:=tornBy_length (getD_length h.ok.each hp) hs hn
 obtain ⟨D,hD,hm⟩:=h'.map
 refine ⟨⟨⟨by simp [DS.setDur,h.ok.pos],by simp [DS.setDur,h.ok.le],each_set h.ok.each hT,fun k w hw=>by simpa [DS.setDur] using h.ok.way k w hw,h.ok.a0,h.ok.a1⟩,?_,h'.dur.set h.ok.each hp hn hs,ownsRow_kept h'.ways hk (fun k e1 e2=>by subst e2; exact a5 e1),D,ownsMap_kept hD hk (fun e=>a3 e.symm),hm⟩,Keeps.trans (Keeps.mono k (fun _ _ e=>e.elim)) hk (fun _ _ e=>e)⟩
 rw [hk.block b (lt_of_block h'.cells) (fun e=>a1 e),h'.cells]
 simp [diskCells,DS.setDur]
theorem DiskP.there (h:DiskP w b gd mb uv d) {p:Nat} (hp:p < d.dur.length):w.there gd (p * 256) 256:=by
 obtain ⟨C,hC,hz⟩:=h.dur.blk
 intro j hj
 have hold:d.dur[p]? = some (d.dur.getD p []):=by simp [List.getD,hp]
 exact ⟨(h.dur.rng p _ hold).isSome j (by rw [Lib.byteCells_length,h.ok.each p _ hold]; exact hj),frozen_of_row hC _⟩
theorem laid_way (w:World) (x:Nat × List UInt8) :
  ∃ W1,(w.alloc (.cells Tryz.zeroCells156 156)).setRow w.heap.size (wayCells x).toArray = W1/\Qt w W1/\W1.cell? ⟨w.heap.size,0,none⟩ = some (.int .i64 x.1)/\W1.rangeAt w.heap.size 1 (Lib.byteCells x.2)/\w.heap.size < W1.heap.size:=by
 have hrow:=setRow_heap (w.alloc (.cells Tryz.zeroCells156 156)) w.heap.size _ (wayCells x).toArray 156 (0,0) (heap_alloc_new w _)
 refine ⟨_,rfl,Keeps.setRow ((Qt.refl w).alloc _) (fun h=>absurd h (Nat.lt_irrefl _)) _,?_,?_,lt_of_block hrow⟩
 ·rw [cell_of_row _ _ _ _ _ _ hrow]; simp [wayCells]
 ·intro j v hj
  rw [cell_of_row _ _ _ _ _ _ hrow]
  simp only [wayCells,List.getElem?_toArray]
  rw [show 1 + j = j + 1 by omega,List.getElem?_cons_succ]
  exact hj
theorem infoSector:(Tryz.prog.info? 125).map (·.size) = some 256:=by kernel_rfl
theorem flushTo_succ {D:List (List UInt8)} {ws:List (Nat × List UInt8)} {k:Nat} {x:Nat × List UInt8} (hx:ws[k]? = some x):flushTo D ws (k + 1) = (flushTo D ws k).set x.1 x.2:=by rw [flushTo,hx]
def FlushAt (w:World) (b gd mb:Nat) (uv:Value) (d:DS) (v:Value) (wr:World):Prop :=
 ∃ k:Nat,k<=d.ways.length/\v = .int .i64 k/\DiskP wr b gd mb uv (d.setDur (flushTo d.dur d.ways k))/\Keeps (foot b gd mb uv) w wr
theorem FlushAt.more {wr W':World} {k:Nat} {x:Nat × List UInt8} (P:DiskP wr b gd mb uv (d.setDur (flushTo d.dur d.ways k))) (K:Keeps (foot b gd mb uv) w wr) (q:Qt wr W') (hx:d.ways[k]? = some x) (h1:x.1 < d.dur.length) (h2:x.2.length = 256) :
  FlushAt w b gd mb uv d (.int .i64 ((k:Int) + 1)) (W'.setCells gd (x.1 * 256) (Lib.byteCells x.2)):=by
 have hk:=(List.getElem?_eq_some_iff.1 hx).1
 have hl:x.1 < (d.setDur (flushTo d.dur d.ways k)).dur.length:=by simp only [DS.setDur,flushTo_length]; exact h1
 obtain ⟨P',K'⟩:=P.store q hl (Nat.le_refl 256) h2
 rw [List.take_of_length_le (by omega)] at P' K'
 refine ⟨k + 1,hk,by simp,?_,Keeps.trans K K' (fun i _ e=>by subst e; exact .inr (.inl rfl))⟩
 have e:flushTo d.dur d.ways (k + 1) = (flushTo d.dur d.ways k).set x.1 (tornBy ((flushTo d.dur d.ways k).getD x.1 []) x.2 256):=by
  have hlen:((flushTo d.dur d.ways k).getD x.1 []).length = 256:=getD_length (P.ok.each) hl
  rw [tornBy_all hlen h2]
  exact flushTo_succ hx
 rw [e]
 exact P'
def FlushedP (ad:Nat->Addr) (w:World) (b gd mb:Nat) (uv:Value) (d:DS) (e:Ending) (w':World):Prop :=
 e = .returned (errV ad d.flushE)/\∃ mb' uv',DiskP w' b gd mb' uv' d.flushD/\Keeps (foot b gd mb uv) w w'/\(mb' = mb\/w.heap.size<=mb')/\(uv' = uv\/uv' = .slice none 0 0)
theorem FlushedP.on {ad:Nat->Addr} {w1 wr w2:World} {uv:Value} (hok:d.Ok) (ho:d.off = false) (h0:d.armed ≠ 0) (K1:Keeps (fun k=>k = b) w w1) (K:Keeps (foot b gd mb uv) w1 wr)
  (P2:DiskP w2 b gd wr.heap.size (.slice none 0 0) (DS.forgot (DS.setDur { d with armed:=dec d.armed } (flushTo d.dur d.ways d.ways.length)))) (K2:Keeps (fun k=>k = b) wr w2) :
  FlushedP ad w b gd mb uv d (.returned .nilIface) (w2.setCell ⟨b,6,none⟩ (.int .i64 ((d.fl:Int) + 1))):=by
 have e1:d.flushE = 0:=by unfold DS.flushE; rw [if_neg (by simp [ho]),if_neg h0]
 have e2:d.flushD = { d with dur:=flushTo d.dur d.ways d.ways.length,ways:=[],armed:=dec d.armed,fl:=d.fl + 1 }:=by unfold DS.flushD; rw [if_neg (by simp [ho]),if_neg h0]
 have kS:=keeps_setCell w2 b 6 (.int .i64 ((d.fl:Int) + 1))
 have z1:=K1.size
 have z2:=K.size
 have hO:=hok.flush
 rw [e2] at hO
 refine ⟨by rw [e1]; rfl,wr.heap.size,.slice none 0 0,?_,?_,.inr (by omega),.inr rfl⟩
 ·rw [e2]
  refine P2.turn kS ?_ hO rfl rfl
  rw [setCell_row P2.cells]
  simp [diskCells,DS.forgot,DS.setDur]
 ·exact Keeps.trans (Keeps.trans (Keeps.trans (K1.mono (fun k _ e=>(show foot b gd mb uv k from .inl e))) K (fun _ _ e=>e)) K2 (fun k _ e=>.inl e)) kS (fun k _ e=>.inl e)
set_option maxHeartbeats 3200000 in
theorem flush_on (ad:Nat->Addr) (h:DiskP w b gd mb uv d) (ho:d.off = false) (h0:d.armed ≠ 0) (hf:d.Few) :
  Calls Tryz.prog 183 #[.pointer (some ⟨b,0,none⟩)] w (FlushedP ad w b gd mb uv d):=by
 have c4:w.cell? ⟨b,4,none⟩ = some (.bool false):=ho ▸ h.cell 4 _ rfl
 have hd:decide (d.armed = 0) = false:=decide_eq_false h0
 have hfw:=hf.ways
 have HOK:=Lib.hid h.ok
 have HOF:=Lib.hid ho
 have HA0:=Lib.hid h0
 obtain ⟨ua,uc,huv,_⟩:=own_slice h.ways
 subst huv
 go_enter Tryz.func183,Tryz.ntmps183
 go_wp2_with fail
 refine (goes_p h).mono ?_
 rintro e w1 ⟨rfl,P1,K1⟩
 rw [hd]
 have c1:w1.cell? ⟨b,1,none⟩ = some (.slice ua d.ways.length uc):=P1.cell 1 _ rfl
 have e3:d.goes = { d with armed:=dec d.armed }:=if_neg h0
 rw [e3] at P1
 have H1:=Lib.hid P1
 have HK1:=Lib.hid K1
 have HSW:=Lib.hid (fun (wr:World) (x:Nat × List UInt8)=>laid_way wr x)
 clear P1 K1 h c4 hd e3 ho h0
 go_wp2
 go_loopw [19] (fun v wr=>FlushAt w1 b gd mb (.slice ua d.ways.length uc) { d with armed:=dec d.armed } v wr) (fun v _=>d.ways.length - (intOf v).toNat)
 case atStart=>exact ⟨0,Nat.zero_le _,rfl,H1.out,Keeps.refl _ _⟩
 case round =>
  obtain ⟨k,hk,rfl,P,K⟩:=hrel
  simp only at hk
  by_cases hlt:k < d.ways.length
  ·have hx:d.ways[k]? = some d.ways[k]:=List.getElem?_eq_getElem hlt
   obtain ⟨g,hua⟩:∃ g,ua = some ⟨g,0,none⟩:=by
    rcases P.ways.2 with ⟨e,_⟩ | ⟨g,cap,cur,e,_⟩
    ·injection e with _ e _; have e':d.ways.length = 0:=e; omega
    ·injection e with e _ _; exact ⟨g,e⟩
   subst hua
   obtain ⟨hx1,hx2⟩:=P.ok.way k _ hx
   have hrg:=way_range P.ways (fun k x hx=>(P.ok.way k x hx).2) hx
   generalize d.ways[k] = x at *
   obtain ⟨W1,hW1,q1,m0,m1,hz1⟩:=HSW.out wr x
   have hi257:(Tryz.prog.info? 156).map (·.size) = some (wayCells x).length:=by rw [wayCells_length hx2]; exact infoWrite
   have hz257:Tryz.zeroCells156.size = (wayCells x).toArray.size:=by simp only [List.size_toArray]; rw [wayCells_length hx2,zeroWrite_size]
   have h1257:=all_oneCell_toArray (wayCells_one x)
   have hln:(DS.setDur { d with armed:=dec d.armed } (flushTo d.dur d.ways k)).dur.length = d.dur.length:=flushTo_length _ _ _
   have c0:W1.cell? ⟨b,0,none⟩ = some (.slice (some ⟨gd,0,none⟩) d.dur.length d.dur.length):=by
    have:=P.cell 0 (.slice (some ⟨gd,0,none⟩) d.dur.length d.dur.length) (by simp [diskCells,hln])
    exact q1.cellv this
   have hx1:x.1 < d.dur.length:=hln ▸ hx1
   have hle:d.dur.length<=65536:=hln ▸ P.ok.le
   have HT:=Lib.hid (fun (W:World) (q:Qt wr W)=>(P.kept q (fun _ _ e=>e)).there (p:=x.1) (by rw [hln]; exact hx1))
   have HF:=Lib.hid (fun (W:World) (q:Qt wr W)=>FlushAt.more (w:=w1) P K q hx hx1 hx2)
   have HI2:=Lib.hid (show (Tryz.prog.info? 125).map (·.size) = some (Lib.byteCells x.2).length by rw [Lib.byteCells_length,hx2]; exact infoSector)
   have HL2:=Lib.hid (show (Lib.byteCells x.2).toArray.size = 256 by rw [List.size_toArray,Lib.byteCells_length,hx2])
   have HO2:=Lib.hid (all_oneCell_toArray (byteCells_one1 x.2))
   have HI:=Lib.hid hi257
   have HZ:=Lib.hid hz257
   have HO:=Lib.hid h1257
   have HR:=Lib.hid hrg
   have HP:=Lib.hid P
   have HK:=Lib.hid K
   have HX:=Lib.hid hx
   have HX2:=Lib.hid hx2
   have HQ:=Lib.hid q1
   have HW:=Lib.hid hW1
   have M1:=Lib.hid m1
   clear hi257 hz257 h1257 hrg P K hx hx2 hW1 q1 hln m1
   go_wp2_with (first | (refine wpList_load_mid rfl 156 _ rfl g (k * 257) rfl _ _ HR.out Tryz.underlying156 rfl HI.out ?_) | (refine wpList_store_row _ rfl 156 _ _ rfl wr.heap.size _ _ 156 rfl rfl (heap_alloc_new wr _) HI.out HZ.out HO.out ?_))
   rw [HW.out]
   refine wp_region_still_tail 9 (by kernel_rfl) (by kernel_rfl) ?_
   simp only [List.take_succ_cons,List.take_zero,List.drop_succ_cons,List.drop_zero]
   iterate 7 still_step
   refine still_load_mid rfl 125 _ rfl wr.heap.size 1 rfl _ _ M1.out Tryz.underlying125 rfl HI2.out ?_
   repeat still_step
   try refine wpStill_nil ?_
   change wpList _ _ _ _ _ (World.drew W1)
   have HT2:=HT.out _ (Keeps.drew HQ.out)
   have HF2:=HF.out _ (Keeps.drew HQ.out)
   go_wp2_with (refine wpList_store_mid rfl 125 _ _ rfl gd (x.1 * 256) (Lib.byteCells x.2).toArray rfl rfl (HL2.out.symm ▸ HT2) HI2.out HO2.out ?_)
   go_roundw
   case rel=>exact HF2
   case measure=>simp [intOf]; omega
  ·obtain rfl:k = d.ways.length:=by omega
   have HP:=Lib.hid P
   have HK:=Lib.hid K
   clear P K hlt
   go_wp2_with fail
   refine (forget_p HP.out).mono ?_
   rintro e w2 ⟨rfl,P2,K2⟩
   have c6:w2.cell? ⟨b,6,none⟩ = some (.int .i64 d.fl):=P2.cell 6 _ rfl
   have f6:=frozen_of_row P2.cells 6
   have hfl:=hf.fl
   have HP2:=Lib.hid P2
   have HK2:=Lib.hid K2
   clear P2 K2
   go_wp2
   go_ret
   exact FlushedP.on HOK.out HOF.out HA0.out HK1.out HK.out HP2.out HK2.out
theorem flush_off (ad:Nat->Addr) (hE:Errs ad w) (h:DiskP w b gd mb uv d) (ho:d.off = true) :
  Calls Tryz.prog 183 #[.pointer (some ⟨b,0,none⟩)] w (FlushedP ad w b gd mb uv d):=by
 have c4:w.cell? ⟨b,4,none⟩ = some (.bool true):=ho ▸ h.cell 4 _ rfl
 have e12:w.cell? ⟨6,0,none⟩ = some (.iface 335 (.pointer (some (ad 12)))):=hE.cells 11 _ rfl
 have FIN:=Lib.hid (show FlushedP ad w b gd mb uv d (.returned (.iface 335 (.pointer (some (ad 12))))) w from
  ⟨by unfold DS.flushE; rw [if_pos ho]; rfl,mb,uv,by unfold DS.flushD; rw [if_pos ho]; exact h,Keeps.refl _ _,.inl rfl,.inl rfl⟩)
 clear h hE ho
 go_enter Tryz.func183,Tryz.ntmps183
 go_wp2
 go_ret
 exact FIN.out
theorem flush_down (ad:Nat->Addr) (hE:Errs ad w) (hO:OffErrs ad (foot b gd mb uv)) (h:DiskP w b gd mb uv d) (ho:d.off = false) (h0:d.armed = 0) :
  Calls Tryz.prog 183 #[.pointer (some ⟨b,0,none⟩)] w (FlushedP ad w b gd mb uv d):=by
 have c4:w.cell? ⟨b,4,none⟩ = some (.bool false):=ho ▸ h.cell 4 _ rfl
 have hd:decide (d.armed = 0) = true:=decide_eq_true h0
 have FIN:=Lib.hid (fun (w':World) (P:DiskP w' b gd mb uv d.goes) (K:Keeps (fun k=>k = b) w w')=>(show FlushedP ad w b gd mb uv d (.returned (.iface 335 (.pointer (some (ad 12))))) w' from
  ⟨by unfold DS.flushE; rw [if_neg (by simp [ho]),if_pos h0]; rfl,mb,uv,by unfold DS.flushD; rw [if_neg (by simp [ho]),if_pos h0]; rw [show d.goes = { d with off:=true } from if_pos h0] at P; exact P,K.mono (fun k _ e=>.inl e),.inl rfl,.inl rfl⟩))
 go_enter Tryz.func183,Tryz.ntmps183
 go_wp2_with fail
 refine (goes_p h).mono ?_
 rintro e w1 ⟨rfl,P1,K1⟩
 rw [hd]
 have e12:w1.cell? ⟨6,0,none⟩ = some (.iface 335 (.pointer (some (ad 12)))):=(hE.kept K1 (hO.mono (fun k e=>.inl e))).cells 11 _ rfl
 have FF:=Lib.hid (FIN.out w1 P1 K1)
 clear h hE ho P1 K1 hd h0 c4
 go_wp2
 go_ret
 exact FF.out
theorem flush_p (ad:Nat->Addr) (hE:Errs ad w) (hO:OffErrs ad (foot b gd mb uv)) (h:DiskP w b gd mb uv d) (hf:d.Few) :
  Calls Tryz.prog 183 #[.pointer (some ⟨b,0,none⟩)] w (FlushedP ad w b gd mb uv d):=by
 cases ho:d.off with
 | true=>exact flush_off ad hE h ho
 | false =>
  by_cases h0:d.armed = 0
  ·exact flush_down ad hE hO h ho h0
  ·exact flush_on ad h ho h0 hf
end
theorem flush_any (ad:Nat->Addr) {w:World} {b:Nat} {d:DS} {S:Nat->Prop} (hE:Errs ad w) (hO:OffErrs ad S) (h:DiskAt w b d S) (hf:d.Few) :
  Calls Tryz.prog 183 #[.pointer (some ⟨b,0,none⟩)] w fun e w'=>e = .returned (errV ad d.flushE)/\DiskAt w' b d.flushD (Grow S w w')/\Keeps S w w':=by
 obtain ⟨gd,mb,uv,h,hS⟩:=h
 refine (flush_p ad hE (hO.mono hS) h hf).mono ?_
 rintro e w' ⟨he,mb',uv',hP,hK,hm,hu⟩
 refine ⟨he,⟨gd,mb',uv',hP,?_⟩,hK.mono (fun k _ hk=>hS k hk)⟩
 intro k hk
 have hlt:=hP.lt k hk
 rcases hk with hk | hk | hk | hk
 ·exact .inl (hS k (.inl hk))
 ·exact .inl (hS k (.inr (.inl hk)))
 ·rcases hm with q | q
  ·exact .inl (hS k (.inr (.inr (.inl (hk.trans q)))))
  ·exact .inr ⟨by omega,hlt⟩
 ·rcases hu with q | q
  ·exact .inl (hS k (.inr (.inr (.inr (q ▸ hk)))))
  ·rw [q] at hk; cases hk
theorem infoSector3:(Tryz.prog.info? 125).map (fun i=>(i.zero,i.size,i.bytes)) = some (some (.agg (Array.replicate 256 (.int .u8 0))),256,256):=by kernel_rfl
def zeroCellsN (n:Nat):Array Value:=madeCells (Array.replicate 256 (Value.int .u8 0)) (n * 256)
theorem zeroCellsN_size (n:Nat):(zeroCellsN n).size = n * 256:=by unfold zeroCellsN; exact size_madeCells _ _
theorem zeroCellsN_get {n j:Nat} (h:j < n * 256):(zeroCellsN n)[j]? = some (.int .u8 0):=by
 have hz:∀ x:Nat,(Array.replicate 256 (Value.int .u8 0))[x % (Array.replicate 256 (Value.int .u8 0)).size]! = .int .u8 0:=by
  intro x
  have hx:x % (Array.replicate 256 (Value.int .u8 0)).size < (Array.replicate 256 (Value.int .u8 0)).size:=Nat.mod_lt _ (by rw [Array.size_replicate]; decide)
  rw [getElem!_pos (Array.replicate 256 (Value.int .u8 0)) _ hx,Array.getElem_replicate]
 unfold zeroCellsN madeCells
 generalize Array.replicate 256 (Value.int .u8 0) = Z at *
 rw [Array.getElem?_map,Array.getElem?_range,if_pos h]
 simp only [Option.map_some,hz]
theorem make_sectors (n:Nat) (h:n<=65536) (W:World):(Instr.makeSlice 106 (.int .i64 n) (.int .i64 n)).run Tryz.prog W = .ok (.slice (some ⟨W.heap.size,0,none⟩) n n) (W.alloc (.cells (zeroCellsN n) 125)):=by
 obtain ⟨i,hi,h1⟩:=Option.map_eq_some_iff.1 infoSector3
 simp only [Prod.mk.injEq] at h1
 obtain ⟨hz,hs,hb⟩:=h1
 have hr:=run_make (P:=Tryz.prog) W 106 125 i _ Tryz.underlying106 hi hz .i64 .i64 n n (by omega) (by omega) (by rw [hb]; omega) (by omega)
 rw [hs] at hr
 simp only [Int.toNat_natCast] at hr
 exact hr
theorem zeros_range {W:World} {g n:Nat} (h:W.heap[g]? = some (.cells (zeroCellsN n) 125 (0,0))):Dur W g (List.replicate n zeros):=by
 refine ⟨⟨_,h,by rw [zeroCellsN_size,List.length_replicate]⟩,fun i s hi j v hj=>?_⟩
 rw [List.getElem?_replicate] at hi
 split at hi
 ·injection hi with hi
  subst hi
  have hj2:j < 256:=by have:=(List.getElem?_eq_some_iff.1 hj).1; rw [Lib.byteCells_length] at this; simpa [zeros] using this
  rw [cell_of_row W g _ _ _ _ h,zeroCellsN_get (by omega)]
  have hb:Lib.byteCells zeros = List.replicate 256 (.int .u8 0):=by simp only [Lib.byteCells,zeros,List.map_replicate]; rfl
  rw [hb,List.getElem?_replicate,if_pos hj2] at hj
  exact hj
 ·cases hi
theorem new_p (w:World) (n:Nat) (h1:1<=n) (h2:n<=65536) :
  ∃ W,((w.alloc (.cells (zeroCellsN n) 125)).alloc (.map #[] 0)).alloc (.cells #[.slice (some ⟨w.heap.size,0,none⟩) n n,.slice none 0 0,.map (some (w.heap.size + 1)),.int .i64 (-1),.bool false,.int .i64 0,.int .i64 0,.int .i64 0] 110) = W /\
   DiskAt W (w.heap.size + 2) (DS.newD n) (Grow (fun _=>False) w W)/\Qt w W:=by
 refine ⟨_,rfl,?_,((Qt.refl w).alloc _).alloc _ |>.alloc _⟩
 have hm:=World.ownsMap_made (w.alloc (.cells (zeroCellsN n) 125)) Tryz.prog 3 (plainElem (H:=Unit) Tryz.prog 3)
 have hd:=heap_alloc_new w (.cells (zeroCellsN n) 125)
 have h3:=heap_alloc_new ((w.alloc (.cells (zeroCellsN n) 125)).alloc (.map #[] 0)) (.cells #[.slice (some ⟨w.heap.size,0,none⟩) n n,.slice none 0 0,.map (some (w.heap.size + 1)),.int .i64 (-1),.bool false,.int .i64 0,.int .i64 0,.int .i64 0] 110)
 rw [World.size_alloc] at hm
 rw [World.size_alloc,World.size_alloc] at h3
 refine ⟨w.heap.size,w.heap.size + 1,.slice none 0 0,⟨DS.Ok.new h1 h2,?_,?_,World.ownsRow_nil _ 0 _ 257,.map [],hm.alloc _,MapsTo.nil⟩,?_⟩
 ·rw [h3]
  simp [diskCells,DS.newD]
 ·refine zeros_range ?_
  rw [Below.heap_alloc _ _ _ (by simp; omega),Below.heap_alloc _ _ _ (by simp)]
  exact hd
 ·rintro k (rfl | rfl | rfl | hk)
  ·exact .inr ⟨by omega,by simp⟩
  ·exact .inr ⟨by omega,by simp; omega⟩
  ·exact .inr ⟨by omega,by simp⟩
  ·cases hk
def NewP (ad:Nat->Addr) (n:Int) (w:World) (e:Ending) (w':World):Prop :=
 (¬ (1<=n/\n<=65536)/\e = .returned (.tuple #[.pointer none,errV ad 6])/\Qt w w') \/
 (1<=n/\n<=65536/\∃ b,e = .returned (.tuple #[.pointer (some ⟨b,0,none⟩),.nilIface])/\DiskAt w' b (DS.newD n.toNat) (Grow (fun _=>False) w w')/\Qt w w')
theorem new_ok (n:Nat) (w:World) (h1:1<=n) (h2:n<=65536) :
  Calls Tryz.prog 11 #[.int .i64 n] w fun e w'=>e = .returned (.tuple #[.pointer (some ⟨w.heap.size + 2,0,none⟩),.nilIface])/\DiskAt w' (w.heap.size + 2) (DS.newD n) (Grow (fun _=>False) w w')/\Qt w w':=by
 have hmm:=@run_makeMap Tryz.prog
 have hms:=make_sectors n h2 w
 have g1:decide ((n:Int) < 1) = false:=by rw [decide_eq_false_iff_not]; omega
 have g2:decide (65536 < (n:Int)) = false:=by rw [decide_eq_false_iff_not]; omega
 obtain ⟨W,hW,hD,hQ⟩:=new_p w n h1 h2
 have HW:=Lib.hid hW
 have HD:=Lib.hid hD
 have HQ:=Lib.hid hQ
 clear hD hQ hW
 go_enter Tryz.func11,Tryz.ntmps11
 go_wp2
 go_ret2
 rw [HW.out]
 exact ⟨rfl,HD.out,HQ.out⟩
theorem new_err (ad:Nat->Addr) (n:Int) (w:World) (hE:Errs ad w) (h:¬ (1<=n/\n<=65536)) :
  Calls Tryz.prog 11 #[.int .i64 n] w fun e w'=>e = .returned (.tuple #[.pointer none,errV ad 6])/\Qt w w':=by
 have e6:w.cell? ⟨0,0,none⟩ = some (.iface 335 (.pointer (some (ad 6)))):=hE.cells 5 _ rfl
 by_cases h1:n < 1
 ·clear h hE
  go_enter Tryz.func11,Tryz.ntmps11
  go_wp2
  go_quiet (fail)
  go_wp2
  go_ret2
  exact ⟨rfl,(Qt.refl _).drewN _⟩
 ·have g1:decide (n < 1) = false:=decide_eq_false h1
  have h2:65536 < n:=by omega
  clear h hE h1
  go_enter Tryz.func11,Tryz.ntmps11
  go_wp2
  go_quiet (fail)
  go_wp2
  go_ret2
  exact ⟨rfl,(Qt.refl _).drewN _⟩
theorem new_any (ad:Nat->Addr) (n:Int) (w:World) (hE:Errs ad w):Calls Tryz.prog 11 #[.int .i64 n] w (NewP ad n w):=by
 by_cases h:1<=n/\n<=65536
 ·obtain ⟨h1,h2⟩:=h
  obtain ⟨k,rfl⟩:=Int.eq_ofNat_of_zero_le (show 0<=n by omega)
  refine (new_ok k w (by omega) (by omega)).mono ?_
  rintro e w' ⟨he,hD,hQ⟩
  exact .inr ⟨h1,h2,_,he,hD,hQ⟩
 ·refine (new_err ad n w hE h).mono ?_
  rintro e w' ⟨he,hQ⟩
  exact .inl ⟨h,he,hQ⟩
end Go.Proofs.YthjjfjhajadimaaGreatDoor
namespace Go.Proofs
open Go.Shelf
def Tryz.lays169_ren : Go.Shelf.Ren := ⟨fun | 169 => 63 | n => n, fun | 70 => 119 | 9 => 9 | 0 => 0 | 72 => 121 | 37 => 111 | 127 => 175 | 3 => 3 | 5 => 5 | n => n, fun | n => n⟩
theorem Tryz.lays169 : Go.Proofs.Lays.n169 Tryz.prog Tryz.lays169_ren := {
  mixed := by kernel_rfl
  f169 := Tryz.func63.trans (congrArg some (by kernel_rfl))
  t0 := Tryz.underlying0
  a0 := Tryz.isAgg0
  z0 := Tryz.sizeOf0
  v0 := Tryz.zeroValue0
  t3 := Tryz.underlying3
  a3 := Tryz.isAgg3
  z3 := Tryz.sizeOf3
  v3 := Tryz.zeroValue3
  t9 := Tryz.underlying9
  a9 := Tryz.isAgg9
  z9 := Tryz.sizeOf9
  v9 := Tryz.zeroValue9
  t37 := Tryz.underlying111
  a37 := Tryz.isAgg111
  z37 := Tryz.sizeOf111
  v37 := Tryz.zeroValue111
  t70 := Tryz.underlying119
  a70 := Tryz.isAgg119
  z70 := Tryz.sizeOf119
  v70 := Tryz.zeroValue119
  t72 := Tryz.underlying121
  a72 := Tryz.isAgg121
  z72 := Tryz.sizeOf121
  v72 := Tryz.zeroValue121
  t127 := Tryz.underlying175
  a127 := Tryz.isAgg175
  z127 := Tryz.sizeOf175
  v127 := Tryz.zeroValue175 }
theorem Tryz.Builder_Extra_169 : Builder.Extra Tryz.prog Tryz.lays169_ren := {
  sizeBuilder := by kernel_rfl
  liesBuilder := by kernel_rfl
  t5 := Tryz.underlying5
  a5 := Tryz.isAgg5
  z5 := Tryz.sizeOf5
  v5 := Tryz.zeroValue5
  infoByte := by kernel_rfl
  cellsByte := by kernel_rfl
  sizeByte := by kernel_rfl
  neB5 := by decide }
open Go.RowKit in
theorem Tryz.Builder_String_any (B b : Nat) (l : List UInt8) (w : World) (h : Lib.IsBuilder 121 5 B b (Lib.byteCells l) w) (hBw : B ≤ w.heap.size) :
    Calls Tryz.prog 63 #[.pointer (some ⟨b, 0, none⟩)] w fun e w' => e = .returned (.string ⟨l.toArray⟩) ∧ Below B w w' := Any.Builder_String_any Tryz.lays169 Tryz.Builder_Extra_169 B b l w h hBw
def Tryz.lays165_ren : Go.Shelf.Ren := ⟨fun | 165 => 61 | 240 => 103 | 241 => 104 | 276 => 160 | 277 => 161 | n => n, fun | 70 => 119 | 3 => 3 | 0 => 0 | 4 => 4 | 9 => 9 | 20 => 20 | 72 => 121 | 37 => 111 | 164 => 228 | 5 => 5 | n => n, fun | n => n⟩
theorem Tryz.lays165 : Go.Proofs.Lays.n165 Tryz.prog Tryz.lays165_ren := {
  mixed := by kernel_rfl
  f165 := Tryz.func61.trans (congrArg some (by kernel_rfl))
  f240 := Tryz.func103.trans (congrArg some (by kernel_rfl))
  f241 := Tryz.func104.trans (congrArg some (by kernel_rfl))
  f276 := Tryz.func160.trans (congrArg some (by kernel_rfl))
  f277 := Tryz.func161.trans (congrArg some (by kernel_rfl))
  t0 := Tryz.underlying0
  a0 := Tryz.isAgg0
  z0 := Tryz.sizeOf0
  v0 := Tryz.zeroValue0
  t3 := Tryz.underlying3
  a3 := Tryz.isAgg3
  z3 := Tryz.sizeOf3
  v3 := Tryz.zeroValue3
  t4 := Tryz.underlying4
  a4 := Tryz.isAgg4
  z4 := Tryz.sizeOf4
  v4 := Tryz.zeroValue4
  t9 := Tryz.underlying9
  a9 := Tryz.isAgg9
  z9 := Tryz.sizeOf9
  v9 := Tryz.zeroValue9
  t20 := Tryz.underlying20
  a20 := Tryz.isAgg20
  z20 := Tryz.sizeOf20
  v20 := Tryz.zeroValue20
  t37 := Tryz.underlying111
  a37 := Tryz.isAgg111
  z37 := Tryz.sizeOf111
  v37 := Tryz.zeroValue111
  t70 := Tryz.underlying119
  a70 := Tryz.isAgg119
  z70 := Tryz.sizeOf119
  v70 := Tryz.zeroValue119
  t72 := Tryz.underlying121
  a72 := Tryz.isAgg121
  z72 := Tryz.sizeOf121
  v72 := Tryz.zeroValue121
  t164 := Tryz.underlying228
  a164 := Tryz.isAgg228
  z164 := Tryz.sizeOf228
  v164 := Tryz.zeroValue228 }
theorem Tryz.Builder_Extra_165 : Builder.Extra Tryz.prog Tryz.lays165_ren := {
  sizeBuilder := by kernel_rfl
  liesBuilder := by kernel_rfl
  t5 := Tryz.underlying5
  a5 := Tryz.isAgg5
  z5 := Tryz.sizeOf5
  v5 := Tryz.zeroValue5
  infoByte := by kernel_rfl
  cellsByte := by kernel_rfl
  sizeByte := by kernel_rfl
  neB5 := by decide }
open Go.RowKit in
theorem Tryz.Builder_Grow_fresh (B b n : Nat) (w : World) (hB : B ≤ b) (hbk : w.heap[b]? = some (.cells #[.pointer none, .slice none 0 0] 121 (0, 0))) (hBw : B ≤ w.heap.size) (hn : n ≤ 281474976710656) :
    Calls Tryz.prog 61 #[.pointer (some ⟨b, 0, none⟩), .int .i64 n] w fun e w' => e = .returned (.tuple #[]) ∧ (Lib.BuilderAt 121 5 B b (.pointer (some ⟨b, 0, none⟩)) [] w' ∧ Below B w w') := Any.Builder_Grow_fresh Tryz.lays165 Tryz.Builder_Extra_165 B b n w hB hbk hBw hn
def Tryz.lays106_ren : Go.Shelf.Ren := ⟨fun | 106 => 175 | 213 => 224 | 265 => 261 | n => n, fun | 9 => 9 | 3 => 3 | n => n, fun | n => n⟩
theorem Tryz.lays106 : Go.Proofs.Lays.n106 Tryz.prog Tryz.lays106_ren := {
  mixed := by kernel_rfl
  f106 := Tryz.func175.trans (congrArg some (by kernel_rfl))
  f213 := Tryz.func224.trans (congrArg some (by kernel_rfl))
  f265 := Tryz.func261.trans (congrArg some (by kernel_rfl))
  t3 := Tryz.underlying3
  a3 := Tryz.isAgg3
  z3 := Tryz.sizeOf3
  v3 := Tryz.zeroValue3
  t9 := Tryz.underlying9
  a9 := Tryz.isAgg9
  z9 := Tryz.sizeOf9
  v9 := Tryz.zeroValue9 }
open Go.RowKit in
theorem Tryz.strings_Compare (a b : ByteArray) (w : World) :
    Calls Tryz.prog 175 #[.string a, .string b] w fun e w' => e = .returned (.int .i64 (Lib.compareBytes a.data.toList b.data.toList)) ∧ w' = w := Any.strings_Compare Tryz.lays106 a b w
def Tryz.lays103_ren : Go.Shelf.Ren := ⟨fun | 103 => 242 | 210 => 266 | 206 => 277 | n => n, fun | 9 => 9 | 4 => 4 | 24 => 104 | 3 => 3 | n => n, fun | n => n⟩
theorem Tryz.lays103 : Go.Proofs.Lays.n103 Tryz.prog Tryz.lays103_ren := {
  mixed := by kernel_rfl
  f103 := Tryz.func242.trans (congrArg some (by kernel_rfl))
  f206 := Tryz.func277.trans (congrArg some (by kernel_rfl))
  f210 := Tryz.func266.trans (congrArg some (by kernel_rfl))
  t3 := Tryz.underlying3
  a3 := Tryz.isAgg3
  z3 := Tryz.sizeOf3
  v3 := Tryz.zeroValue3
  t4 := Tryz.underlying4
  a4 := Tryz.isAgg4
  z4 := Tryz.sizeOf4
  v4 := Tryz.zeroValue4
  t9 := Tryz.underlying9
  a9 := Tryz.isAgg9
  z9 := Tryz.sizeOf9
  v9 := Tryz.zeroValue9
  t24 := Tryz.underlying104
  a24 := Tryz.isAgg104
  z24 := Tryz.sizeOf104
  v24 := Tryz.zeroValue104 }
open Go.RowKit in
theorem Tryz.strings_CutPrefix (s p : ByteArray) (w : World) :
    Calls Tryz.prog 242 #[.string s, .string p] w fun e w' => e = .returned (.tuple #[.string ⟨(Lib.trimPrefix s.data.toList p.data.toList).toArray⟩, .bool (Lib.hasPrefix s.data.toList p.data.toList)]) ∧ w' = w := Any.strings_CutPrefix Tryz.lays103 s p w
def Tryz.laysM316_ren : Go.Shelf.Ren := ⟨fun | 316 => 250 | n => n, fun | 9 => 9 | 3 => 3 | 4 => 4 | 37 => 111 | 0 => 0 | 127 => 175 | 5 => 5 | n => n, fun | n => n⟩
theorem Tryz.laysM316 : Go.Proofs.LaysM.n316 Tryz.prog Tryz.laysM316_ren := {
  mixed := by kernel_rfl
  f316 := Tryz.func250.trans (congrArg some (by kernel_rfl))
  t0 := Tryz.underlying0
  a0 := Tryz.isAgg0
  z0 := Tryz.sizeOf0
  v0 := Tryz.zeroValue0
  t3 := Tryz.underlying3
  a3 := Tryz.isAgg3
  z3 := Tryz.sizeOf3
  v3 := Tryz.zeroValue3
  t4 := Tryz.underlying4
  a4 := Tryz.isAgg4
  z4 := Tryz.sizeOf4
  v4 := Tryz.zeroValue4
  t9 := Tryz.underlying9
  a9 := Tryz.isAgg9
  z9 := Tryz.sizeOf9
  v9 := Tryz.zeroValue9
  t37 := Tryz.underlying111
  a37 := Tryz.isAgg111
  z37 := Tryz.sizeOf111
  v37 := Tryz.zeroValue111
  t127 := Tryz.underlying175
  a127 := Tryz.isAgg175
  z127 := Tryz.sizeOf175
  v127 := Tryz.zeroValue175
  t5 := Tryz.underlying5
  a5 := Tryz.isAgg5
  z5 := Tryz.sizeOf5
  v5 := Tryz.zeroValue5
  i0 := by kernel_rfl
  i3 := by kernel_rfl
  i4 := by kernel_rfl
  i5 := by kernel_rfl
  i9 := by kernel_rfl
  i37 := by kernel_rfl
  i127 := by kernel_rfl }
open Go.RowKit in
theorem Tryz.stringslite_Clone (s : ByteArray) (w : World) (hlim : s.size ≤ 281474976710656) :
    Calls Tryz.prog 250 #[.string s] w fun e w' => e = .returned (.string s) ∧ Below w.heap.size w w' := Any.stringslite_Clone Tryz.laysM316 s w hlim
def Tryz.sortO_ren : Go.Shelf.Ren := ⟨fun | 6 => 173 | 15 => 223 | 14 => 222 | 28 => 259 | 29 => 260 | 20 => 251 | 21 => 252 | 22 => 253 | 23 => 254 | 24 => 255 | 25 => 256 | 26 => 257 | 27 => 258 | 46 => 272 | 47 => 273 | 48 => 274 | 49 => 275 | 50 => 276 | 57 => 278 | n => n, fun | 22 => 38 | 24 => 87 | 25 => 246 | 3 => 3 | 39 => 24 | 0 => 0 | 53 => 259 | 55 => 174 | 4 => 4 | 46 => 319 | 45 => 318 | 50 => 193 | 5 => 5 | 9 => 9 | 66 => 327 | 70 => 330 | 76 => 333 | 77 => 45 | n => n, fun | n => n⟩
theorem Tryz.sortO : Go.Proofs.SlLaysF0.n6 Tryz.prog Tryz.sortO_ren := {
  mixed := by kernel_rfl
  f6 := ⟨Tryz.f173.name, by decide, Tryz.func173.trans (congrArg some (by kernel_rfl))⟩
  f14 := ⟨Tryz.f222.name, by decide, Tryz.func222.trans (congrArg some (by kernel_rfl))⟩
  f15 := Tryz.func223.trans (congrArg some (by kernel_rfl))
  f20 := ⟨Tryz.f251.name, by decide, Tryz.func251.trans (congrArg some (by kernel_rfl))⟩
  f21 := ⟨Tryz.f252.name, by decide, Tryz.func252.trans (congrArg some (by kernel_rfl))⟩
  f22 := ⟨Tryz.f253.name, by decide, Tryz.func253.trans (congrArg some (by kernel_rfl))⟩
  f23 := ⟨Tryz.f254.name, by decide, Tryz.func254.trans (congrArg some (by kernel_rfl))⟩
  f24 := ⟨Tryz.f255.name, by decide, Tryz.func255.trans (congrArg some (by kernel_rfl))⟩
  f25 := ⟨Tryz.f256.name, by decide, Tryz.func256.trans (congrArg some (by kernel_rfl))⟩
  f26 := ⟨Tryz.f257.name, by decide, Tryz.func257.trans (congrArg some (by kernel_rfl))⟩
  f27 := ⟨Tryz.f258.name, by decide, Tryz.func258.trans (congrArg some (by kernel_rfl))⟩
  f28 := Tryz.func259.trans (congrArg some (by kernel_rfl))
  f29 := Tryz.func260.trans (congrArg some (by kernel_rfl))
  f46 := ⟨Tryz.f272.name, by decide, Tryz.func272.trans (congrArg some (by kernel_rfl))⟩
  f47 := Tryz.func273.trans (congrArg some (by kernel_rfl))
  f48 := Tryz.func274.trans (congrArg some (by kernel_rfl))
  f49 := ⟨Tryz.f275.name, by decide, Tryz.func275.trans (congrArg some (by kernel_rfl))⟩
  f50 := ⟨Tryz.f276.name, by decide, Tryz.func276.trans (congrArg some (by kernel_rfl))⟩
  f57 := ⟨Tryz.f278.name, by decide, Tryz.func278.trans (congrArg some (by kernel_rfl))⟩
  t0 := Tryz.underlying0
  a0 := Tryz.isAgg0
  z0 := Tryz.sizeOf0
  v0 := Tryz.zeroValue0
  t3 := Tryz.underlying3
  a3 := Tryz.isAgg3
  z3 := Tryz.sizeOf3
  v3 := Tryz.zeroValue3
  t4 := Tryz.underlying4
  a4 := Tryz.isAgg4
  z4 := Tryz.sizeOf4
  v4 := Tryz.zeroValue4
  t5 := Tryz.underlying5
  a5 := Tryz.isAgg5
  z5 := Tryz.sizeOf5
  v5 := Tryz.zeroValue5
  t9 := Tryz.underlying9
  a9 := Tryz.isAgg9
  z9 := Tryz.sizeOf9
  v9 := Tryz.zeroValue9
  t22 := Tryz.underlying38
  a22 := Tryz.isAgg38
  z22 := Tryz.sizeOf38
  v22 := Tryz.zeroValue38
  t25 := Tryz.underlying246
  a25 := Tryz.isAgg246
  z25 := Tryz.sizeOf246
  v25 := Tryz.zeroValue246
  t39 := Tryz.underlying24
  a39 := Tryz.isAgg24
  z39 := Tryz.sizeOf24
  v39 := Tryz.zeroValue24
  t45 := Tryz.underlying318
  a45 := Tryz.isAgg318
  z45 := Tryz.sizeOf318
  v45 := Tryz.zeroValue318
  t46 := Tryz.underlying319
  a46 := Tryz.isAgg319
  z46 := Tryz.sizeOf319
  v46 := Tryz.zeroValue319
  t50 := Tryz.underlying193
  a50 := Tryz.isAgg193
  z50 := Tryz.sizeOf193
  v50 := Tryz.zeroValue193
  t53 := Tryz.underlying259
  a53 := Tryz.isAgg259
  z53 := Tryz.sizeOf259
  v53 := Tryz.zeroValue259
  t55 := Tryz.underlying174
  a55 := Tryz.isAgg174
  z55 := Tryz.sizeOf174
  v55 := Tryz.zeroValue174
  t66 := Tryz.underlying327
  a66 := Tryz.isAgg327
  z66 := Tryz.sizeOf327
  v66 := Tryz.zeroValue327
  t70 := Tryz.underlying330
  a70 := Tryz.isAgg330
  z70 := Tryz.sizeOf330
  v70 := Tryz.zeroValue330
  t76 := Tryz.underlying333
  a76 := Tryz.isAgg333
  z76 := Tryz.sizeOf333
  v76 := Tryz.zeroValue333
  t77 := Tryz.underlying45
  a77 := Tryz.isAgg45
  z77 := Tryz.sizeOf45
  v77 := Tryz.zeroValue45 }
end Go.Proofs
namespace Go.Proofs.YthjjfjhajadimaaGreatDoor
open Go.RowKit Go.WideShapes
set_option maxRecDepth 100000
theorem infoBuilderS:(Tryz.prog.info? 121).map (·.size) = some 2:=by kernel_rfl
theorem bcheck_used (b:Nat) (w:World) (h0:w.cell? ⟨b,0,none⟩ = some (.pointer (some ⟨b,0,none⟩))) :
  Calls Tryz.prog 103 #[.pointer (some ⟨b,0,none⟩)] w fun e w'=>e = .returned (.tuple #[])/\w = w':=by
 obtain ⟨j,hj,_⟩:=Option.map_eq_some_iff.1 infoBuilderS
 go_enter Tryz.func103,Tryz.ntmps103
 go_wp2
 rw [Lib.run_neq_ptr_same w _ Tryz.underlying119 hj]
 go_wp2
 go_end0
 exact ⟨rfl,rfl⟩
theorem infoByte3:(Tryz.prog.info? 5).map (fun i=>(i.zero,i.size,i.bytes)) = some (some (.int .u8 0),1,1):=by kernel_rfl
theorem neBuilder:121 ≠ 5:=by decide
section
variable {w:World} {b:Nat} {d:DS} {S:Nat->Prop}
theorem off_any (h:DiskAt w b d S):Calls Tryz.prog 43 #[.pointer (some ⟨b,0,none⟩)] w fun e w'=>e = .returned (.bool d.off)/\w = w':=by
 obtain ⟨gd,mb,uv,h,hS⟩:=h; exact off_p h
theorem size_any (h:DiskAt w b d S):Calls Tryz.prog 108 #[.pointer (some ⟨b,0,none⟩)] w fun e w'=>e = .returned (.int .i64 d.dur.length)/\w = w':=by
 obtain ⟨gd,mb,uv,h,hS⟩:=h; exact size_p h
theorem counts_any (h:DiskAt w b d S):Calls Tryz.prog 15 #[.pointer (some ⟨b,0,none⟩)] w fun e w'=>e = .returned (.tuple #[.int .i64 d.wr,.int .i64 d.fl])/\Qt w w':=by
 obtain ⟨gd,mb,uv,h,hS⟩:=h
 refine (counts_p h).mono ?_
 rintro e w' ⟨he,n,rfl⟩
 exact ⟨he,(Qt.refl w).drewN n⟩
end
end Go.Proofs.YthjjfjhajadimaaGreatDoor
