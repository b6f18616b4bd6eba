/-
  Joined: DAt, DSmall, Conv, DRead, DLaws.
-/
import Derived.Test.YthjjfjhajadimaaGreatDoorP07
import Derived.Maps.OwnSet
import Derived.Maps.Views
import Derived.Deep.MidRow
import Derived.Deep.QuietTactic
import Derived.BigQuiet
import Derived.IntWalk
import Derived.Outline
import Derived.Laws.BytesArg
import Derived.Laws.BytesString
import Derived.Laws.Rows
import Derived.Lib.SlBuf
import Derived.Lib.LazyBuf
import Derived.StillTailTactics
namespace Go.Proofs.YthjjfjhajadimaaGreatDoor
open Go.RowKit
open Go.Maps (Keyed string_keyed int_keyed)
set_option maxRecDepth 100000
structure Dur (W:World) (g:Nat) (D:List (List UInt8)):Prop where
 blk:∃ C,W.heap[g]? = some (.cells C 125 (0,0))/\C.size = D.length * 256
 rng:∀ (i:Nat) (s:List UInt8),D[i]? = some s->W.rangeAt g (i * 256) (Lib.byteCells s)
def wayCells (w:Nat × List UInt8):List Value:=.int .i64 w.1 :: Lib.byteCells w.2
def waysCells (ws:List (Nat × List UInt8)):List Value:=ws.flatMap wayCells
theorem wayCells_length {w:Nat × List UInt8} (h:w.2.length = 256):(wayCells w).length = 257:=by simp [wayCells,Lib.byteCells_length,h]
theorem waysCells_snoc (ws:List (Nat × List UInt8)) (w:Nat × List UInt8):waysCells (ws ++ [w]) = waysCells ws ++ wayCells w:=by simp [waysCells]
theorem wayCells_one (w:Nat × List UInt8):∀ u ∈ wayCells w,u.oneCell' = true:=by
 intro u hu
 rcases List.mem_cons.1 hu with rfl | hu
 ·rfl
 ·obtain ⟨c,_,rfl⟩:=List.mem_map.1 hu; rfl
theorem byteCells_one1 (l:List UInt8):∀ u ∈ Lib.byteCells l,u.oneCell' = true:=by
 intro u hu
 obtain ⟨c,_,rfl⟩:=List.mem_map.1 hu; rfl
theorem flatMap_get {α:Type} (f:α->List Value) (m:Nat):∀ (l:List α),(∀ (k:Nat) (w:α),l[k]? = some w->(f w).length = m)->∀ (k:Nat) (w:α),l[k]? = some w->∀ (j:Nat) (v:Value),(f w)[j]? = some v->(l.flatMap f)[k * m + j]? = some v
 | [],_,k,w,hk,_,_,_=>by simp at hk
 | a :: r,h,0,w,hk,j,v,hj=>by
  simp at hk
  subst hk
  have hl:=(List.getElem?_eq_some_iff.1 hj).1
  rw [List.flatMap_cons,List.getElem?_append_left (by omega)]
  simpa using hj
 | a :: r,h,k + 1,w,hk,j,v,hj=>by
  have hl:(f a).length = m:=h 0 a rfl
  rw [List.flatMap_cons,List.getElem?_append_right (by rw [hl,Nat.succ_mul]; omega),hl]
  rw [show (k + 1) * m + j - m = k * m + j by rw [Nat.succ_mul]; omega]
  exact flatMap_get f m r (fun k w hk=>h (k + 1) w hk) k w (by simpa using hk) j v hj
structure MapsTo (D:DataW Unit) (ws:List (Nat × List UInt8)):Prop where
 has:∀ p:Nat,Maps.has D (.int .i64 p) = (lastAt ws p).isSome
 at':∀ (p k:Nat),lastAt ws p = some k->D.atKey (.int .i64 p) (.lit (.int .i64 0)) = .lit (.int .i64 k)
theorem MapsTo.nil:MapsTo (.map []) []:=⟨fun p=>rfl,fun p k h=>by cases h⟩
def diskCells (gd mb:Nat) (uv:Value) (d:DS):Array Value :=
 #[.slice (some ⟨gd,0,none⟩) d.dur.length d.dur.length,uv,.map (some mb),.int .i64 d.armed,.bool d.off,.int .i64 d.wr,.int .i64 d.fl,.int .i64 d.cr]
structure DiskP (W:World) (b gd mb:Nat) (uv:Value) (d:DS):Prop where
 ok:d.Ok
 cells:W.heap[b]? = some (.cells (diskCells gd mb uv d) 110 (0,0))
 dur:Dur W gd d.dur
 ways:W.ownsRow 0 156 257 uv d.ways.length (waysCells d.ways)
 map:∃ D,W.ownsMap Tryz.prog 3 (plainElem Tryz.prog 3) mb d.ways.length D/\MapsTo D d.ways
def foot (b gd mb:Nat) (uv:Value) (k:Nat):Prop:=k = b\/k = gd\/k = mb\/uv.ownBlock = some k
def DiskAt (W:World) (b:Nat) (d:DS) (S:Nat->Prop):Prop:=∃ gd mb uv,DiskP W b gd mb uv d/\∀ k,foot b gd mb uv k->S k
def Grow (S:Nat->Prop) (w w':World) (k:Nat):Prop:=S k\/(w.heap.size<=k/\k < w'.heap.size)
theorem DiskAt.mono {W:World} {b:Nat} {d:DS} {S T:Nat->Prop} (h:DiskAt W b d S) (hT:∀ k,S k->T k):DiskAt W b d T:=by
 obtain ⟨gd,mb,uv,h,hS⟩:=h
 exact ⟨gd,mb,uv,h,fun k hk=>hT k (hS k hk)⟩
theorem DiskP.lt {W:World} {b gd mb:Nat} {uv:Value} {d:DS} (h:DiskP W b gd mb uv d):∀ k,foot b gd mb uv k->k < W.heap.size:=by
 rintro k (rfl | rfl | rfl | hk)
 ·exact lt_of_block h.cells
 ·obtain ⟨C,hC,_⟩:=h.dur.blk; exact lt_of_block hC
 ·obtain ⟨D,hD,_⟩:=h.map; exact hD.lt
 ·exact ownsRow_lt h.ways hk
theorem Dur.kept {S:Nat->Prop} {W W':World} {g:Nat} {D:List (List UInt8)} (h:Dur W g D) (hk:Keeps S W W') (hS:¬ S g):Dur W' g D:=by
 obtain ⟨C,hC,hs⟩:=h.blk
 have hg:=lt_of_block hC
 refine ⟨⟨C,(hk.block g hg hS).trans hC,hs⟩,fun i s hi j v hj=>?_⟩
 rw [hk.cell (p:=⟨g,i * 256 + j,none⟩) hg hS]
 exact h.rng i s hi j v hj
theorem ownsMap_kept {S:Nat->Prop} {W W':World} {b n:Nat} {k:TypeId} {R:Value->Option (DataW Unit × List MemPlace)} {D:DataW Unit} (h:W.ownsMap Tryz.prog k R b n D) (hk:Keeps S W W') (hS:¬ S b):W'.ownsMap Tryz.prog k R b n D:=by
 have hlt:=h.lt
 obtain ⟨es,clock,hb,r⟩:=h
 exact ⟨es,clock,(hk.block b hlt hS).trans hb,r⟩
theorem DiskP.kept {S:Nat->Prop} {W W':World} {b gd mb:Nat} {uv:Value} {d:DS} (h:DiskP W b gd mb uv d) (hk:Keeps S W W') (hS:∀ k,foot b gd mb uv k->¬ S k):DiskP W' b gd mb uv d:=by
 obtain ⟨D,hD,hm⟩:=h.map
 exact ⟨h.ok,(hk.block b (lt_of_block h.cells) (hS b (.inl rfl))).trans h.cells,h.dur.kept hk (hS gd (.inr (.inl rfl))),ownsRow_kept h.ways hk (fun k e=>hS k (.inr (.inr (.inr e)))),D,ownsMap_kept hD hk (hS mb (.inr (.inr (.inl rfl)))),hm⟩
theorem DiskAt.kept {S T:Nat->Prop} {W W':World} {b:Nat} {d:DS} (h:DiskAt W b d S) (hk:Keeps T W W') (hS:∀ k,S k->¬ T k):DiskAt W' b d S:=by
 obtain ⟨gd,mb,uv,h,hf⟩:=h
 exact ⟨gd,mb,uv,h.kept hk (fun k e=>hS k (hf k e)),hf⟩
theorem DiskAt.qt {S:Nat->Prop} {W W':World} {b:Nat} {d:DS} (h:DiskAt W b d S) (hk:Qt W W'):DiskAt W' b d S:=h.kept hk (fun _ _ e=>e)
theorem DiskAt.ok {S:Nat->Prop} {W:World} {b:Nat} {d:DS} (h:DiskAt W b d S):d.Ok:=by
 obtain ⟨gd,mb,uv,h,hf⟩:=h; exact h.ok
theorem DiskP.apart {W:World} {b gd mb:Nat} {uv:Value} {d:DS} (h:DiskP W b gd mb uv d):b ≠ gd/\b ≠ mb/\gd ≠ mb/\uv.ownBlock ≠ some b/\uv.ownBlock ≠ some gd/\uv.ownBlock ≠ some mb:=by
 obtain ⟨C,hC,_⟩:=h.dur.blk
 obtain ⟨D,⟨es,clock,hm,_⟩,_⟩:=h.map
 have hb:=h.cells
 have hu:∀ k,uv.ownBlock = some k->∃ cur,W.heap[k]? = some (.cells cur 156 (0,0)):=by
  intro k hk
  rcases h.ways.2 with ⟨e,_⟩ | ⟨g,cap,cur,e,_,hg,_⟩
  ·rw [e] at hk; cases hk
  ·rw [e] at hk
   have:g = k:=by simpa [Value.ownBlock] using hk
   subst this
   exact ⟨cur,hg⟩
 refine ⟨?_,?_,?_,?_,?_,?_⟩
 ·rintro rfl; rw [hC] at hb; injection hb with hb; injection hb with _ e; cases e
 ·rintro rfl; rw [hm] at hb; injection hb with hb; cases hb
 ·rintro rfl; rw [hm] at hC; injection hC with hC; cases hC
 ·intro e; obtain ⟨cur,hc⟩:=hu b e; rw [hc] at hb; injection hb with hb; injection hb with _ e; cases e
 ·intro e; obtain ⟨cur,hc⟩:=hu gd e; rw [hc] at hC; injection hC with hC; injection hC with _ e; cases e
 ·intro e; obtain ⟨cur,hc⟩:=hu mb e; rw [hc] at hm; injection hm with hm; cases hm
theorem DiskP.cell {W:World} {b gd mb:Nat} {uv:Value} {d:DS} (h:DiskP W b gd mb uv d) (i:Nat) (v:Value) (hi:(diskCells gd mb uv d)[i]? = some v):W.cell? ⟨b,i,none⟩ = some v:=by
 rw [cell_of_row W b i _ _ _ h.cells]; exact hi
theorem frozen_of_row {W:World} {b:Nat} {C:Array Value} {t:TypeId} (h:W.heap[b]? = some (.cells C t (0,0))) (i:Nat):W.frozen? ⟨b,i,none⟩ = false:=Lib.frozen_of_heap h i
theorem setCell_row {W:World} {b:Nat} {C:Array Value} {t:TypeId} (h:W.heap[b]? = some (.cells C t (0,0))) (i:Nat) (v:Value):(W.setCell ⟨b,i,none⟩ v).heap[b]? = some (.cells (C.setIfInBounds i v) t (0,0)):=by
 rw [setCell_eq_setRow W b i C t (0,0) v h]
 exact setRow_heap W b _ _ t _ h
theorem keeps_setCell (W:World) (b i:Nat) (v:Value):Keeps (fun k=>k = b) W (W.setCell ⟨b,i,none⟩ v):=(Keeps.refl (fun k=>k = b) W).setCell (p:=⟨b,i,none⟩) (fun _=>rfl) v
theorem DiskP.turn {W W':World} {b gd mb:Nat} {uv:Value} {d d':DS} (h:DiskP W b gd mb uv d) (hk:Keeps (fun k=>k = b) W W') (hc:W'.heap[b]? = some (.cells (diskCells gd mb uv d') 110 (0,0))) (ho:d'.Ok) (h1:d'.dur = d.dur) (h2:d'.ways = d.ways):DiskP W' b gd mb uv d':=by
 obtain ⟨a1,a2,a3,a4,a5,a6⟩:=h.apart
 obtain ⟨D,hD,hm⟩:=h.map
 refine ⟨ho,hc,?_,?_,D,?_,?_⟩
 ·rw [h1]; exact h.dur.kept hk (fun e=>a1 e.symm)
 ·rw [h2]; exact ownsRow_kept h.ways hk (fun k e1 e2=>by subst e2; exact a4 e1)
 ·rw [h2]; exact ownsMap_kept hD hk (fun e=>a2 e.symm)
 ·rw [h2]; exact hm
end Go.Proofs.YthjjfjhajadimaaGreatDoor
namespace Go.Proofs.YthjjfjhajadimaaGreatDoor
open Go.RowKit
set_option maxRecDepth 100000
section
variable {w:World} {b gd mb:Nat} {uv:Value} {d:DS}
theorem off_p (h:DiskP w b gd mb uv d):Calls Tryz.prog 43 #[.pointer (some ⟨b,0,none⟩)] w fun e w'=>e = .returned (.bool d.off)/\w = w':=by
 have c4:=h.cell 4 _ rfl
 clear h
 go_enter Tryz.func43,Tryz.ntmps43
 go_wp2
 go_ret
 exact ⟨rfl,rfl⟩
theorem size_p (h:DiskP w b gd mb uv d):Calls Tryz.prog 108 #[.pointer (some ⟨b,0,none⟩)] w fun e w'=>e = .returned (.int .i64 d.dur.length)/\w = w':=by
 have c0:w.cell? ⟨b,0,none⟩ = some (.slice (some ⟨gd,0,none⟩) d.dur.length d.dur.length):=h.cell 0 _ rfl
 clear h
 go_enter Tryz.func108,Tryz.ntmps108
 go_wp2
 go_ret
 exact ⟨rfl,rfl⟩
theorem own_slice {W:World} {e:TypeId} {m:Nat} {v:Value} {n:Nat} {xs:List Value} (h:W.ownsRow 0 e m v n xs):∃ a c,v = .slice a n c/\n<=c:=by
 rcases h.2 with ⟨rfl,h0⟩ | ⟨g,cap,cur,rfl,_,_,hc,_⟩
 ·exact ⟨none,0,by rw [h0],by omega⟩
 ·exact ⟨_,cap,rfl,hc⟩
theorem counts_p (h:DiskP w b gd mb uv d):Calls Tryz.prog 15 #[.pointer (some ⟨b,0,none⟩)] w fun e w'=>e = .returned (.tuple #[.int .i64 d.wr,.int .i64 d.fl])/\∃ n,w' = w.drewN n:=by
 have c5:w.drew.cell? ⟨b,5,none⟩ = some (.int .i64 d.wr):=h.cell 5 _ rfl
 have c6:w.drew.cell? ⟨b,6,none⟩ = some (.int .i64 d.fl):=h.cell 6 _ rfl
 have e5:=h.cell 5 _ rfl
 have e6:=h.cell 6 _ rfl
 clear h
 go_enter Tryz.func15,Tryz.ntmps15
 go_wp2
 go_quiet (fail)
 go_wp2
 go_ret2
 exact ⟨rfl,_,rfl⟩
theorem reach_p (ad:Nat->Addr) (hE:Errs ad w) (h:DiskP w b gd mb uv d) (i:Int) :
  Calls Tryz.prog 168 #[.pointer (some ⟨b,0,none⟩),.int .i64 i] w fun e w'=>e = .returned (errV ad (d.reach i))/\w = w':=by
 have c0:w.cell? ⟨b,0,none⟩ = some (.slice (some ⟨gd,0,none⟩) d.dur.length d.dur.length):=h.cell 0 _ rfl
 have c4:w.cell? ⟨b,4,none⟩ = some (.bool d.off):=h.cell 4 _ rfl
 have e6:w.cell? ⟨0,0,none⟩ = some (.iface 335 (.pointer (some (ad 6)))):=hE.cells 5 _ rfl
 have e12:w.cell? ⟨6,0,none⟩ = some (.iface 335 (.pointer (some (ad 12)))):=hE.cells 11 _ rfl
 have fin:=Lib.hid (show d.reach i = if d.off then 12 else if i < 0\/d.dur.length<=i then 6 else 0 from rfl)
 have v6:=Lib.hid (show errV ad 6 = .iface 335 (.pointer (some (ad 6))) from rfl)
 have v12:=Lib.hid (show errV ad 12 = .iface 335 (.pointer (some (ad 12))) from rfl)
 clear h hE
 generalize d.dur.length = n at *
 cases ho:d.off with
 | true =>
  rw [ho] at c4 fin
  clear ho
  go_enter Tryz.func168,Tryz.ntmps168
  go_wp2
  go_ret
  exact ⟨by rw [fin.out]; exact congrArg _ v12.out.symm,rfl⟩
 | false =>
  rw [ho] at c4 fin
  clear ho
  by_cases h0:i < 0
  ·go_enter Tryz.func168,Tryz.ntmps168
   go_wp2
   go_ret
   exact ⟨by rw [fin.out,if_neg (by simp),if_pos (.inl (by assumption))]; exact congrArg _ v6.out.symm,rfl⟩
  ·have h0':decide (i < 0) = false:=decide_eq_false h0
   by_cases h1:(n:Int)<=i
   ·go_enter Tryz.func168,Tryz.ntmps168
    go_wp2
    go_ret
    exact ⟨by rw [fin.out,if_neg (by simp),if_pos (.inr (by assumption))]; exact congrArg _ v6.out.symm,rfl⟩
   ·have h1':decide ((n:Int)<=i) = false:=decide_eq_false h1
    go_enter Tryz.func168,Tryz.ntmps168
    go_wp2
    go_ret
    exact ⟨by rw [fin.out,if_neg (by simp),if_neg (by omega)]; rfl,rfl⟩
def DS.goes (d:DS):DS:=if d.armed = 0 then { d with off:=true } else { d with armed:=dec d.armed }
theorem DS.Ok.goes {d:DS} (h:d.Ok):d.goes.Ok:=by
 have hd:=dec_le h.a0
 have:=h.a1
 unfold DS.goes
 split
 ·exact ⟨h.pos,h.le,h.each,h.way,h.a0,h.a1⟩
 ·exact ⟨h.pos,h.le,h.each,h.way,hd.1,by simp only; omega⟩
set_option maxHeartbeats 800000 in
theorem goes_p (h:DiskP w b gd mb uv d) :
  Calls Tryz.prog 230 #[.pointer (some ⟨b,0,none⟩)] w fun e w'=>e = .returned (.bool (decide (d.armed = 0)))/\DiskP w' b gd mb uv d.goes/\Keeps (fun k=>k = b) w w':=by
 have c3:w.cell? ⟨b,3,none⟩ = some (.int .i64 d.armed):=h.cell 3 _ rfl
 have c4:w.cell? ⟨b,4,none⟩ = some (.bool d.off):=h.cell 4 _ rfl
 have f3:=frozen_of_row h.cells 3
 have f4:=frozen_of_row h.cells 4
 have hok:=h.ok.goes
 have a0:=h.ok.a0
 have a1:=h.ok.a1
 have H:=Lib.hid h
 clear h
 by_cases h0:d.armed = 0
 ·have fin:=Lib.hid (show d.goes = { d with off:=true } from if_pos h0)
  have hb:(d.armed == 0) = true:=beq_iff_eq.2 h0
  have K:=Lib.hid h0
  clear h0
  go_enter Tryz.func230,Tryz.ntmps230
  go_wp2
  go_ret
  have hk:=keeps_setCell w b 4 (.bool true)
  refine ⟨by rw [decide_eq_true K.out]; rfl,?_,hk⟩
  refine H.out.turn hk ?_ hok (by rw [fin.out]) (by rw [fin.out])
  rw [setCell_row H.out.cells,fin.out]
  rfl
 ·have hb:(d.armed == 0) = false:=beq_eq_false_iff_ne.2 h0
  by_cases h1:0 < d.armed
  ·have fin:=Lib.hid (show d.goes = { d with armed:=d.armed - 1 } by unfold DS.goes dec; rw [if_neg h0,if_pos h1])
   have K:=Lib.hid h0
   clear h0
   go_enter Tryz.func230,Tryz.ntmps230
   go_wp2
   go_ret
   have hk:=keeps_setCell w b 3 (.int .i64 (d.armed - 1))
   refine ⟨by rw [decide_eq_false K.out]; rfl,?_,hk⟩
   refine H.out.turn hk ?_ hok (by rw [fin.out]) (by rw [fin.out])
   rw [setCell_row H.out.cells,fin.out]
   rfl
  ·have fin:=Lib.hid (show d.goes = d by unfold DS.goes dec; rw [if_neg h0,if_neg h1])
   have K:=Lib.hid h0
   have h1':decide (0 < d.armed) = false:=decide_eq_false h1
   clear h0
   go_enter Tryz.func230,Tryz.ntmps230
   go_wp2
   go_ret
   refine ⟨by rw [decide_eq_false K.out]; rfl,?_,Keeps.refl _ _⟩
   rw [fin.out]
   exact H.out
def DS.forgot (d:DS):DS:={ d with ways:=[] }
theorem forget_p (h:DiskP w b gd mb uv d) :
  Calls Tryz.prog 80 #[.pointer (some ⟨b,0,none⟩)] w fun e w'=>e = .returned (.tuple #[])/\DiskP w' b gd w.heap.size (.slice none 0 0) d.forgot/\Keeps (fun k=>k = b) w w':=by
 have hmm:=@run_makeMap Tryz.prog
 have c1:w.cell? ⟨b,1,none⟩ = some uv:=h.cell 1 _ rfl
 have c2:w.cell? ⟨b,2,none⟩ = some (.map (some mb)):=h.cell 2 _ rfl
 have f1:=frozen_of_row h.cells 1
 have f2:=frozen_of_row h.cells 2
 have hb:=lt_of_block h.cells
 have H:=Lib.hid h
 clear h
 go_enter Tryz.func80,Tryz.ntmps80
 go_wp2
 go_end0
 have hk:=Keeps.trans (keeps_setCell w b 1 (.slice none 0 0)) (keeps_setCell (w.setCell ⟨b,1,none⟩ (.slice none 0 0)) b 2 (.map (some w.heap.size))) (fun _ _ e=>e)
 have hr:=setCell_row (setCell_row H.out.cells 1 (.slice none 0 0)) 2 (.map (some w.heap.size))
 have hz:((w.setCell ⟨b,1,none⟩ (.slice none 0 0)).setCell ⟨b,2,none⟩ (.map (some w.heap.size))).heap.size = w.heap.size:=by simp [World.setCell]
 generalize (w.setCell ⟨b,1,none⟩ (.slice none 0 0)).setCell ⟨b,2,none⟩ (.map (some w.heap.size)) = W2 at *
 have hk2:=hk.alloc (.map #[] 0)
 refine ⟨rfl,?_,hk2⟩
 obtain ⟨a1,a2,a3,a4,a5,a6⟩:=H.out.apart
 have ho:=H.out.ok
 refine ⟨⟨ho.pos,ho.le,ho.each,fun k w hk=>by simp [DS.forgot] at hk,ho.a0,ho.a1⟩,?_,H.out.dur.kept hk2 (fun e=>a1 e.symm),World.ownsRow_nil _ 0 _ 257,.map [],?_,MapsTo.nil⟩
 ·rw [Below.heap_alloc _ _ _ (by omega),hr]
  rfl
 ·have hm:=World.ownsMap_made W2 Tryz.prog 3 (plainElem (H:=Unit) Tryz.prog 3)
  rw [hz] at hm
  exact hm
end
end Go.Proofs.YthjjfjhajadimaaGreatDoor
namespace Go.Proofs.YthjjfjhajadimaaGreatDoor
open Go.RowKit Go.WideShapes
open Go.Maps (Keyed string_keyed int_keyed keyOf_int_mk)
set_option maxRecDepth 100000
theorem zeroInt (w:World):(zeroValue 3).run Tryz.prog w = .ok (.int .i64 0) w:=by kernel_rfl
theorem keyInt:Keyed Tryz.prog 3:=int_keyed Tryz.underlying3
theorem key_nat {i:Nat} (h:i<=65536):keyOf Tryz.prog 3 (.int .i64 i) = some (.int .i64 i):=keyOf_int_mk Tryz.underlying3 (WalkArith.wf_i64 ⟨by omega,by omega⟩)
theorem strOfNums_nat (l:List UInt8):strOfNums (l.map fun b=>((b.toNat:Nat):Int)) = ⟨l.toArray⟩:=by
 unfold strOfNums
 rw [List.map_map]
 congr 2
 conv=>rhs; rw [<- List.map_id l]
 apply List.map_congr_left
 intro b _
 simp
theorem conv_at {w:World} {g o:Nat} {l:List UInt8} (h:w.rangeAt g o (Lib.byteCells l)) (n cap:Nat) (hn:l.length = n):(convert 111 9 (.slice (some ⟨g,o,none⟩) n cap)).run Tryz.prog w = .ok (.string ⟨l.toArray⟩) w:=by
 subst hn
 have h1:=run_convert_bytes_arg (P:=Tryz.prog) w 111 5 Tryz.underlying111 Tryz.underlying5 g o l.length cap (l.map fun b=>((b.toNat:Nat):Int)) (by simp) (fun i hi=>by
  rw [h i (.int .u8 (l[i].toNat)) (by simp [Lib.byteCells,hi])]
  simp [List.getD,hi]) 9 Tryz.underlying9
 rw [strOfNums_nat] at h1
 exact h1
theorem way_range {w:World} {g c:Nat} {ws:List (Nat × List UInt8)} {n:Nat} (h:w.ownsRow 0 156 257 (.slice (some ⟨g,0,none⟩) n c) n (waysCells ws)) (hw:∀ (k:Nat) (x:Nat × List UInt8),ws[k]? = some x->x.2.length = 256) {k:Nat} {x:Nat × List UInt8} (hk:ws[k]? = some x):w.rangeAt g (k * 257) (wayCells x):=by
 intro j v hj
 have h1:=(World.ownsRowF_of h).cells (g:=g) rfl (k * 257 + j) v (flatMap_get wayCells 257 ws (fun k x hx=>wayCells_length (hw k x hx)) k x hk j v hj)
 rw [add_plain,Nat.zero_add] at h1
 exact h1
theorem range_tail {w:World} {g o:Nat} {v:Value} {l:List Value} (h:w.rangeAt g o (v :: l)):w.rangeAt g (o + 1) l:=fun j u hj=>by
 have:=h (j + 1) u (by simpa using hj)
 rwa [show o + (j + 1) = o + 1 + j by omega] at this
section
variable {w:World} {b gd mb:Nat} {uv:Value} {d:DS}
theorem read_none (ad:Nat->Addr) (hE:Errs ad w) (h:DiskP w b gd mb uv d) (i:Nat) (hr:d.reach i = 0) (hl:lastAt d.ways i = none) :
  Calls Tryz.prog 110 #[.pointer (some ⟨b,0,none⟩),.int .i64 i] w fun e w'=>e = .returned (.tuple #[.string ⟨(d.read i).toArray⟩,.nilIface])/\w = w':=by
 have c0:w.cell? ⟨b,0,none⟩ = some (.slice (some ⟨gd,0,none⟩) d.dur.length d.dur.length):=h.cell 0 _ rfl
 have c2:w.cell? ⟨b,2,none⟩ = some (.map (some mb)):=h.cell 2 _ rfl
 obtain ⟨D,hD,hm⟩:=h.map
 have hh:=hm.has i
 rw [hl] at hh
 obtain ⟨_,_,hi⟩:=DS.reach_zero hr
 have hi:i < d.dur.length:=by omega
 have hle:=h.ok.le
 have hkey:=key_nat (i:=i) (by omega)
 have hrd:d.read i = d.dur.getD i []:=(readTo_last d.dur d.ways i).1 hl
 have hget:d.dur[i]? = some (d.read i):=by rw [hrd]; simp [List.getD,hi]
 have hcv:=conv_at (h.dur.rng i _ hget) 256 256 (h.ok.each i _ hget)
 obtain ⟨s,hs⟩:∃ s,d.read i = s:=⟨_,rfl⟩
 have HS:=Lib.hid hs
 rw [hs] at hcv
 go_enter Tryz.func110,Tryz.ntmps110
 go_wp2_with fail
 refine (reach_p ad hE h i).mono ?_
 rintro e w' ⟨rfl,rfl⟩
 rw [hr,errV_zero]
 have HH:=Lib.hid hh
 have Hw:=Lib.hid hD
 clear hh hr hl hE h hm hrd hget hD hs
 go_wp2_with (at_lookup; refine wpList_lookup_own_ok_int _ rfl _ _ 107 rfl 3 3 .i64 keyInt Tryz.underlying107 Tryz.underlying3 (zeroInt _) mb _ D rfl Hw.out _ _ rfl hkey ?_; intro c hat hwc; rw [HH.out]; clear hat hwc)
 go_ret2
 exact ⟨by rw [HS.out]; rfl,rfl⟩
theorem read_some (ad:Nat->Addr) (hE:Errs ad w) (h:DiskP w b gd mb uv d) (i k:Nat) (hr:d.reach i = 0) (hl:lastAt d.ways i = some k) :
  Calls Tryz.prog 110 #[.pointer (some ⟨b,0,none⟩),.int .i64 i] w fun e w'=>e = .returned (.tuple #[.string ⟨(d.read i).toArray⟩,.nilIface])/\w = w':=by
 have hk:=lastAt_lt hl
 obtain ⟨x,hx,hrd⟩:=(readTo_last d.dur d.ways i).2 k hl
 obtain ⟨g,cap,hv⟩:∃ g cap,uv = .slice (some ⟨g,0,none⟩) d.ways.length cap:=by
  rcases h.ways.2 with ⟨_,h0⟩ | ⟨g,cap,cur,e,_⟩
  ·omega
  ·exact ⟨g,cap,e⟩
 subst hv
 have c1:w.cell? ⟨b,1,none⟩ = some (.slice (some ⟨g,0,none⟩) d.ways.length cap):=h.cell 1 _ rfl
 have c2:w.cell? ⟨b,2,none⟩ = some (.map (some mb)):=h.cell 2 _ rfl
 obtain ⟨D,hD,hm⟩:=h.map
 have hh:=hm.has i
 have ha:=hm.at' i k hl
 rw [hl] at hh
 obtain ⟨_,_,hi⟩:=DS.reach_zero hr
 have hi:i < d.dur.length:=by omega
 have hle:=h.ok.le
 have hkey:=key_nat (i:=i) (by omega)
 have hxl:=(h.ok.way k x hx).2
 have hrd:d.read i = x.2:=hrd
 have hcv:=conv_at (range_tail (way_range h.ways (fun k x hx=>(h.ok.way k x hx).2) hx)) 256 256 hxl
 go_enter Tryz.func110,Tryz.ntmps110
 go_wp2_with fail
 refine (reach_p ad hE h i).mono ?_
 rintro e w' ⟨rfl,rfl⟩
 rw [hr,errV_zero]
 have HH:=Lib.hid hh
 have HA:=Lib.hid ha
 have Hw:=Lib.hid hD
 have HR:=Lib.hid hrd
 clear hh hr hl hE h hm hrd hx ha hD
 obtain ⟨s,hs⟩:∃ s,x.2 = s:=⟨_,rfl⟩
 rw [hs] at hcv
 have HS:=Lib.hid hs
 clear hs
 go_wp2_with (at_lookup; refine wpList_lookup_own_ok_int _ rfl _ _ 107 rfl 3 3 .i64 keyInt Tryz.underlying107 Tryz.underlying3 (zeroInt _) mb _ D rfl Hw.out _ _ rfl hkey ?_; intro c hat hwc; rw [HA.out] at hat; injection hat with hat; injection hat with _ hat; subst hat; rw [HH.out]; clear hwc)
 go_ret2
 exact ⟨by rw [HR.out,HS.out]; rfl,rfl⟩
def DS.readE (d:DS) (i:Int):List UInt8:=if d.reach i = 0 then d.read i.toNat else []
theorem errV_ne {ad:Nat->Addr} {n:Nat} (h:n ≠ 0):errV ad n = .iface 335 (.pointer (some (ad n))):=errV_pos ad (by omega)
theorem read_err (ad:Nat->Addr) (hE:Errs ad w) (h:DiskP w b gd mb uv d) (i:Int) (hr:d.reach i ≠ 0) :
  Calls Tryz.prog 110 #[.pointer (some ⟨b,0,none⟩),.int .i64 i] w fun e w'=>e = .returned (.tuple #[.string ⟨#[]⟩,errV ad (d.reach i)])/\w = w':=by
 have hv:=errV_ne (ad:=ad) hr
 go_enter Tryz.func110,Tryz.ntmps110
 go_wp2_with fail
 refine (reach_p ad hE h i).mono ?_
 rintro e w' ⟨rfl,rfl⟩
 have HV:=Lib.hid hv
 rw [hv]
 clear hv hr hE h
 go_wp2
 go_ret2
 exact ⟨by rw [HV.out]; rfl,rfl⟩
theorem read_p (ad:Nat->Addr) (hE:Errs ad w) (h:DiskP w b gd mb uv d) (i:Int) :
  Calls Tryz.prog 110 #[.pointer (some ⟨b,0,none⟩),.int .i64 i] w fun e w'=>e = .returned (.tuple #[.string ⟨(d.readE i).toArray⟩,errV ad (d.reach i)])/\w = w':=by
 by_cases hr:d.reach i = 0
 ·obtain ⟨h1,h2,h3⟩:=DS.reach_zero hr
  obtain ⟨j,rfl⟩:=Int.eq_ofNat_of_zero_le h2
  have e1:d.readE j = d.read j:=by unfold DS.readE; rw [if_pos hr]; simp
  rw [e1,hr,errV_zero]
  cases hl:lastAt d.ways j with
  | none=>exact read_none ad hE h j hr hl
  | some k=>exact read_some ad hE h j k hr hl
 ·have e1:d.readE i = []:=if_neg hr
  rw [e1]
  exact read_err ad hE h i hr
end
end Go.Proofs.YthjjfjhajadimaaGreatDoor
namespace Go.Proofs.YthjjfjhajadimaaGreatDoor
open Go.RowKit Go.WideShapes
set_option maxRecDepth 100000
section
variable {P:Program}
theorem still_load_mid {ops:Array Oper} {w:World} {Q:Act->Prop} {a:Act} {o:Oper} {rest:List Oper} (hgd:o.guard = none) (ty:TypeId) (x:Operand) (ho:o.op = .load ty x)
  (b f:Nat) (hx:a.eval x = .pointer (some ⟨b,f,none⟩)) (cs:List Value) (d:TypeDesc) (hc:w.rangeAt b f cs) (hu:P.underlying ty = some d) (hd:d.isRow = true) (hi:(P.info? ty).map (·.size) = some cs.length)
  (h:wpStill P ops w Q rest (a.put o.dst (.agg cs.toArray))):wpStill P ops w Q (o :: rest) a:=by
 refine wpStill_step (fun K hK=>?_)
 have hw:Region.wanted o (yielded ops a.tmps) = true:=by simp [Region.wanted,hgd]
 rw [if_pos hw]
 unfold Oper.still execOp
 simp only [ho,hx,Instr.loadAt,Instr.sureAddr,Sem.run_bind,Sem.run_pure,Result.andThen_ok,run_loadVar_mid w b f ty cs d hc hu hd hi]
 rw [Oper.stillUpon_value]
 exact hK _ h
theorem wpAny_tail {md:Region.Mode} {ops:Array Oper} {Q:Exit->Act->World->Prop} (k g:Nat) {listed:Array Bool} {a:Act} {w:World} (hg:(ops.toList.drop k).length = g) (hB:Region.seqB md ops g k listed = true) (h:wpList P ops Q (ops.toList.drop k) a w):wpAny P md ops Q g listed a w:=by
 subst hg
 exact wpAny_of_seq _ k listed a w (fun j=>by simp) hB h
theorem step_load_mid {ops:Array Oper} {w:World} {Q:Exit->Act->World->Prop} {K:Act->World->Prop} {E:Prop} {a:Act} {o:Oper} (hgd:o.guard = none) (ty:TypeId) (x:Operand) (ho:o.op = .load ty x)
  (b f:Nat) (hx:a.eval x = .pointer (some ⟨b,f,none⟩)) (cs:List Value) (d:TypeDesc) (hc:w.rangeAt b f cs) (hu:P.underlying ty = some d) (hd:d.isRow = true) (hi:(P.info? ty).map (·.size) = some cs.length)
  (h:K (a.put o.dst (.agg cs.toArray)) w):if Region.wanted o (yielded ops a.tmps) = true then Oper.wp P o a w K Q else E:=by
 have hw:Region.wanted o (yielded ops a.tmps) = true:=by simp [Region.wanted,hgd]
 rw [if_pos hw]
 exact wp_load_mid ty x ho b f hx cs d hc hu hd hi h
theorem step_append_cells {w:World} {ops:Array Oper} {o:Oper} {a:Act} {K:Act->World->Prop} {Q:Exit->Act->World->Prop} {E:Prop} (hgd:o.guard = none) (s x:Operand) (t:TypeId)
  (ho:o.op = .call { callee:=.builtin .append,args:=#[s,x],argTypes:=#[t,t] })
  (e:TypeId) (i:TypeInfo) (z:Value) (size bytes:Nat) (ht:P.underlying t = some (.slice e)) (hi:P.info? e = some i) (hz:i.zero = some z) (hsize:i.size = size) (hby:i.bytes = bytes) (hzs:z.cells.size = size) (hsz:0 < size)
  (v:Value) (n:Nat) (xs:List Value) (hs:a.eval s = v) (hown:w.ownsRow 0 e size v n xs)
  (ad:Addr) (c:Nat) (us:List Value) (hl:us.length = size) (hx:a.eval x = .slice (some ad) 1 c) (hnews:∀ (j:Nat) y,us[j]? = some y->w.cell? (ad.add j) = some y) (h1:∀ u ∈ us,u.oneCell' = true)
  (h63:n + 1<=maxLen) (hbytes:(n + 1) * bytes<=140737488355328)
  (h:∀ g' cap' w',w'.ownsRow 0 e size (.slice (some ⟨g',0,none⟩) (n + 1) cap') (n + 1) (xs ++ us)->((some g' = v.ownBlock/\w.grownBy w' v.ownBlock)\/(w.heap.size<=g'/\w.grownBy w' none))->K (a.put o.dst (.slice (some ⟨g',0,none⟩) (n + 1) cap')) w') :
  if Region.wanted o (yielded ops a.tmps) = true then Oper.wp P o a w K Q else E:=by
 have hw:Region.wanted o (yielded ops a.tmps) = true:=by simp [Region.wanted,hgd]
 rw [if_pos hw]
 obtain ⟨v',w',hr,h2,h3⟩:=run_append_cells1 (P:=P) w t o.type e i z size bytes ht hi hz hsize hby hzs hsz v n xs hown ad 1 c us (by omega) hnews h1 h63 hbytes
 have hform:∃ g cap,v' = .slice (some ⟨g,0,none⟩) (n + 1) cap:=by
  rcases h2.2 with ⟨_,h0⟩ | ⟨g,cap,cur,e',_⟩
  ·omega
  ·exact ⟨g,cap,e'⟩
 obtain ⟨g',cap',rfl⟩:=hform
 unfold Oper.wp execOp
 simp only [ho,resolve,invoke,builtin,Sem.run_bind,Sem.run_pure,Result.andThen_ok,List.map_toArray,List.map_cons,List.map_nil,hs,hx,hr]
 refine h g' cap' w' h2 ?_
 rcases h3 with ⟨q,h3⟩ | ⟨g,q,hg,h3⟩
 ·exact .inl ⟨q,h3⟩
 ·simp [Value.ownBlock] at q
  subst q
  exact .inr ⟨hg,h3⟩
theorem wpList_append_way1 {w:World} {ops:Array Oper} {rest:List Oper} {o:Oper} {a:Act} {Q:Exit->Act->World->Prop} (hgd:o.guard = none) (s x:Operand) (t:TypeId)
  (ho:o.op = .call { callee:=.builtin .append,args:=#[s,x],argTypes:=#[t,t] })
  (e:TypeId) (i:TypeInfo) (z:Value) (size bytes:Nat) (ht:P.underlying t = some (.slice e)) (hi:P.info? e = some i) (hz:i.zero = some z) (hsize:i.size = size) (hby:i.bytes = bytes) (hzs:z.cells.size = size) (hsz:0 < size)
  (v:Value) (n:Nat) (xs:List Value) (hs:a.eval s = v) (hown:w.ownsRow 0 e size v n xs)
  (ad:Addr) (c:Nat) (us:List Value) (hl:us.length = size) (hx:a.eval x = .slice (some ad) 1 c) (hnews:∀ (j:Nat) y,us[j]? = some y->w.cell? (ad.add j) = some y) (h1:∀ u ∈ us,u.oneCell' = true)
  (h63:n + 1<=maxLen) (hbytes:(n + 1) * bytes<=140737488355328)
  (h:∀ g' cap' w',w'.ownsRow 0 e size (.slice (some ⟨g',0,none⟩) (n + 1) cap') (n + 1) (xs ++ us)->((some g' = v.ownBlock/\w.grownBy w' v.ownBlock)\/(w.heap.size<=g'/\w.grownBy w' none))->wpList P ops Q rest (a.put o.dst (.slice (some ⟨g',0,none⟩) (n + 1) cap')) w') :
  wpList P ops Q (o :: rest) a w:=by
 refine wpList_plain hgd fun K hK=>?_
 have hw:Region.wanted o (yielded ops a.tmps) = true:=by simp [Region.wanted,hgd]
 have q:=step_append_cells (K:=K) (Q:=Q) (E:=False) hgd s x t ho e i z size bytes ht hi hz hsize hby hzs hsz v n xs hs hown ad c us hl hx hnews h1 h63 hbytes (ops:=ops) (fun g' cap' w' h2 h3=>hK _ _ (h g' cap' w' h2 h3))
 rw [if_pos hw] at q
 exact q
end
theorem take_set_self {l:List Value} {k:Nat} {u:Value} (h:k < l.length):(l.set k u).take (k + 1) = l.take k ++ [u]:=by
 rw [List.take_succ_eq_append_getElem (by simpa using h),List.take_set_of_le (Nat.le_refl k)]
 simp
theorem fill_list:∀ (us:List Value) (k:Nat) (cs:Array Value),k + us.length = cs.size->((us.zipIdx k).foldl (fun cs (p:Value × Nat)=>cs.setIfInBounds p.2 p.1) cs).toList = cs.toList.take k ++ us
 | [],k,cs,h=>by simp at h; subst h; simp [<- Array.length_toList]
 | u :: r,k,cs,h=>by
  rw [List.zipIdx_cons,List.foldl_cons]
  simp only [List.length_cons] at h
  rw [fill_list r (k + 1) _ (by simp; omega)]
  simp only [Array.toList_setIfInBounds]
  rw [take_set_self (by simp; omega),List.append_assoc]
  rfl
theorem run_buildSlice_one {P:Program} (w:World) (t e:TypeId) (i:TypeInfo) (z:Value) (us:List Value) (ht:P.underlying t = some (.slice e)) (hi:P.info? e = some i) (hz:i.zero = some z) (hs:i.size = us.length) (h0:0 < us.length) (h24:us.length<=16777216) :
  (Instr.buildSlice t 1 #[(0,.agg us.toArray)]).run P w = .ok (.slice (some ⟨w.heap.size,0,none⟩) 1 1) (w.alloc (.cells us.toArray e)):=by
 have hsz:(sizeOf e).run P w = .ok us.length w:=by simp [sizeOf,typeInfo,hi,hs]
 have hzv:(zeroValue e).run P w = .ok z w:=by simp [zeroValue,typeInfo,hi,hz]
 have hfill:∀ cs:Array Value,cs.size = us.length->Instr.fill (fun i=>some (i * us.length,us.length)) cs [(0,Value.agg us.toArray)] = some us.toArray:=by
  intro cs hc
  have hu:(Value.agg us.toArray).cells = us.toArray:=rfl
  have hlast:=fill_list us 0 cs (by omega)
  simp only [List.take_zero,List.nil_append] at hlast
  have hfold:(Value.agg us.toArray).cells.zipIdx.foldl (fun cs (p:Value × Nat)=>cs.setIfInBounds p.2 p.1) cs = us.toArray:=by
   apply Array.toList_inj.1
   rw [hu,<- Array.foldl_toList]
   simpa using hlast
  unfold Instr.fill
  simp only [Nat.zero_mul,Nat.zero_add]
  rw [if_neg (by simp [hu,hc])]
  unfold Instr.fill
  exact congrArg some hfold
 unfold Instr.buildSlice
 have h24':¬ (1 * us.length > 2 ^ 24):=by omega
 have h0':¬ (1 * us.length = 0):=by omega
 simp only [Sem.run_bind,run_underlying ht,Result.andThen_ok,hsz,h24',h0',if_false,hzv,Sem.run_pure]
 rw [hfill _ (by simp)]
 simp only [newRow,Sem.run_bind,run_newObj,Result.andThen_ok,Sem.run_pure]
 rfl
theorem step_buildSlice_one {P:Program} {w:World} {ops:Array Oper} {o:Oper} {a:Act} {K:Act->World->Prop} {Q:Exit->Act->World->Prop} {E:Prop} (hgd:o.guard = none) (t e:TypeId) (x:Operand) (ho:o.op = .buildSlice t 1 #[(0,x)]) (i:TypeInfo) (z:Value) (us:List Value) (hx:a.eval x = .agg us.toArray)
  (ht:P.underlying t = some (.slice e)) (hi:P.info? e = some i) (hz:i.zero = some z) (hs:i.size = us.length) (h0:0 < us.length) (h24:us.length<=16777216)
  (h:K (a.put o.dst (.slice (some ⟨w.heap.size,0,none⟩) 1 1)) (w.alloc (.cells us.toArray e))):if Region.wanted o (yielded ops a.tmps) = true then Oper.wp P o a w K Q else E:=by
 have hw:Region.wanted o (yielded ops a.tmps) = true:=by simp [Region.wanted,hgd]
 rw [if_pos hw]
 unfold Oper.wp execOp
 have hr:=run_buildSlice_one (P:=P) w t e i z us ht hi hz hs h0 h24
 simp only [ho,List.map_toArray,List.map_cons,List.map_nil,hx,Sem.run_bind,hr,Result.andThen_ok,Sem.run_pure]
 exact h
theorem wpList_buildSlice_one {P:Program} {w:World} {ops:Array Oper} {rest:List Oper} {o:Oper} {a:Act} {Q:Exit->Act->World->Prop} (hgd:o.guard = none) (t e:TypeId) (x:Operand) (ho:o.op = .buildSlice t 1 #[(0,x)]) (i:TypeInfo) (z:Value) (us:List Value) (hx:a.eval x = .agg us.toArray)
  (ht:P.underlying t = some (.slice e)) (hi:P.info? e = some i) (hz:i.zero = some z) (hs:i.size = us.length) (h0:0 < us.length) (h24:us.length<=16777216)
  (h:wpList P ops Q rest (a.put o.dst (.slice (some ⟨w.heap.size,0,none⟩) 1 1)) (w.alloc (.cells us.toArray e))):wpList P ops Q (o :: rest) a w:=by
 refine wpList_plain hgd fun K hK=>?_
 have hw:Region.wanted o (yielded ops a.tmps) = true:=by simp [Region.wanted,hgd]
 have q:=step_buildSlice_one (K:=K) (Q:=Q) (E:=False) (ops:=ops) hgd t e x ho i z us hx ht hi hz hs h0 h24 (hK _ _ h)
 rw [if_pos hw] at q
 exact q
theorem keeps_setCells (b:Nat):∀ (vs:List Value) (o:Nat) (w:World),Keeps (fun k=>k = b) w (w.setCells b o vs)
 | [],_,w=>Keeps.refl _ w
 | v :: r,o,w=>Keeps.trans (keeps_setCell w b o v) (keeps_setCells b r (o + 1) _) (fun _ _ e=>e)
theorem setCells_row {b:Nat} {t:TypeId}:∀ (vs:List Value) (o:Nat) (w:World) (C:Array Value),w.heap[b]? = some (.cells C t (0,0))->∃ C',(w.setCells b o vs).heap[b]? = some (.cells C' t (0,0))/\C'.size = C.size
 | [],_,_,C,h=>⟨C,h,rfl⟩
 | v :: r,o,w,C,h=>by
  obtain ⟨C',h1,h2⟩:=setCells_row r (o + 1) _ _ (setCell_row h o v)
  exact ⟨C',h1,by rw [h2]; simp⟩
theorem Dur.set {W:World} {g:Nat} {D:List (List UInt8)} (h:Dur W g D) (hD:∀ (i:Nat) (t:List UInt8),D[i]? = some t->t.length = 256) {p n:Nat} {s:List UInt8} (hp:p < D.length) (hn:n<=256) (hs:s.length = 256) :
  Dur (W.setCells g (p * 256) (Lib.byteCells (s.take n))) g (D.set p (tornBy (D.getD p []) s n)):=by
 obtain ⟨C,hC,hz⟩:=h.blk
 obtain ⟨C',hC',hz'⟩:=setCells_row (Lib.byteCells (s.take n)) (p * 256) W C hC
 have hl:(Lib.byteCells (s.take n)).length = n:=by rw [Lib.byteCells_length,List.length_take]; omega
 refine ⟨⟨C',hC',by rw [hz',hz,List.length_set]⟩,fun i t hi=>?_⟩
 rw [List.getElem?_set] at hi
 split at hi
 ·rename_i e
  subst e
  first | (rw [if_pos hp] at hi; injection hi with hi; subst hi) | (injection hi with hi; subst hi)
  have hold:D[p]? = some (D.getD p []):=by simp [List.getD,hp]
  intro j v hj
  unfold tornBy at hj
  rw [Lib.byteCells_append] at hj
  by_cases hjn:j < n
  ·rw [List.getElem?_append_left (by omega)] at hj
   have:=World.rangeAt_setCells_same W g (p * 256) (Lib.byteCells (s.take n)) (fun q hq=>?_) j v hj
   ·exact this
   ·have hq2:q < 256:=by omega
    exact ⟨(h.rng p _ hold).isSome q (by rw [Lib.byteCells_length,hD p _ hold]; exact hq2),frozen_of_row hC _⟩
  ·rw [List.getElem?_append_right (by omega),hl] at hj
   have hj':(Lib.byteCells (D.getD p []))[j]? = some v:=by
    simp only [Lib.byteCells,List.map_drop,List.getElem?_drop] at hj
    rw [show n + (j - n) = j by omega] at hj
    exact hj
   have hlj:=(List.getElem?_eq_some_iff.1 hj').1
   rw [World.cell?_setCells_out g _ (p * 256) W ⟨g,p * 256 + j,none⟩ (fun _ _=>.inr (by show p * 256 + (Lib.byteCells (s.take n)).length<=p * 256 + j; omega))]
   exact h.rng p _ hold j v hj'
 ·rename_i e
  have hti:=hD i t hi
  refine World.rangeAt_setCells_apart (h.rng i t hi) g (p * 256) _ (.inr ?_)
  rw [hl,Lib.byteCells_length,hti]
  rcases Nat.lt_or_gt_of_ne e with e | e
  ·right; have:p * 256 + 256<=i * 256:=by omega
   omega
  ·left; omega
end Go.Proofs.YthjjfjhajadimaaGreatDoor
