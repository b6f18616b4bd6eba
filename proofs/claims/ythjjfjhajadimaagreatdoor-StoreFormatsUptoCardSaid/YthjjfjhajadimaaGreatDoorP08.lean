/-
  Joined: DAt, DSmall, Conv, DRead.
-/
import Derived.Test.YthjjfjhajadimaaGreatDoorP07
import Derived.Maps.OwnSet
import Derived.Maps.Views
import Derived.Deep.MidRow
import Derived.Deep.QuietTactic
import Derived.BigQuiet
import Derived.IntWalk
import Derived.Outline
import Derived.Laws.BytesArg
import Derived.Laws.BytesString
import Derived.Laws.Rows
namespace Go.Proofs.YthjjfjhajadimaaGreatDoor
open Go.RowKit
open Go.Maps (Keyed string_keyed int_keyed)
set_option maxRecDepth 100000
structure Dur (W:World) (g:Nat) (D:List (List UInt8)):Prop where
 blk:∃ C,W.heap[g]? = some (.cells C 125 (0,0))/\C.size = D.length * 256
 rng:∀ (i:Nat) (s:List UInt8),D[i]? = some s->W.rangeAt g (i * 256) (Lib.byteCells s)
def wayCells (w:Nat × List UInt8):List Value:=.int .i64 w.1 :: Lib.byteCells w.2
def waysCells (ws:List (Nat × List UInt8)):List Value:=ws.flatMap wayCells
theorem wayCells_length {w:Nat × List UInt8} (h:w.2.length = 256):(wayCells w).length = 257:=by simp [wayCells,Lib.byteCells_length,h]
theorem waysCells_snoc (ws:List (Nat × List UInt8)) (w:Nat × List UInt8):waysCells (ws ++ [w]) = waysCells ws ++ wayCells w:=by simp [waysCells]
theorem wayCells_one (w:Nat × List UInt8):∀ u ∈ wayCells w,u.oneCell' = true:=by
 intro u hu
 rcases List.mem_cons.1 hu with rfl | hu
 ·rfl
 ·obtain ⟨c,_,rfl⟩:=List.mem_map.1 hu; rfl
theorem byteCells_one1 (l:List UInt8):∀ u ∈ Lib.byteCells l,u.oneCell' = true:=by
 intro u hu
 obtain ⟨c,_,rfl⟩:=List.mem_map.1 hu; rfl
theorem flatMap_get {α:Type} (f:α->List Value) (m:Nat):∀ (l:List α),(∀ (k:Nat) (w:α),l[k]? = some w->(f w).length = m)->∀ (k:Nat) (w:α),l[k]? = some w->∀ (j:Nat) (v:Value),(f w)[j]? = some v->(l.flatMap f)[k * m + j]? = some v
 | [],_,k,w,hk,_,_,_=>by simp at hk
 | a :: r,h,0,w,hk,j,v,hj=>by
  simp at hk
  subst hk
  have hl:=(List.getElem?_eq_some_iff.1 hj).1
  rw [List.flatMap_cons,List.getElem?_append_left (by omega)]
  simpa using hj
 | a :: r,h,k + 1,w,hk,j,v,hj=>by
  have hl:(f a).length = m:=h 0 a rfl
  rw [List.flatMap_cons,List.getElem?_append_right (by rw [hl,Nat.succ_mul]; omega),hl]
  rw [show (k + 1) * m + j - m = k * m + j by rw [Nat.succ_mul]; omega]
  exact flatMap_get f m r (fun k w hk=>h (k + 1) w hk) k w (by simpa using hk) j v hj
structure MapsTo (D:DataW Unit) (ws:List (Nat × List UInt8)):Prop where
 has:∀ p:Nat,Maps.has D (.int .i64 p) = (lastAt ws p).isSome
 at':∀ (p k:Nat),lastAt ws p = some k->D.atKey (.int .i64 p) (.lit (.int .i64 0)) = .lit (.int .i64 k)
theorem MapsTo.nil:MapsTo (.map []) []:=⟨fun p=>rfl,fun p k h=>by cases h⟩
def diskCells (gd mb:Nat) (uv:Value) (d:DS):Array Value :=
 #[.slice (some ⟨gd,0,none⟩) d.dur.length d.dur.length,uv,.map (some mb),.int .i64 d.armed,.bool d.off,.int .i64 d.wr,.int .i64 d.fl,.int .i64 d.cr]
structure DiskP (W:World) (b gd mb:Nat) (uv:Value) (d:DS):Prop where
 ok:d.Ok
 cells:W.heap[b]? = some (.cells (diskCells gd mb uv d) 110 (0,0))
 dur:Dur W gd d.dur
 ways:W.ownsRow 0 156 257 uv d.ways.length (waysCells d.ways)
 map:∃ D,W.ownsMap Tryz.prog 3 (plainElem Tryz.prog 3) mb d.ways.length D/\MapsTo D d.ways
def foot (b gd mb:Nat) (uv:Value) (k:Nat):Prop:=k = b\/k = gd\/k = mb\/uv.ownBlock = some k
def DiskAt (W:World) (b:Nat) (d:DS) (S:Nat->Prop):Prop:=∃ gd mb uv,DiskP W b gd mb uv d/\∀ k,foot b gd mb uv k->S k
def Grow (S:Nat->Prop) (w w':World) (k:Nat):Prop:=S k\/(w.heap.size<=k/\k < w'.heap.size)
theorem DiskAt.mono {W:World} {b:Nat} {d:DS} {S T:Nat->Prop} (h:DiskAt W b d S) (hT:∀ k,S k->T k):DiskAt W b d T:=by
 obtain ⟨gd,mb,uv,h,hS⟩:=h
 exact ⟨gd,mb,uv,h,fun k hk=>hT k (hS k hk)⟩
theorem DiskP.lt {W:World} {b gd mb:Nat} {uv:Value} {d:DS} (h:DiskP W b gd mb uv d):∀ k,foot b gd mb uv k->k < W.heap.size:=by
 rintro k (rfl | rfl | rfl | hk)
 ·exact lt_of_block h.cells
 ·obtain ⟨C,hC,_⟩:=h.dur.blk; exact lt_of_block hC
 ·obtain ⟨D,hD,_⟩:=h.map; exact hD.lt
 ·exact ownsRow_lt h.ways hk
theorem Dur.kept {S:Nat->Prop} {W W':World} {g:Nat} {D:List (List UInt8)} (h:Dur W g D) (hk:Keeps S W W') (hS:¬ S g):Dur W' g D:=by
 obtain ⟨C,hC,hs⟩:=h.blk
 have hg:=lt_of_block hC
 refine ⟨⟨C,(hk.block g hg hS).trans hC,hs⟩,fun i s hi j v hj=>?_⟩
 rw [hk.cell (p:=⟨g,i * 256 + j,none⟩) hg hS]
 exact h.rng i s hi j v hj
theorem ownsMap_kept {S:Nat->Prop} {W W':World} {b n:Nat} {k:TypeId} {R:Value->Option (DataW Unit × List MemPlace)} {D:DataW Unit} (h:W.ownsMap Tryz.prog k R b n D) (hk:Keeps S W W') (hS:¬ S b):W'.ownsMap Tryz.prog k R b n D:=by
 have hlt:=h.lt
 obtain ⟨es,clock,hb,r⟩:=h
 exact ⟨es,clock,(hk.block b hlt hS).trans hb,r⟩
theorem DiskP.kept {S:Nat->Prop} {W W':World} {b gd mb:Nat} {uv:Value} {d:DS} (h:DiskP W b gd mb uv d) (hk:Keeps S W W') (hS:∀ k,foot b gd mb uv k->¬ S k):DiskP W' b gd mb uv d:=by
 obtain ⟨D,hD,hm⟩:=h.map
 exact ⟨h.ok,(hk.block b (lt_of_block h.cells) (hS b (.inl rfl))).trans h.cells,h.dur.kept hk (hS gd (.inr (.inl rfl))),ownsRow_kept h.ways hk (fun k e=>hS k (.inr (.inr (.inr e)))),D,ownsMap_kept hD hk (hS mb (.inr (.inr (.inl rfl)))),hm⟩
theorem DiskAt.kept {S T:Nat->Prop} {W W':World} {b:Nat} {d:DS} (h:DiskAt W b d S) (hk:Keeps T W W') (hS:∀ k,S k->¬ T k):DiskAt W' b d S:=by
 obtain ⟨gd,mb,uv,h,hf⟩:=h
 exact ⟨gd,mb,uv,h.kept hk (fun k e=>hS k (hf k e)),hf⟩
theorem DiskAt.qt {S:Nat->Prop} {W W':World} {b:Nat} {d:DS} (h:DiskAt W b d S) (hk:Qt W W'):DiskAt W' b d S:=h.kept hk (fun _ _ e=>e)
theorem DiskAt.ok {S:Nat->Prop} {W:World} {b:Nat} {d:DS} (h:DiskAt W b d S):d.Ok:=by
 obtain ⟨gd,mb,uv,h,hf⟩:=h; exact h.ok
theorem DiskP.apart {W:World} {b gd mb:Nat} {uv:Value} {d:DS} (h:DiskP W b gd mb uv d):b ≠ gd/\b ≠ mb/\gd ≠ mb/\uv.ownBlock ≠ some b/\uv.ownBlock ≠ some gd/\uv.ownBlock ≠ some mb:=by
 obtain ⟨C,hC,_⟩:=h.dur.blk
 obtain ⟨D,⟨es,clock,hm,_⟩,_⟩:=h.map
 have hb:=h.cells
 have hu:∀ k,uv.ownBlock = some k->∃ cur,W.heap[k]? = some (.cells cur 156 (0,0)):=by
  intro k hk
  rcases h.ways.2 with ⟨e,_⟩ | ⟨g,cap,cur,e,_,hg,_⟩
  ·rw [e] at hk; cases hk
  ·rw [e] at hk
   have:g = k:=by simpa [Value.ownBlock] using hk
   subst this
   exact ⟨cur,hg⟩
 refine ⟨?_,?_,?_,?_,?_,?_⟩
 ·rintro rfl; rw [hC] at hb; injection hb with hb; injection hb with _ e; cases e
 ·rintro rfl; rw [hm] at hb; injection hb with hb; cases hb
 ·rintro rfl; rw [hm] at hC; injection hC with hC; cases hC
 ·intro e; obtain ⟨cur,hc⟩:=hu b e; rw [hc] at hb; injection hb with hb; injection hb with _ e; cases e
 ·intro e; obtain ⟨cur,hc⟩:=hu gd e; rw [hc] at hC; injection hC with hC; injection hC with _ e; cases e
 ·intro e; obtain ⟨cur,hc⟩:=hu mb e; rw [hc] at hm; injection hm with hm; cases hm
theorem DiskP.cell {W:World} {b gd mb:Nat} {uv:Value} {d:DS} (h:DiskP W b gd mb uv d) (i:Nat) (v:Value) (hi:(diskCells gd mb uv d)[i]? = some v):W.cell? ⟨b,i,none⟩ = some v:=by
 rw [cell_of_row W b i _ _ _ h.cells]; exact hi
theorem frozen_of_row {W:World} {b:Nat} {C:Array Value} {t:TypeId} (h:W.heap[b]? = some (.cells C t (0,0))) (i:Nat):W.frozen? ⟨b,i,none⟩ = false:=Lib.frozen_of_heap h i
theorem setCell_row {W:World} {b:Nat} {C:Array Value} {t:TypeId} (h:W.heap[b]? = some (.cells C t (0,0))) (i:Nat) (v:Value):(W.setCell ⟨b,i,none⟩ v).heap[b]? = some (.cells (C.setIfInBounds i v) t (0,0)):=by
 rw [setCell_eq_setRow W b i C t (0,0) v h]
 exact setRow_heap W b _ _ t _ h
theorem keeps_setCell (W:World) (b i:Nat) (v:Value):Keeps (fun k=>k = b) W (W.setCell ⟨b,i,none⟩ v):=(Keeps.refl (fun k=>k = b) W).setCell (p:=⟨b,i,none⟩) (fun _=>rfl) v
theorem DiskP.turn {W W':World} {b gd mb:Nat} {uv:Value} {d d':DS} (h:DiskP W b gd mb uv d) (hk:Keeps (fun k=>k = b) W W') (hc:W'.heap[b]? = some (.cells (diskCells gd mb uv d') 110 (0,0))) (ho:d'.Ok) (h1:d'.dur = d.dur) (h2:d'.ways = d.ways):DiskP W' b gd mb uv d':=by
 obtain ⟨a1,a2,a3,a4,a5,a6⟩:=h.apart
 obtain ⟨D,hD,hm⟩:=h.map
 refine ⟨ho,hc,?_,?_,D,?_,?_⟩
 ·rw [h1]; exact h.dur.kept hk (fun e=>a1 e.symm)
 ·rw [h2]; exact ownsRow_kept h.ways hk (fun k e1 e2=>by subst e2; exact a4 e1)
 ·rw [h2]; exact ownsMap_kept hD hk (fun e=>a2 e.symm)
 ·rw [h2]; exact hm
end Go.Proofs.YthjjfjhajadimaaGreatDoor
namespace Go.Proofs.YthjjfjhajadimaaGreatDoor
open Go.RowKit
set_option maxRecDepth 100000
section
variable {w:World} {b gd mb:Nat} {uv:Value} {d:DS}
theorem off_p (h:DiskP w b gd mb uv d):Calls Tryz.prog 43 #[.pointer (some ⟨b,0,none⟩)] w fun e w'=>e = .returned (.bool d.off)/\w = w':=by
 have c4:=h.cell 4 _ rfl
 clear h
 go_enter Tryz.func43,Tryz.ntmps43
 go_wp2
 go_ret
 exact ⟨rfl,rfl⟩
theorem size_p (h:DiskP w b gd mb uv d):Calls Tryz.prog 108 #[.pointer (some ⟨b,0,none⟩)] w fun e w'=>e = .returned (.int .i64 d.dur.length)/\w = w':=by
 have c0:w.cell? ⟨b,0,none⟩ = some (.slice (some ⟨gd,0,none⟩) d.dur.length d.dur.length):=h.cell 0 _ rfl
 clear h
 go_enter Tryz.func108,Tryz.ntmps108
 go_wp2
 go_ret
 exact ⟨rfl,rfl⟩
theorem own_slice {W:World} {e:TypeId} {m:Nat} {v:Value} {n:Nat} {xs:List Value} (h:W.ownsRow 0 e m v n xs):∃ a c,v = .slice a n c/\n<=c:=by
 rcases h.2 with ⟨rfl,h0⟩ | ⟨g,cap,cur,rfl,_,_,hc,_⟩
 ·exact ⟨none,0,by rw [h0],by omega⟩
 ·exact ⟨_,cap,rfl,hc⟩
theorem pending_p (h:DiskP w b gd mb uv d):Calls Tryz.prog 18 #[.pointer (some ⟨b,0,none⟩)] w fun e w'=>e = .returned (.int .i64 d.ways.length)/\w = w':=by
 obtain ⟨a,c,rfl,_⟩:=own_slice h.ways
 have c0:w.cell? ⟨b,1,none⟩ = some (.slice a d.ways.length c):=h.cell 1 _ rfl
 clear h
 go_enter Tryz.func18,Tryz.ntmps18
 go_wp2
 go_ret
 exact ⟨rfl,rfl⟩
theorem reach_p (ad:Nat->Addr) (hE:Errs ad w) (h:DiskP w b gd mb uv d) (i:Int) :
  Calls Tryz.prog 168 #[.pointer (some ⟨b,0,none⟩),.int .i64 i] w fun e w'=>e = .returned (errV ad (d.reach i))/\w = w':=by
 have c0:w.cell? ⟨b,0,none⟩ = some (.slice (some ⟨gd,0,none⟩) d.dur.length d.dur.length):=h.cell 0 _ rfl
 have c4:w.cell? ⟨b,4,none⟩ = some (.bool d.off):=h.cell 4 _ rfl
 have e6:w.cell? ⟨0,0,none⟩ = some (.iface 335 (.pointer (some (ad 6)))):=hE.cells 5 _ rfl
 have e12:w.cell? ⟨6,0,none⟩ = some (.iface 335 (.pointer (some (ad 12)))):=hE.cells 11 _ rfl
 have fin:=Lib.hid (show d.reach i = if d.off then 12 else if i < 0\/d.dur.length<=i then 6 else 0 from rfl)
 have v6:=Lib.hid (show errV ad 6 = .iface 335 (.pointer (some (ad 6))) from rfl)
 have v12:=Lib.hid (show errV ad 12 = .iface 335 (.pointer (some (ad 12))) from rfl)
 clear h hE
 generalize d.dur.length = n at *
 cases ho:d.off with
 | true =>
  rw [ho] at c4 fin
  clear ho
  go_enter Tryz.func168,Tryz.ntmps168
  go_wp2
  go_ret
  exact ⟨by rw [fin.out]; exact congrArg _ v12.out.symm,rfl⟩
 | false =>
  rw [ho] at c4 fin
  clear ho
  by_cases h0:i < 0
  ·go_enter Tryz.func168,Tryz.ntmps168
   go_wp2
   go_ret
   exact ⟨by rw [fin.out,if_neg (by simp),if_pos (.inl (by assumption))]; exact congrArg _ v6.out.symm,rfl⟩
  ·have h0':decide (i < 0) = false:=decide_eq_false h0
   by_cases h1:(n:Int)<=i
   ·go_enter Tryz.func168,Tryz.ntmps168
    go_wp2
    go_ret
    exact ⟨by rw [fin.out,if_neg (by simp),if_pos (.inr (by assumption))]; exact congrArg _ v6.out.symm,rfl⟩
   ·have h1':decide ((n:Int)<=i) = false:=decide_eq_false h1
    go_enter Tryz.func168,Tryz.ntmps168
    go_wp2
    go_ret
    exact ⟨by rw [fin.out,if_neg (by simp),if_neg (by omega)]; rfl,rfl⟩
def DS.goes (d:DS):DS:=if d.armed = 0 then { d with off:=true } else { d with armed:=dec d.armed }
theorem DS.Ok.goes {d:DS} (h:d.Ok):d.goes.Ok:=by
 have hd:=dec_le h.a0
 have:=h.a1
 unfold DS.goes
 split
 ·exact ⟨h.pos,h.le,h.each,h.way,h.a0,h.a1⟩
 ·exact ⟨h.pos,h.le,h.each,h.way,hd.1,by simp only; omega⟩
set_option maxHeartbeats 800000 in
theorem goes_p (h:DiskP w b gd mb uv d) :
  Calls Tryz.prog 230 #[.pointer (some ⟨b,0,none⟩)] w fun e w'=>e = .returned (.bool (decide (d.armed = 0)))/\DiskP w' b gd mb uv d.goes/\Keeps (fun k=>k = b) w w':=by
 have c3:w.cell? ⟨b,3,none⟩ = some (.int .i64 d.armed):=h.cell 3 _ rfl
 have c4:w.cell? ⟨b,4,none⟩ = some (.bool d.off):=h.cell 4 _ rfl
 have f3:=frozen_of_row h.cells 3
 have f4:=frozen_of_row h.cells 4
 have hok:=h.ok.goes
 have a0:=h.ok.a0
 have a1:=h.ok.a1
 have H:=Lib.hid h
 clear h
 by_cases h0:d.armed = 0
 ·have fin:=Lib.hid (show d.goes = { d with off:=true } from if_pos h0)
  have hb:(d.armed == 0) = true:=beq_iff_eq.2 h0
  have K:=Lib.hid h0
  clear h0
  go_enter Tryz.func230,Tryz.ntmps230
  go_wp2
  go_ret
  have hk:=keeps_setCell w b 4 (.bool true)
  refine ⟨by rw [decide_eq_true K.out]; rfl,?_,hk⟩
  refine H.out.turn hk ?_ hok (by rw [fin.out]) (by rw [fin.out])
  rw [setCell_row H.out.cells,fin.out]
  rfl
 ·have hb:(d.armed == 0) = false:=beq_eq_false_iff_ne.2 h0
  by_cases h1:0 < d.armed
  ·have fin:=Lib.hid (show d.goes = { d with armed:=d.armed - 1 } by unfold DS.goes dec; rw [if_neg h0,if_pos h1])
   have K:=Lib.hid h0
   clear h0
   go_enter Tryz.func230,Tryz.ntmps230
   go_wp2
   go_ret
   have hk:=keeps_setCell w b 3 (.int .i64 (d.armed - 1))
   refine ⟨by rw [decide_eq_false K.out]; rfl,?_,hk⟩
   refine H.out.turn hk ?_ hok (by rw [fin.out]) (by rw [fin.out])
   rw [setCell_row H.out.cells,fin.out]
   rfl
  ·have fin:=Lib.hid (show d.goes = d by unfold DS.goes dec; rw [if_neg h0,if_neg h1])
   have K:=Lib.hid h0
   have h1':decide (0 < d.armed) = false:=decide_eq_false h1
   clear h0
   go_enter Tryz.func230,Tryz.ntmps230
   go_wp2
   go_ret
   refine ⟨by rw [decide_eq_false K.out]; rfl,?_,Keeps.refl _ _⟩
   rw [fin.out]
   exact H.out
theorem arm_p (h:DiskP w b gd mb uv d) (k:Int) (hk0:k<=9223372036854775807) :
  Calls Tryz.prog 42 #[.pointer (some ⟨b,0,none⟩),.int .i64 k] w fun e w'=>e = .returned (.tuple #[])/\DiskP w' b gd mb uv (d.armD k)/\Keeps (fun k=>k = b) w w':=by
 have c3:w.cell? ⟨b,3,none⟩ = some (.int .i64 d.armed):=h.cell 3 _ rfl
 have f3:=frozen_of_row h.cells 3
 have H:=Lib.hid h
 have hok:=Lib.hid (h.ok.arm hk0)
 clear h
 go_enter Tryz.func42,Tryz.ntmps42
 go_wp2
 ·go_end0
  have hk:=keeps_setCell w b 3 (.int .i64 (-1))
  have e:max k (-1) = -1:=by omega
  refine ⟨rfl,H.out.turn hk ?_ hok.out rfl rfl,hk⟩
  rw [setCell_row H.out.cells]
  simp only [DS.armD,diskCells,e]
  rfl
 ·go_end0
  have hk:=keeps_setCell w b 3 (.int .i64 k)
  have e:max k (-1) = k:=by omega
  refine ⟨rfl,H.out.turn hk ?_ hok.out rfl rfl,hk⟩
  rw [setCell_row H.out.cells]
  simp only [DS.armD,diskCells,e]
  rfl
def DS.forgot (d:DS):DS:={ d with ways:=[] }
theorem forget_p (h:DiskP w b gd mb uv d) :
  Calls Tryz.prog 80 #[.pointer (some ⟨b,0,none⟩)] w fun e w'=>e = .returned (.tuple #[])/\DiskP w' b gd w.heap.size (.slice none 0 0) d.forgot/\Keeps (fun k=>k = b) w w':=by
 have hmm:=@run_makeMap Tryz.prog
 have c1:w.cell? ⟨b,1,none⟩ = some uv:=h.cell 1 _ rfl
 have c2:w.cell? ⟨b,2,none⟩ = some (.map (some mb)):=h.cell 2 _ rfl
 have f1:=frozen_of_row h.cells 1
 have f2:=frozen_of_row h.cells 2
 have hb:=lt_of_block h.cells
 have H:=Lib.hid h
 clear h
 go_enter Tryz.func80,Tryz.ntmps80
 go_wp2
 go_end0
 have hk:=Keeps.trans (keeps_setCell w b 1 (.slice none 0 0)) (keeps_setCell (w.setCell ⟨b,1,none⟩ (.slice none 0 0)) b 2 (.map (some w.heap.size))) (fun _ _ e=>e)
 have hr:=setCell_row (setCell_row H.out.cells 1 (.slice none 0 0)) 2 (.map (some w.heap.size))
 have hz:((w.setCell ⟨b,1,none⟩ (.slice none 0 0)).setCell ⟨b,2,none⟩ (.map (some w.heap.size))).heap.size = w.heap.size:=by simp [World.setCell]
 generalize (w.setCell ⟨b,1,none⟩ (.slice none 0 0)).setCell ⟨b,2,none⟩ (.map (some w.heap.size)) = W2 at *
 have hk2:=hk.alloc (.map #[] 0)
 refine ⟨rfl,?_,hk2⟩
 obtain ⟨a1,a2,a3,a4,a5,a6⟩:=H.out.apart
 have ho:=H.out.ok
 refine ⟨⟨ho.pos,ho.le,ho.each,fun k w hk=>by simp [DS.forgot] at hk,ho.a0,ho.a1⟩,?_,H.out.dur.kept hk2 (fun e=>a1 e.symm),World.ownsRow_nil _ 0 _ 257,.map [],?_,MapsTo.nil⟩
 ·rw [Below.heap_alloc _ _ _ (by omega),hr]
  rfl
 ·have hm:=World.ownsMap_made W2 Tryz.prog 3 (plainElem (H:=Unit) Tryz.prog 3)
  rw [hz] at hm
  exact hm
def Bools (W:World) (v:Value) (l:List Bool):Prop:=∃ a c,v = .slice a l.length c/\∀ (k:Nat) (x:Bool),l[k]? = some x->∃ g o,a = some ⟨g,o,none⟩/\W.cell? ⟨g,o + k,none⟩ = some (.bool x)
theorem Bools.kept {S:Nat->Prop} {W W':World} {v:Value} {l:List Bool} (h:Bools W v l) (hk:Keeps S W W') (hS:∀ a n c,v = .slice (some a) n c->n ≠ 0->¬ S a.block):Bools W' v l:=by
 obtain ⟨a,c,rfl,hc⟩:=h
 refine ⟨a,c,rfl,fun k x hx=>?_⟩
 obtain ⟨g,o,rfl,h1⟩:=hc k x hx
 exact ⟨g,o,rfl,hk.cellv (p:=⟨g,o + k,none⟩) h1 (show ¬ S g from hS ⟨g,o,none⟩ _ _ rfl (by have:=(List.getElem?_eq_some_iff.1 hx).1; omega))⟩
theorem Bools.qt {W W':World} {v:Value} {l:List Bool} (h:Bools W v l) (hk:Qt W W'):Bools W' v l:=h.kept hk (fun _ _ _ _ _ e=>e)
theorem Bools.block {W:World} {v:Value} {l:List Bool} (h:Bools W v l) (a:Addr) (n c:Nat) (e:v = .slice (some a) n c) (hn:n ≠ 0):a.block < W.heap.size:=by
 obtain ⟨a',c',rfl,hc⟩:=h
 injection e with e1 e2 _
 subst e1
 have hl:0 < l.length:=by omega
 obtain ⟨g,o,e3,h1⟩:=hc 0 l[0] (List.getElem?_eq_getElem hl)
 injection e3 with e3
 subst e3
 exact World.block_lt_of_cell? W _ h1
def fateV (v:Value) (f:FT):Value:=.agg #[v,.int .i64 f.torn,.int .i64 f.bytes]
set_option maxHeartbeats 800000 in
theorem done_any (v:Value) (f:FT) (k:Nat) (w:World) (hv:Bools w v f.kept) :
  Calls Tryz.prog 79 #[fateV v f,.int .i64 k] w fun e w'=>e = .returned (.int .i64 (f.done k))/\Qt w w':=by
 obtain ⟨a,c,rfl,hc⟩:=hv
 obtain ⟨kept,torn,bytes⟩:=f
 simp only [fateV] at *
 by_cases h0:(k:Int) = torn
 ·have fin:=Lib.hid (show FT.done ⟨kept,torn,bytes⟩ k = (min (max bytes 0) 256).toNat from if_pos h0)
  have hb:((k:Int) == torn) = true:=beq_iff_eq.2 h0
  have K:=Lib.hid h0
  clear h0 hc
  go_enter Tryz.func79,Tryz.ntmps79
  go_wp2
  all_goals
   go_ret
   rw [fin.out]
   refine ⟨?_,(Qt.refl w).alloc _⟩
   refine congrArg Ending.returned (congrArg (Value.int .i64) ?_)
   omega
 ·have hb:((k:Int) == torn) = false:=beq_eq_false_iff_ne.2 h0
  by_cases h1:k < kept.length
  ·obtain ⟨g,o,rfl,hcell⟩:=hc k kept[k] (List.getElem?_eq_getElem h1)
   have fin:=Lib.hid (show FT.done ⟨kept,torn,bytes⟩ k = if kept[k] = true then 256 else 0 by unfold FT.done; rw [if_neg h0]; simp [List.getD,h1])
   have K:=Lib.hid h0
   clear h0 hc
   have hcell2:(w.alloc (.cells #[.slice (some ⟨g,o,none⟩) kept.length c,.int .i64 torn,.int .i64 bytes] 41)).cell? ⟨g,o + k,none⟩ = some (.bool kept[k]):=Qt.cellv ((Qt.refl w).alloc _) hcell
   have hlt:decide (k < kept.length) = true:=decide_eq_true h1
   generalize kept[k] = x at *
   generalize kept.length = n at *
   clear hcell
   cases x with
   | true =>
    go_enter Tryz.func79,Tryz.ntmps79
    go_wp2
    go_ret
    exact ⟨by rw [fin.out]; rfl,(Qt.refl w).alloc _⟩
   | false =>
    go_enter Tryz.func79,Tryz.ntmps79
    go_wp2
    go_ret
    exact ⟨by rw [fin.out]; rfl,(Qt.refl w).alloc _⟩
  ·have fin:=Lib.hid (show FT.done ⟨kept,torn,bytes⟩ k = 0 by unfold FT.done; rw [if_neg h0]; simp [List.getD,h1])
   have K:=Lib.hid h0
   have hlt:decide (k < kept.length) = false:=decide_eq_false h1
   generalize kept.length = n at *
   clear h0 hc
   go_enter Tryz.func79,Tryz.ntmps79
   go_wp2
   go_ret
   exact ⟨by rw [fin.out]; rfl,(Qt.refl w).alloc _⟩
end
end Go.Proofs.YthjjfjhajadimaaGreatDoor
namespace Go.Proofs.YthjjfjhajadimaaGreatDoor
open Go.RowKit Go.WideShapes
open Go.Maps (Keyed string_keyed int_keyed keyOf_int_mk)
set_option maxRecDepth 100000
theorem zeroInt (w:World):(zeroValue 3).run Tryz.prog w = .ok (.int .i64 0) w:=by kernel_rfl
theorem keyInt:Keyed Tryz.prog 3:=int_keyed Tryz.underlying3
theorem key_nat {i:Nat} (h:i<=65536):keyOf Tryz.prog 3 (.int .i64 i) = some (.int .i64 i):=keyOf_int_mk Tryz.underlying3 (WalkArith.wf_i64 ⟨by omega,by omega⟩)
theorem strOfNums_nat (l:List UInt8):strOfNums (l.map fun b=>((b.toNat:Nat):Int)) = ⟨l.toArray⟩:=by
 unfold strOfNums
 rw [List.map_map]
 congr 2
 conv=>rhs; rw [<- List.map_id l]
 apply List.map_congr_left
 intro b _
 simp
theorem conv_at {w:World} {g o:Nat} {l:List UInt8} (h:w.rangeAt g o (Lib.byteCells l)) (n cap:Nat) (hn:l.length = n):(convert 111 9 (.slice (some ⟨g,o,none⟩) n cap)).run Tryz.prog w = .ok (.string ⟨l.toArray⟩) w:=by
 subst hn
 have h1:=run_convert_bytes_arg (P:=Tryz.prog) w 111 5 Tryz.underlying111 Tryz.underlying5 g o l.length cap (l.map fun b=>((b.toNat:Nat):Int)) (by simp) (fun i hi=>by
  rw [h i (.int .u8 (l[i].toNat)) (by simp [Lib.byteCells,hi])]
  simp [List.getD,hi]) 9 Tryz.underlying9
 rw [strOfNums_nat] at h1
 exact h1
theorem way_range {w:World} {g c:Nat} {ws:List (Nat × List UInt8)} {n:Nat} (h:w.ownsRow 0 156 257 (.slice (some ⟨g,0,none⟩) n c) n (waysCells ws)) (hw:∀ (k:Nat) (x:Nat × List UInt8),ws[k]? = some x->x.2.length = 256) {k:Nat} {x:Nat × List UInt8} (hk:ws[k]? = some x):w.rangeAt g (k * 257) (wayCells x):=by
 intro j v hj
 have h1:=(World.ownsRowF_of h).cells (g:=g) rfl (k * 257 + j) v (flatMap_get wayCells 257 ws (fun k x hx=>wayCells_length (hw k x hx)) k x hk j v hj)
 rw [add_plain,Nat.zero_add] at h1
 exact h1
theorem range_tail {w:World} {g o:Nat} {v:Value} {l:List Value} (h:w.rangeAt g o (v :: l)):w.rangeAt g (o + 1) l:=fun j u hj=>by
 have:=h (j + 1) u (by simpa using hj)
 rwa [show o + (j + 1) = o + 1 + j by omega] at this
section
variable {w:World} {b gd mb:Nat} {uv:Value} {d:DS}
theorem read_none (ad:Nat->Addr) (hE:Errs ad w) (h:DiskP w b gd mb uv d) (i:Nat) (hr:d.reach i = 0) (hl:lastAt d.ways i = none) :
  Calls Tryz.prog 110 #[.pointer (some ⟨b,0,none⟩),.int .i64 i] w fun e w'=>e = .returned (.tuple #[.string ⟨(d.read i).toArray⟩,.nilIface])/\w = w':=by
 have c0:w.cell? ⟨b,0,none⟩ = some (.slice (some ⟨gd,0,none⟩) d.dur.length d.dur.length):=h.cell 0 _ rfl
 have c2:w.cell? ⟨b,2,none⟩ = some (.map (some mb)):=h.cell 2 _ rfl
 obtain ⟨D,hD,hm⟩:=h.map
 have hh:=hm.has i
 rw [hl] at hh
 obtain ⟨_,_,hi⟩:=DS.reach_zero hr
 have hi:i < d.dur.length:=by omega
 have hle:=h.ok.le
 have hkey:=key_nat (i:=i) (by omega)
 have hrd:d.read i = d.dur.getD i []:=(readTo_last d.dur d.ways i).1 hl
 have hget:d.dur[i]? = some (d.read i):=by rw [hrd]; simp [List.getD,hi]
 have hcv:=conv_at (h.dur.rng i _ hget) 256 256 (h.ok.each i _ hget)
 obtain ⟨s,hs⟩:∃ s,d.read i = s:=⟨_,rfl⟩
 have HS:=Lib.hid hs
 rw [hs] at hcv
 go_enter Tryz.func110,Tryz.ntmps110
 go_wp2_with fail
 refine (reach_p ad hE h i).mono ?_
 rintro e w' ⟨rfl,rfl⟩
 rw [hr,errV_zero]
 have HH:=Lib.hid hh
 have Hw:=Lib.hid hD
 clear hh hr hl hE h hm hrd hget hD hs
 go_wp2_with (at_lookup; refine wpList_lookup_own_ok_int _ rfl _ _ 107 rfl 3 3 .i64 keyInt Tryz.underlying107 Tryz.underlying3 (zeroInt _) mb _ D rfl Hw.out _ _ rfl hkey ?_; intro c hat hwc; rw [HH.out]; clear hat hwc)
 go_ret2
 exact ⟨by rw [HS.out]; rfl,rfl⟩
theorem read_some (ad:Nat->Addr) (hE:Errs ad w) (h:DiskP w b gd mb uv d) (i k:Nat) (hr:d.reach i = 0) (hl:lastAt d.ways i = some k) :
  Calls Tryz.prog 110 #[.pointer (some ⟨b,0,none⟩),.int .i64 i] w fun e w'=>e = .returned (.tuple #[.string ⟨(d.read i).toArray⟩,.nilIface])/\w = w':=by
 have hk:=lastAt_lt hl
 obtain ⟨x,hx,hrd⟩:=(readTo_last d.dur d.ways i).2 k hl
 obtain ⟨g,cap,hv⟩:∃ g cap,uv = .slice (some ⟨g,0,none⟩) d.ways.length cap:=by
  rcases h.ways.2 with ⟨_,h0⟩ | ⟨g,cap,cur,e,_⟩
  ·omega
  ·exact ⟨g,cap,e⟩
 subst hv
 have c1:w.cell? ⟨b,1,none⟩ = some (.slice (some ⟨g,0,none⟩) d.ways.length cap):=h.cell 1 _ rfl
 have c2:w.cell? ⟨b,2,none⟩ = some (.map (some mb)):=h.cell 2 _ rfl
 obtain ⟨D,hD,hm⟩:=h.map
 have hh:=hm.has i
 have ha:=hm.at' i k hl
 rw [hl] at hh
 obtain ⟨_,_,hi⟩:=DS.reach_zero hr
 have hi:i < d.dur.length:=by omega
 have hle:=h.ok.le
 have hkey:=key_nat (i:=i) (by omega)
 have hxl:=(h.ok.way k x hx).2
 have hrd:d.read i = x.2:=hrd
 have hcv:=conv_at (range_tail (way_range h.ways (fun k x hx=>(h.ok.way k x hx).2) hx)) 256 256 hxl
 go_enter Tryz.func110,Tryz.ntmps110
 go_wp2_with fail
 refine (reach_p ad hE h i).mono ?_
 rintro e w' ⟨rfl,rfl⟩
 rw [hr,errV_zero]
 have HH:=Lib.hid hh
 have HA:=Lib.hid ha
 have Hw:=Lib.hid hD
 have HR:=Lib.hid hrd
 clear hh hr hl hE h hm hrd hx ha hD
 obtain ⟨s,hs⟩:∃ s,x.2 = s:=⟨_,rfl⟩
 rw [hs] at hcv
 have HS:=Lib.hid hs
 clear hs
 go_wp2_with (at_lookup; refine wpList_lookup_own_ok_int _ rfl _ _ 107 rfl 3 3 .i64 keyInt Tryz.underlying107 Tryz.underlying3 (zeroInt _) mb _ D rfl Hw.out _ _ rfl hkey ?_; intro c hat hwc; rw [HA.out] at hat; injection hat with hat; injection hat with _ hat; subst hat; rw [HH.out]; clear hwc)
 go_ret2
 exact ⟨by rw [HR.out,HS.out]; rfl,rfl⟩
def DS.readE (d:DS) (i:Int):List UInt8:=if d.reach i = 0 then d.read i.toNat else []
theorem errV_ne {ad:Nat->Addr} {n:Nat} (h:n ≠ 0):errV ad n = .iface 335 (.pointer (some (ad n))):=errV_pos ad (by omega)
theorem read_err (ad:Nat->Addr) (hE:Errs ad w) (h:DiskP w b gd mb uv d) (i:Int) (hr:d.reach i ≠ 0) :
  Calls Tryz.prog 110 #[.pointer (some ⟨b,0,none⟩),.int .i64 i] w fun e w'=>e = .returned (.tuple #[.string ⟨#[]⟩,errV ad (d.reach i)])/\w = w':=by
 have hv:=errV_ne (ad:=ad) hr
 go_enter Tryz.func110,Tryz.ntmps110
 go_wp2_with fail
 refine (reach_p ad hE h i).mono ?_
 rintro e w' ⟨rfl,rfl⟩
 have HV:=Lib.hid hv
 rw [hv]
 clear hv hr hE h
 go_wp2
 go_ret2
 exact ⟨by rw [HV.out]; rfl,rfl⟩
theorem read_p (ad:Nat->Addr) (hE:Errs ad w) (h:DiskP w b gd mb uv d) (i:Int) :
  Calls Tryz.prog 110 #[.pointer (some ⟨b,0,none⟩),.int .i64 i] w fun e w'=>e = .returned (.tuple #[.string ⟨(d.readE i).toArray⟩,errV ad (d.reach i)])/\w = w':=by
 by_cases hr:d.reach i = 0
 ·obtain ⟨h1,h2,h3⟩:=DS.reach_zero hr
  obtain ⟨j,rfl⟩:=Int.eq_ofNat_of_zero_le h2
  have e1:d.readE j = d.read j:=by unfold DS.readE; rw [if_pos hr]; simp
  rw [e1,hr,errV_zero]
  cases hl:lastAt d.ways j with
  | none=>exact read_none ad hE h j hr hl
  | some k=>exact read_some ad hE h j k hr hl
 ·have e1:d.readE i = []:=if_neg hr
  rw [e1]
  exact read_err ad hE h i hr
end
end Go.Proofs.YthjjfjhajadimaaGreatDoor
