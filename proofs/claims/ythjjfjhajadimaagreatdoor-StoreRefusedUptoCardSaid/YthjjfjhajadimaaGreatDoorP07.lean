/-
  Joined: WireU, BWrit, BEncC, AppList, CompErr, Qt.
-/
import Derived.RegionTactic
import Derived.ChangeAlike
import Derived.Lib.UnsafeStr
import Derived.LoopTactic
import Derived.WalkLawsBesides
import Derived.WalkSpells
import Derived.Laws.BitsAllLaws
import Derived.Test.YthjjfjhajadimaaGreatDoorP06
import Derived.OwnWalk
import Derived.Deep.AppendLies
import Derived.LaidEql
namespace Go.Proofs.YthjjfjhajadimaaGreatDoor
open Go.RowKit
set_option maxRecDepth 100000
theorem own:ownKnob Tryz.prog.godebug = none:=by kernel_rfl
theorem infoByte:(Tryz.prog.info? 5).map (fun i=>(i.zero,i.size,i.bytes)) = some (some (.int .u8 0),1,1):=by kernel_rfl
theorem infoBuilder:(Tryz.prog.info? 121).map (·.size) = some 2:=by kernel_rfl
theorem liesBuilder:liesAt Tryz.prog Tryz.prog.depth 263 (2 / Tryz.prog.cellsOf 263) 0 121 1 = true:=by kernel_rfl
theorem cellsByte:Tryz.prog.cellsOf 5 = 1:=by kernel_rfl
def Wr (b:Nat) (r:Option Nat) (l:List UInt8) (w:World):Prop :=
 ∃ p v,(p = .pointer none\/p = .pointer (some ⟨b,0,none⟩))/\w.heap[b]? = some (.cells #[p,v] 263 (0,0))/\w.ownsRowF 0 5 1 v l.length (Lib.byteCells l)/\v.ownBlock = r/\r ≠ some b
def WrU (b:Nat) (r:Option Nat) (l:List UInt8) (w:World):Prop :=
 ∃ v,w.heap[b]? = some (.cells #[.pointer (some ⟨b,0,none⟩),v] 263 (0,0))/\w.ownsRowF 0 5 1 v l.length (Lib.byteCells l)/\v.ownBlock = r/\r ≠ some b
theorem WrU.wr {b:Nat} {r:Option Nat} {l:List UInt8} {w:World} (h:WrU b r l w):Wr b r l w:=by
 obtain ⟨v,h1,h2,h3,h4⟩:=h
 exact ⟨_,v,.inr rfl,h1,h2,h3,h4⟩
structure Kept (b:Nat) (r r':Option Nat) (w w':World):Prop where
 keeps:Keeps (fun k=>k = b\/some k = r) w w'
 later:Later w r r'
theorem Kept.refl (b:Nat) (r:Option Nat) (w:World):Kept b r r w w:=⟨Keeps.refl _ _,Later.refl _ _⟩
theorem Kept.trans {b:Nat} {r r1 r2:Option Nat} {w w1 w2:World} (h:Kept b r r1 w w1) (k:Kept b r1 r2 w1 w2):Kept b r r2 w w2:=by
 refine ⟨h.keeps.trans k.keeps ?_,h.later.trans h.keeps.size k.later⟩
 rintro i hi (e | e)
 ·exact .inl e
 ·rcases h.later with hr | ⟨g,hr,hg⟩
  ·exact .inr (by rw [e,hr])
  ·rw [hr] at e; injection e with e; omega
theorem Kept.alloc {b:Nat} {r r1:Option Nat} {w w1:World} (h:Kept b r r1 w w1) (o:Obj):Kept b r r1 w (w1.alloc o):=⟨h.keeps.alloc o,h.later⟩
theorem Wr.lt {b:Nat} {r:Option Nat} {l:List UInt8} {w:World} (h:Wr b r l w):b < w.heap.size:=by
 obtain ⟨p,v,_,hb,_⟩:=h
 exact lt_of_block hb
theorem Wr.rlt {b:Nat} {r:Option Nat} {l:List UInt8} {w:World} (h:Wr b r l w) {k:Nat} (hk:r = some k):k < w.heap.size:=by
 obtain ⟨p,v,_,_,hown,rfl,_⟩:=h
 exact ownsRowF_lt hown hk
theorem Wr.kept {S:Nat->Prop} {b:Nat} {r:Option Nat} {l:List UInt8} {w w':World} (h:Wr b r l w) (hk:Keeps S w w') (hb:¬ S b) (hr:∀ k,r = some k->¬ S k):Wr b r l w':=by
 obtain ⟨p,v,hp,hbk,hown,hv,hne⟩:=h
 exact ⟨p,v,hp,by rw [hk.block b (lt_of_block hbk) hb]; exact hbk,ownsRowF_kept hown hk (fun k e=>hr k (hv ▸ e)),hv,hne⟩
theorem Wr.drew {b:Nat} {r:Option Nat} {l:List UInt8} {w:World} (h:Wr b r l w):Wr b r l w.drew:=h.kept (S:=fun _=>False) ((Keeps.refl _ _).drew) (fun h=>h) (fun _ _ h=>h)
theorem Wr.alloc {b:Nat} {r:Option Nat} {l:List UInt8} {w:World} (h:Wr b r l w) (o:Obj):Wr b r l (w.alloc o):=h.kept (S:=fun _=>False) ((Keeps.refl _ _).alloc o) (fun h=>h) (fun _ _ h=>h)
theorem byteCells_append (l m:List UInt8):Lib.byteCells (l ++ m) = Lib.byteCells l ++ Lib.byteCells m:=by simp [Lib.byteCells]
theorem strCells_eq (s:ByteArray):Lib.strCells s = Lib.byteCells s.data.toList:=rfl
set_option maxHeartbeats 1000000 in
theorem copyCheck_used (b:Nat) (w:World) (h0:w.cell? ⟨b,0,none⟩ = some (.pointer (some ⟨b,0,none⟩))) :
  Calls Tryz.prog 103 #[.pointer (some ⟨b,0,none⟩)] w fun e w'=>e = .returned (.tuple #[])/\w = w':=by
 obtain ⟨j,hj,_⟩:=Option.map_eq_some_iff.1 infoBuilder
 go_enter Tryz.func103,Tryz.ntmps103
 go_wp2
 rw [Lib.run_neq_ptr_same w _ Tryz.underlying119 hj]
 go_wp2
 go_end0
 exact ⟨rfl,rfl⟩
set_option maxHeartbeats 1000000 in
theorem copyCheck_fresh (b:Nat) (w:World) (h0:w.cell? ⟨b,0,none⟩ = some (.pointer none)) (hsh:w.shape? b = some (263,2)) (hfz:w.frozen? ⟨b,0,none⟩ = false) :
  Calls Tryz.prog 103 #[.pointer (some ⟨b,0,none⟩)] w fun e w'=>e = .returned (.tuple #[])/\w.setCell ⟨b,0,none⟩ (.pointer (some ⟨b,0,none⟩)) = w':=by
 obtain ⟨j,hj,hjs⟩:=Option.map_eq_some_iff.1 infoBuilder
 go_enter Tryz.func103,Tryz.ntmps103
 go_wp2
 rw [Lib.run_to_unsafe w ⟨b,0,none⟩ Tryz.underlying119 Tryz.underlying228 hj (by rw [hjs]; decide) hsh (Nat.zero_lt_succ 1)]
 simp only [Result.andThen]
 rw [Oper.upon_value]
 go_wp2
 rw [run_callFunc_extern Tryz.func160 (by kernel_rfl) (by kernel_rfl) (by kernel_rfl) (e:=Extern.AbiNoEscape.same) (by kernel_rfl)]
 rw [Lib.run_noEscape]
 simp only [Result.andThen]
 rw [Oper.upon_value]
 go_wp2
 rw [Lib.run_from_unsafe w ⟨b,0,none⟩ Tryz.underlying228 Tryz.underlying119 hj hsh liesBuilder]
 simp only [Result.andThen]
 rw [Oper.upon_value]
 go_wp2
 go_end0
 exact ⟨rfl,rfl⟩
theorem copyCheck_any (b:Nat) (r:Option Nat) (l:List UInt8) (w:World) (h:Wr b r l w) :
  Calls Tryz.prog 103 #[.pointer (some ⟨b,0,none⟩)] w fun e w'=>e = .returned (.tuple #[])/\WrU b r l w'/\Kept b r r w w':=by
 obtain ⟨p,v,hp,hb,hown,hv,hne⟩:=h
 rcases hp with rfl | rfl
 ·refine (copyCheck_fresh b w (by rw [Lib.cell_of_heap hb]; rfl) (by simp [World.shape?,hb]) (Lib.frozen_of_heap hb 0)).mono ?_
  rintro e w' ⟨rfl,rfl⟩
  refine ⟨rfl,⟨v,?_,?_,hv,hne⟩,⟨(Keeps.refl _ _).setCell (fun _=>.inl rfl) _,Later.refl _ _⟩⟩
  ·simp [World.setCell,Array.getElem?_modify,hb]
  ·refine ownsRowF_kept hown ((Keeps.refl (fun k=>k = b) _).setCell (p:=⟨b,0,none⟩) (fun _=>rfl) _) (fun k hk e=>hne ?_)
   rw [<- hv,hk,e]
 ·refine (copyCheck_used b w (by rw [Lib.cell_of_heap hb]; rfl)).mono ?_
  rintro e w' ⟨rfl,rfl⟩
  exact ⟨rfl,⟨v,hb,hown,hv,hne⟩,Kept.refl _ _ _⟩
theorem WrU.put {b:Nat} {v v':Value} {l':List UInt8} {w:World} (hb:w.heap[b]? = some (.cells #[.pointer (some ⟨b,0,none⟩),v] 263 (0,0))) (hown:w.ownsRowF 0 5 1 v' l'.length (Lib.byteCells l')) (hne:v'.ownBlock ≠ some b) :
  WrU b v'.ownBlock l' (w.setCell ⟨b,1,none⟩ v'):=by
 refine ⟨v',?_,?_,rfl,hne⟩
 ·simp [World.setCell,Array.getElem?_modify,hb]
 ·exact ownsRowF_kept hown ((Keeps.refl (fun k=>k = b) _).setCell (p:=⟨b,1,none⟩) (fun _=>rfl) _) (fun k hk e=>hne (by rw [hk,e]))
def Wrote (b:Nat) (r:Option Nat) (l':List UInt8) (w w':World):Prop:=∃ r',Wr b r' l' w'/\Kept b r r' w w'
theorem Wrote.of_put {b:Nat} {r:Option Nat} {v v':Value} {l':List UInt8} {w w1 w2 w3:World} (hk:Kept b r r w w1) (hb:w1.heap[b]? = some (.cells #[.pointer (some ⟨b,0,none⟩),v] 263 (0,0))) (hv:v.ownBlock = r) (hne:r ≠ some b)
  (h12:Keeps (fun _=>False) w1 w2) (hg:w2.grownBy w3 v.ownBlock) (hl:Later w2 v.ownBlock v'.ownBlock) (hown:w3.ownsRowF 0 5 1 v' l'.length (Lib.byteCells l')):Wrote b r l' w (w3.setCell ⟨b,1,none⟩ v'):=by
 have hlt:=lt_of_block hb
 have hb2:w2.heap[b]? = some (.cells #[.pointer (some ⟨b,0,none⟩),v] 263 (0,0)):=by rw [h12.block b hlt (fun h=>h)]; exact hb
 have hb3:w3.heap[b]? = some (.cells #[.pointer (some ⟨b,0,none⟩),v] 263 (0,0)):=by rw [hg.block b (lt_of_block hb2) (by rw [hv]; exact fun e=>hne e.symm)]; exact hb2
 have hne':v'.ownBlock ≠ some b:=by
  rcases hl with e | ⟨g,e,hge⟩
  ·rw [e,hv]; exact hne
  ·rw [e]; intro h; injection h with h; have:=lt_of_block hb2; omega
 refine ⟨_,(WrU.put hb3 hown hne').wr,hk.trans ⟨?_,?_⟩⟩
 ·refine Keeps.setCell ?_ (p:=⟨b,1,none⟩) (fun _=>.inl rfl) _
  exact (h12.mono (fun _ _ h=>h.elim)).grown hg (fun k _ e=>.inr (by rw [e,hv]))
 ·rw [hv] at hl
  exact hl.of_le h12.size
set_option maxHeartbeats 2000000 in
theorem writeByte_any (b:Nat) (r:Option Nat) (l:List UInt8) (c:UInt8) (w:World) (h:Wr b r l w) (hlen:l.length + 1<=140737488355328) :
  Calls Tryz.prog 234 #[.pointer (some ⟨b,0,none⟩),.int .u8 c.toNat] w fun e w'=>e = .returned .nilIface/\Wrote b r (l ++ [c]) w w':=by
 obtain ⟨i0,hi,hz0,hz1,hz2⟩:=info_parts infoByte
 go_enter Tryz.func234,Tryz.ntmps234
 go_wp2_with fail
 refine (copyCheck_any b r l _ h).mono ?_
 rintro e w1 ⟨rfl,⟨v,hbk,hown,hv,hne⟩,hk⟩
 have c0:w1.cell? ⟨b,0,none⟩ = some (.pointer (some ⟨b,0,none⟩)):=by rw [Lib.cell_of_heap hbk]; rfl
 have c1:w1.cell? ⟨b,1,none⟩ = some v:=by rw [Lib.cell_of_heap hbk]; rfl
 have hk':=Lib.hid hk; clear hk
 have hv':=Lib.hid hv; clear hv
 go_wp2_with (at_builtin; refine wpList_append_cellsF _ rfl _ _ 111 rfl 5 i0 (.int .u8 0) 1 1 Tryz.underlying111 hi hz0 hz1 hz2 rfl (by decide) _ _ _ rfl (ownsRowF_kept hown ((Keeps.refl (fun _=>False) _).alloc _) (fun _ _ h=>h)) ⟨w1.heap.size,0,none⟩ 1 1 [.int .u8 c.toNat] rfl rfl ?c1 ?c2 ?c3 ?c4 ?_)
 case c1 =>
  intro j u hj
  match j,hj with
  | 0,hj=>simp at hj; subst hj; simp [Addr.add]
 case c2=>intro u hu; simp at hu; subst hu; rfl
 case c3=>unfold maxLen; omega
 case c4=>omega
 intro v' w2 hown' hgrow hlater _
 have hlt:b < w1.heap.size:=lt_of_block hbk
 have hb2:w2.heap[b]? = some (.cells #[.pointer (some ⟨b,0,none⟩),v] 263 (0,0)):=by
  rw [hgrow.block b (by simp; omega) (fun e=>hne (by rw [<- hv'.out]; exact e.symm)),Lib.alloc_old w1 _ b hlt]
  exact hbk
 have d0:w2.cell? ⟨b,0,none⟩ = some (.pointer (some ⟨b,0,none⟩)):=by rw [Lib.cell_of_heap hb2]; rfl
 have d1:w2.cell? ⟨b,1,none⟩ = some v:=by rw [Lib.cell_of_heap hb2]; rfl
 have f1:w2.frozen? ⟨b,1,none⟩ = false:=Lib.frozen_of_heap hb2 1
 have fin:Wrote b r (l ++ [c]) w (w2.setCell ⟨b,1,none⟩ v'):=Wrote.of_put hk'.out hbk hv'.out hne ((Keeps.refl _ _).alloc _) hgrow hlater (by rw [byteCells_append,List.length_append]; exact hown')
 obtain ⟨ao,n',cap,rfl⟩:∃ ao n' cap,v' = .slice ao n' cap:=by
  rcases hown'.2 with ⟨hv,_⟩ | ⟨g,cap,cur,fz,hv,_⟩
  ·exact ⟨_,_,_,hv⟩
  ·exact ⟨_,_,_,hv⟩
 clear hown' hgrow hlater
 have fin':=Lib.hid fin; clear fin
 go_wp2
 go_ret
 exact ⟨rfl,fin'.out⟩
set_option maxHeartbeats 2000000 in
theorem writeString_any (b:Nat) (r:Option Nat) (l:List UInt8) (s:ByteArray) (w:World) (h:Wr b r l w) (hlen:l.length + s.size<=140737488355328) :
  Calls Tryz.prog 198 #[.pointer (some ⟨b,0,none⟩),.string s] w fun e w'=>e = .returned (.tuple #[.int .i64 s.size,.nilIface])/\Wrote b r (l ++ s.data.toList) w w':=by
 obtain ⟨i0,hi,hz0,hz1,hz2⟩:=info_parts infoByte
 go_enter Tryz.func198,Tryz.ntmps198
 go_wp2_with fail
 refine (copyCheck_any b r l _ h).mono ?_
 rintro e w1 ⟨rfl,⟨v,hbk,hown,hv,hne⟩,hk⟩
 have c0:w1.cell? ⟨b,0,none⟩ = some (.pointer (some ⟨b,0,none⟩)):=by rw [Lib.cell_of_heap hbk]; rfl
 have c1:w1.cell? ⟨b,1,none⟩ = some v:=by rw [Lib.cell_of_heap hbk]; rfl
 have hk':=Lib.hid hk; clear hk
 have hv':=Lib.hid hv; clear hv
 go_wp2_with (at_builtin; refine wpList_append_strF _ rfl _ _ 111 9 rfl 5 i0 Tryz.underlying111 Tryz.underlying9 hi hz0 hz1 hz2 _ _ _ rfl hown s rfl ?c3 ?c4 ?_)
 case c3=>unfold maxLen; omega
 case c4=>omega
 intro v' w2 hown' hgrow hlater _
 have hlt:b < w1.heap.size:=lt_of_block hbk
 have hb2:w2.heap[b]? = some (.cells #[.pointer (some ⟨b,0,none⟩),v] 263 (0,0)):=by
  rw [hgrow.block b hlt (fun e=>hne (by rw [<- hv'.out]; exact e.symm))]
  exact hbk
 have d0:w2.cell? ⟨b,0,none⟩ = some (.pointer (some ⟨b,0,none⟩)):=by rw [Lib.cell_of_heap hb2]; rfl
 have d1:w2.cell? ⟨b,1,none⟩ = some v:=by rw [Lib.cell_of_heap hb2]; rfl
 have f1:w2.frozen? ⟨b,1,none⟩ = false:=Lib.frozen_of_heap hb2 1
 have fin:Wrote b r (l ++ s.data.toList) w (w2.setCell ⟨b,1,none⟩ v'):=Wrote.of_put hk'.out hbk hv'.out hne (Keeps.refl _ _) hgrow hlater (by rw [byteCells_append]; simpa [strCells_eq] using hown')
 obtain ⟨ao,n',cap,rfl⟩:∃ ao n' cap,v' = .slice ao n' cap:=by
  rcases hown'.2 with ⟨hv,_⟩ | ⟨g,cap,cur,fz,hv,_⟩
  ·exact ⟨_,_,_,hv⟩
  ·exact ⟨_,_,_,hv⟩
 clear hown' hgrow hlater
 have fin':=Lib.hid fin; clear fin
 go_wp2
 go_ret2
 exact ⟨rfl,fin'.out⟩
theorem Wrote.trans {b:Nat} {r r1:Option Nat} {l2:List UInt8} {w w1 w2:World} (h:Kept b r r1 w w1) (k:Wrote b r1 l2 w1 w2):Wrote b r l2 w w2:=by
 obtain ⟨r2,h2,k2⟩:=k
 exact ⟨r2,h2,h.trans k2⟩
theorem bstring_nil (b:Nat) (p:Value) (w:World) (hbk:w.heap[b]? = some (.cells #[p,.slice none 0 0] 263 (0,0))) :
  Calls Tryz.prog 63 #[.pointer (some ⟨b,0,none⟩)] w fun e w'=>e = .returned (.string ⟨#[]⟩)/\w.drew = w':=by
 have hUS:=fun W:World=>Lib.run_unsafeString_none (P:=Tryz.prog) W 175 3 9 none
 have c1:w.drew.cell? ⟨b,1,none⟩ = some (.slice none 0 0):=by
  have:w.drew.heap[b]? = some (.cells #[p,.slice none 0 0] 263 (0,0)):=hbk
  rw [Lib.cell_of_heap this]; rfl
 have hSD:=fun W:World=>Lib.run_unsafeSliceData_nil (P:=Tryz.prog) W #[111] 175 0 0
 go_enter Tryz.func63,Tryz.ntmps63
 go_wp2
 go_region
 all_goals (go_wp2; go_ret; exact ⟨rfl,rfl⟩)
theorem bstring_noroom (b g:Nat) (p:Value) (cur:Array Value) (fz:Nat × Nat) (w:World) (hbk:w.heap[b]? = some (.cells #[p,.slice (some ⟨g,0,none⟩) 0 0] 263 (0,0))) (hg:w.heap[g]? = some (.cells cur 5 fz)) :
  Calls Tryz.prog 63 #[.pointer (some ⟨b,0,none⟩)] w fun e w'=>e = .returned (.string ⟨#[]⟩)/\(w.alloc (.view ⟨g,0,none⟩ 5)).drew = w':=by
 have hUS:=fun (W:World) (q:Option Addr)=>Lib.run_unsafeString_none (P:=Tryz.prog) W 175 3 9 q
 have hlt:b < w.heap.size:=lt_of_block hbk
 have c1:w.drew.cell? ⟨b,1,none⟩ = some (.slice (some ⟨g,0,none⟩) 0 0):=by
  have:w.drew.heap[b]? = some (.cells #[p,.slice (some ⟨g,0,none⟩) 0 0] 263 (0,0)):=hbk
  rw [Lib.cell_of_heap this]; rfl
 have hSD:(Builtin.unsafeSliceData_ #[111] 175 #[.slice (some ⟨g,0,none⟩) 0 0]).run Tryz.prog w.drew = .ok (.pointer (some ⟨w.drew.heap.size,0,none⟩)) (w.drew.alloc (.view ⟨g,0,none⟩ 5)) :=
  Lib.run_unsafeSliceData_zero w.drew _ _ 5 Tryz.underlying175 ⟨g,0,none⟩ 0 (5,cur.size) (by have hg':w.drew.heap[g]? = some (.cells cur 5 fz):=hg; simp [World.shape?,hg'])
 have c2:(w.drew.alloc (.view ⟨g,0,none⟩ 5)).cell? ⟨b,1,none⟩ = some (.slice (some ⟨g,0,none⟩) 0 0):=by
  have:(w.drew.alloc (.view ⟨g,0,none⟩ 5)).heap[b]? = _:=(Lib.alloc_old w.drew _ b hlt).trans hbk
  rw [Lib.cell_of_heap this]; rfl
 have c3:(w.alloc (.view ⟨g,0,none⟩ 5)).drew.cell? ⟨b,1,none⟩ = some (.slice (some ⟨g,0,none⟩) 0 0):=c2
 have c0:w.cell? ⟨b,1,none⟩ = some (.slice (some ⟨g,0,none⟩) 0 0):=c1
 go_enter Tryz.func63,Tryz.ntmps63
 go_wp2
 go_region
 all_goals (go_wp2; go_ret; exact ⟨rfl,rfl⟩)
theorem bstring_room (b g cap:Nat) (p:Value) (w:World) (hc0:cap ≠ 0) (hbk:w.heap[b]? = some (.cells #[p,.slice (some ⟨g,0,none⟩) 0 cap] 263 (0,0))) :
  Calls Tryz.prog 63 #[.pointer (some ⟨b,0,none⟩)] w fun e w'=>e = .returned (.string ⟨#[]⟩)/\w.drew = w':=by
 have hUS:=fun (W:World) (q:Option Addr)=>Lib.run_unsafeString_none (P:=Tryz.prog) W 175 3 9 q
 have c1:w.drew.cell? ⟨b,1,none⟩ = some (.slice (some ⟨g,0,none⟩) 0 cap):=by
  have:w.drew.heap[b]? = some (.cells #[p,.slice (some ⟨g,0,none⟩) 0 cap] 263 (0,0)):=hbk
  rw [Lib.cell_of_heap this]; rfl
 have hSD:=fun W:World=>Lib.run_unsafeSliceData_row (P:=Tryz.prog) W #[111] 175 ⟨g,0,none⟩ 0 cap hc0
 clear hc0
 go_enter Tryz.func63,Tryz.ntmps63
 go_wp2
 go_region
 all_goals (go_wp2; go_ret; exact ⟨rfl,rfl⟩)
theorem bstring_full (b g cap:Nat) (p:Value) (cur:Array Value) (fz:Nat × Nat) (l:List UInt8) (w:World) (h0:l ≠ []) (hbk:w.heap[b]? = some (.cells #[p,.slice (some ⟨g,0,none⟩) l.length cap] 263 (0,0))) (hg:w.heap[g]? = some (.cells cur 5 fz))
  (hnc:l.length<=cap) (hcm:cap<=maxLen) (hcs:cur.size = cap * 1) (hcells:∀ j u,(Lib.byteCells l)[j]? = some u->w.cell? ((⟨g,0,none⟩:Addr).add j) = some u) :
  Calls Tryz.prog 63 #[.pointer (some ⟨b,0,none⟩)] w fun e w'=>e = .returned (.string ⟨l.toArray⟩)/\w.drew.freeze ⟨g,0,none⟩ l.length = w':=by
 have hl0:l.length ≠ 0:=by simpa using h0
 have c1:w.drew.cell? ⟨b,1,none⟩ = some (.slice (some ⟨g,0,none⟩) l.length cap):=by
  have:w.drew.heap[b]? = some (.cells #[p,.slice (some ⟨g,0,none⟩) l.length cap] 263 (0,0)):=hbk
  rw [Lib.cell_of_heap this]; rfl
 have hSD:(Builtin.unsafeSliceData_ #[111] 175 #[.slice (some ⟨g,0,none⟩) l.length cap]).run Tryz.prog w.drew = .ok (.pointer (some ⟨g,0,none⟩)) w.drew :=
  Lib.run_unsafeSliceData_row _ _ _ _ _ _ (by omega)
 have hUS:(Builtin.unsafeString_ #[175,3] 9 #[.pointer (some ⟨g,0,none⟩),.int .i64 l.length]).run Tryz.prog w.drew = .ok (.string ⟨l.toArray⟩) (w.drew.freeze ⟨g,0,none⟩ l.length):=by
  refine Lib.run_unsafeString_row w.drew 175 3 9 5 Tryz.underlying175 cellsByte g cur.size (by have hg':w.drew.heap[g]? = some (.cells cur 5 fz):=hg; simp [World.shape?,hg']) l h0 (by omega) (by unfold maxLen at hcm; omega) ?_
  intro j x hx
  exact hcells j (.int .u8 x.toNat) (by simp [Lib.byteCells,hx])
 clear hcells hnc hcm hcs hg hl0 h0 hbk
 go_enter Tryz.func63,Tryz.ntmps63
 go_wp2
 go_region
 all_goals (go_wp2; go_ret; exact ⟨rfl,rfl⟩)
theorem ownsRowF_frozen {e:TypeId} {g cap:Nat} {n:Nat} {xs:List Value} {w:World} (h:w.ownsRowF 0 e 1 (.slice (some ⟨g,0,none⟩) n cap) n xs):(w.freeze ⟨g,0,none⟩ n).ownsRowF 0 e 1 (.slice (some ⟨g,0,none⟩) n cap) n xs:=by
 unfold World.freeze
 split
 ·exact h
 ·rename_i hn0
  refine ⟨h.1,?_⟩
  rcases h.2 with ⟨hv,_⟩ | ⟨g',cap',cur,fz,hv,hbg,hg,hfz,rest⟩
  ·cases hv
  ·injection hv with ha _ hcap
   injection ha with ha
   injection ha with hgg _ _
   subst hgg
   subst hcap
   obtain ⟨lo,hi⟩:=fz
   refine .inr ⟨g,_,cur,(if lo == hi then (0,0 + n) else (min lo 0,max hi (0 + n))),rfl,hbg,?_,?_,rest⟩
   ·simp [Array.getElem?_modify,hg]
   ·simp only at hfz
    split <;> simp <;> omega
theorem bstring_any (b:Nat) (r:Option Nat) (l:List UInt8) (w:World) (h:Wr b r l w) :
  Calls Tryz.prog 63 #[.pointer (some ⟨b,0,none⟩)] w fun e w'=>e = .returned (.string ⟨l.toArray⟩)/\Wr b r l w'/\Keeps (fun k=>some k = r) w w':=by
 have h':=h
 obtain ⟨p,v,hp,hbk,hown,hv,hne⟩:=h
 rcases hown.2 with ⟨rfl,h0⟩ | ⟨g,cap,cur,fz,rfl,_,hg,hfz,hnc,hcm,hcs,htake⟩
 ·obtain rfl:l = []:=List.eq_nil_of_length_eq_zero h0
  refine (bstring_nil b p w hbk).mono ?_
  rintro e w' ⟨rfl,rfl⟩
  exact ⟨rfl,h'.drew,(Keeps.refl _ _).drew⟩
 ·by_cases hl:l = []
  ·subst hl
   by_cases hc0:cap = 0
   ·subst hc0
    refine (bstring_noroom b g p cur fz w hbk hg).mono ?_
    rintro e w' ⟨rfl,rfl⟩
    exact ⟨rfl,(h'.alloc _).drew,((Keeps.refl _ _).alloc _).drew⟩
   ·refine (bstring_room b g cap p w hc0 hbk).mono ?_
    rintro e w' ⟨rfl,rfl⟩
    exact ⟨rfl,h'.drew,(Keeps.refl _ _).drew⟩
  ·refine (bstring_full b g cap p cur fz l w hl hbk hg hnc hcm hcs (fun j u hj=>hown.cells rfl j u hj)).mono ?_
   rintro e w' ⟨rfl,rfl⟩
   have hk:Keeps (fun k=>some k = r) w (w.drew.freeze ⟨g,0,none⟩ l.length):=((Keeps.refl _ _).drew).freeze (p:=⟨g,0,none⟩) (fun _=>by rw [<- hv]; rfl) _
   refine ⟨rfl,⟨p,_,hp,?_,?_,hv,hne⟩,hk⟩
   ·rw [hk.block b (lt_of_block hbk) (fun e=>hne e.symm)]; exact hbk
   ·have hd:w.drew.ownsRowF 0 5 1 (.slice (some ⟨g,0,none⟩) l.length cap) l.length (Lib.byteCells l):=hown
    exact ownsRowF_frozen hd
theorem wnew_any (w:World):Calls Tryz.prog 136 #[] w fun e w'=>e = .returned (.pointer (some ⟨w.heap.size,0,none⟩))/\Wr w.heap.size none [] w'/\Keeps (fun _=>False) w w'/\w.heap.size < w'.heap.size:=by
 go_enter Tryz.func136,Tryz.ntmps136
 go_wp2
 go_ret
 refine ⟨rfl,⟨.pointer none,.slice none 0 0,.inl rfl,?_,World.ownsRowF_nil _ _ _ _,rfl,by simp⟩,(Keeps.refl _ _).alloc _,by simp⟩
 exact heap_alloc_new w _
theorem wout_any (b:Nat) (r:Option Nat) (l:List UInt8) (w:World) (h:Wr b r l w) :
  Calls Tryz.prog 139 #[.pointer (some ⟨b,0,none⟩)] w fun e w'=>e = .returned (.string ⟨l.toArray⟩)/\Wr b r l w'/\Keeps (fun k=>some k = r) w w':=by
 go_enter Tryz.func139,Tryz.ntmps139
 go_wp2_with fail
 refine (bstring_any b r l _ h).mono ?_
 rintro e w' ⟨rfl,h1,hk⟩
 go_wp2
 go_ret
 exact ⟨rfl,h1,hk⟩
theorem wbyte_any (b:Nat) (r:Option Nat) (l:List UInt8) (c:Int) (w:World) (h:Wr b r l w) (hlen:l.length + 1<=140737488355328) (hc0:0<=c) (hc1:c < 256) :
  Calls Tryz.prog 192 #[.pointer (some ⟨b,0,none⟩),.int .u8 c] w fun e w'=>e = .returned (.tuple #[])/\Wrote b r (l ++ [c.toNat.toUInt8]) w w':=by
 have hb:=writeByte_any b r l c.toNat.toUInt8 w h hlen
 rw [toUInt8_toNat (show c.toNat < 256 by omega),Int.toNat_of_nonneg hc0] at hb
 go_enter Tryz.func192,Tryz.ntmps192
 go_wp2_with fail
 refine hb.mono ?_
 rintro e w' ⟨rfl,h1⟩
 go_wp2
 go_end0
 exact ⟨rfl,h1⟩
theorem wbytes_any (b:Nat) (r:Option Nat) (l:List UInt8) (s:ByteArray) (w:World) (h:Wr b r l w) (hlen:l.length + s.size<=140737488355328) :
  Calls Tryz.prog 227 #[.pointer (some ⟨b,0,none⟩),.string s] w fun e w'=>e = .returned (.tuple #[])/\Wrote b r (l ++ s.data.toList) w w':=by
 go_enter Tryz.func227,Tryz.ntmps227
 go_wp2_with fail
 refine (writeString_any b r l s _ h hlen).mono ?_
 rintro e w' ⟨rfl,h1⟩
 go_wp2
 go_end0
 exact ⟨rfl,h1⟩
def UintAt (b:Nat) (r:Option Nat) (l:List UInt8) (x:Nat) (w:World) (v:Value) (wr:World):Prop :=
 ∃ (y:Nat) (r1:Option Nat) (pre:List UInt8),v = .int .u64 y/\y<=x/\Wr b r1 (l ++ pre) wr/\Kept b r r1 w wr/\Lib.uvarint x = pre ++ Lib.uvarint y
theorem UintAt.room {l pre:List UInt8} {x y:Nat} (hlen:l.length + 10<=140737488355328) (hx:x < 18446744073709551616) (hu:Lib.uvarint x = pre ++ Lib.uvarint y):(l ++ pre).length + 1<=140737488355328:=by
 have h1:=Lib.uvarint_length64 hx
 have h2:=Lib.uvarint_pos y
 rw [hu] at h1
 simp at h1 ⊢
 omega
theorem UintAt.more {b:Nat} {r r1:Option Nat} {l pre:List UInt8} {x y:Nat} {w wr w1:World} (hy:y<=x) (hb:128<=y) (hk:Kept b r r1 w wr) (hu:Lib.uvarint x = pre ++ Lib.uvarint y)
  {c:Int} (hc:c = (y:Int) % 128 + 128) (h1:Wrote b r1 ((l ++ pre) ++ [c.toNat.toUInt8]) wr w1):UintAt b r l x w (.int .u64 ((y:Int) / 128)) w1:=by
 obtain ⟨r2,h2,k2⟩:=h1
 obtain rfl:c = ((y % 128 + 128:Nat):Int):=by omega
 refine ⟨y / 128,r2,pre ++ [(y % 128 + 128).toUInt8],rfl,by omega,?_,hk.trans k2,?_⟩
 ·rw [Int.toNat_natCast] at h2; rw [<- List.append_assoc]; exact h2
 ·rw [hu,Lib.uvarint_big hb,List.append_assoc]; rfl
theorem UintAt.done {b:Nat} {r r1:Option Nat} {l pre:List UInt8} {x y:Nat} {w wr w1:World} (hb:y < 128) (hk:Kept b r r1 w wr) (hu:Lib.uvarint x = pre ++ Lib.uvarint y)
  (h1:Wrote b r1 ((l ++ pre) ++ [((y:Nat):Int).toNat.toUInt8]) wr w1):Wrote b r (l ++ Lib.uvarint x) w w1:=by
 obtain ⟨r2,h2,k2⟩:=h1
 refine ⟨r2,?_,hk.trans k2⟩
 rw [hu,Lib.uvarint_small hb]
 simpa [List.append_assoc] using h2
set_option maxHeartbeats 400000 in
theorem wuint_any (b:Nat) (r:Option Nat) (l:List UInt8) (x:Nat) (w:World) (h:Wr b r l w) (hlen:l.length + 10<=140737488355328) (hx:x < 18446744073709551616) :
  Calls Tryz.prog 137 #[.pointer (some ⟨b,0,none⟩),.int .u64 x] w fun e w'=>e = .returned (.tuple #[])/\Wrote b r (l ++ Lib.uvarint x) w w':=by
 go_enter Tryz.func137,Tryz.ntmps137
 go_wp2
 go_loopw [1] (fun v wr=>UintAt b r l x w v wr) (fun v _=>(intOf v).toNat)
 case atStart=>exact ⟨x,r,[],rfl,Nat.le_refl _,by simpa using h,Kept.refl _ _ _,rfl⟩
 case round =>
  obtain ⟨y,r1,pre,rfl,hy,hw,hk,hu⟩:=hrel
  have hroom:=UintAt.room hlen hx hu
  have Hu:=Lib.hid hu; clear hu
  by_cases hb:128<=y
  ·have e8:bits .or .u8 ((y:Int) % 256) 128 = ((y % 128 + 128:Nat):Int):=by rw [Lib.u8_or128_any _ (by omega) (by omega)]; omega
   go_wp2_with fail
   have e8':=Lib.hid e8; clear e8
   refine (wbyte_any b r1 _ _ _ hw hroom (by omega) (by omega)).mono ?_
   rintro e w1 ⟨rfl,h1⟩
   have fin:=UintAt.more hy hb hk Hu.out rfl h1
   clear h1 hk
   have fin':=Lib.hid fin; clear fin
   go_wp2
   go_roundw
   case rel=>exact fin'.out
   case measure=>simp [intOf]; omega
  ·go_wp2_with fail
   refine (wbyte_any b r1 _ _ _ hw hroom (by omega) (by omega)).mono ?_
   rintro e w1 ⟨rfl,h1⟩
   have fin:=UintAt.done (by omega) hk Hu.out h1
   clear h1 hk
   have fin':=Lib.hid fin; clear fin
   go_wp2
   go_end0
   exact ⟨rfl,fin'.out⟩
set_option maxHeartbeats 400000 in
theorem wlText_any (b:Nat) (r:Option Nat) (l:List UInt8) (s:ByteArray) (w:World) (h:Wr b r l w) (hlen:l.length + s.size + 10<=140737488355328) :
  Calls Tryz.prog 226 #[.pointer (some ⟨b,0,none⟩),.string s,.func (.func 227) #[.pointer (some ⟨b,0,none⟩)] #[]] w fun e w'=>e = .returned (.tuple #[])/\Wrote b r (l ++ textB s.data.toList) w w':=by
 have hsz:s.data.toList.length = s.size:=by simp
 have hu:=Lib.uvarint_length64 (show s.size < 18446744073709551616 by omega)
 go_enter Tryz.func226,Tryz.ntmps226
 go_wp2_with fail
 refine (wuint_any b r l s.size _ h (by omega) (by omega)).mono ?_
 rintro e w1 ⟨rfl,⟨r1,h1,k1⟩⟩
 have k1':=Lib.hid k1; clear k1
 have hsz':=Lib.hid hsz; clear hsz
 go_wp2_with fail
 refine (wbytes_any b r1 _ s _ h1 (by rw [List.length_append]; omega)).mono ?_
 rintro e w2 ⟨rfl,h2⟩
 have fin:Wrote b r (l ++ textB s.data.toList) w w2:=by
  have q:=Wrote.trans k1'.out h2
  rw [List.append_assoc] at q
  unfold textB
  rw [hsz'.out]
  exact q
 have fin':=Lib.hid fin; clear fin h2
 go_wp2
 go_end0
 exact ⟨rfl,fin'.out⟩
theorem wtext_any (b:Nat) (r:Option Nat) (l:List UInt8) (s:ByteArray) (w:World) (h:Wr b r l w) (hlen:l.length + s.size + 10<=140737488355328) :
  Calls Tryz.prog 177 #[.pointer (some ⟨b,0,none⟩),.string s] w fun e w'=>e = .returned (.tuple #[])/\Wrote b r (l ++ textB s.data.toList) w w':=by
 go_enter Tryz.func177,Tryz.ntmps177
 go_wp2_with fail
 refine (wlText_any b r l s _ h hlen).mono ?_
 rintro e w1 ⟨rfl,h1⟩
 go_wp2
 go_end0
 exact ⟨rfl,h1⟩
end Go.Proofs.YthjjfjhajadimaaGreatDoor
namespace Go.Proofs.YthjjfjhajadimaaGreatDoor
open Go.RowKit Go.WideShapes
set_option maxRecDepth 100000
theorem textB_le {l:List UInt8} (h:l.length < 18446744073709551616):(textB l).length<=l.length + 10:=by
 have:=Lib.uvarint_length64 h
 unfold textB
 rw [List.length_append]
 omega
set_option maxHeartbeats 1600000 in
theorem write12_any (b:Nat) (r:Option Nat) (l:List UInt8) (op:Bt.O) (w:World) (h:Wr b r l w) (hlen:l.length + 1 + op.key.length + op.val.length + 30<=140737488355328) :
  Calls Tryz.prog 138 #[.pointer (some ⟨b,0,none⟩),opV op] w fun e w'=>e = .returned (.tuple #[])/\Wrote b r (l ++ Bt.opB op) w w':=by
 obtain ⟨d,k,v⟩:=op
 unfold opV
 obtain ⟨K,hK,hKl⟩:∃ K:ByteArray,strV k = .string K/\K.data.toList = k:=⟨⟨k.toArray⟩,rfl,rfl⟩
 obtain ⟨V,hV,hVl⟩:∃ V:ByteArray,strV v = .string V/\V.data.toList = v:=⟨⟨v.toArray⟩,rfl,rfl⟩
 simp only [hK,hV] at *
 have hKs:K.size = k.length:=by rw [<- hKl]; rfl
 have hVs:V.size = v.length:=by rw [<- hVl]; rfl
 have hbl:=h.lt
 have W1:=h.alloc (.cells #[.bool d,.string K,.string V] 87)
 have K1:Kept b r r w (w.alloc (.cells #[.bool d,.string K,.string V] 87)):=(Kept.refl b r w).alloc _
 have hbx:=heap_alloc_new w (.cells #[.bool d,.string K,.string V] 87)
 obtain ⟨B,hB⟩:∃ B,w.heap.size = B:=⟨_,rfl⟩
 have hrl:∀ k,r = some k->k < B:=fun k e=>hB ▸ h.rlt e
 rw [hB] at hbx hbl
 have BX:=Lib.hid hbx
 have HL:=Lib.hid hlen
 have HKV:=Lib.hid (And.intro hKs (And.intro hVs (And.intro hKl hVl)))
 have KK:=Lib.hid K1
 have HBL:=Lib.hid hbl
 have HRL:=Lib.hid hrl
 cases d with
 | true =>
  have C1:=wbyte_any b r l 1 _ W1 (by omega) (by omega) (by omega)
  clear h hlen hK hV hKl hVl hKs hVs hbl W1 K1 hbx hrl
  go_enter Tryz.func138,Tryz.ntmps138
  go_wp2_with fail
  refine C1.mono ?_
  rintro e w1 ⟨rfl,r1,hw1,k1⟩
  have BX1:=Lib.hid ((k1.keeps.block B (lt_of_block BX.out) (fun e=>by rcases e with e | e; exact Nat.ne_of_gt HBL.out e; exact Nat.lt_irrefl _ (HRL.out _ e.symm))).trans BX.out)
  have x1:w1.cell? ⟨B,1,none⟩ = some (.string K):=by rw [Lib.cell_of_heap BX1.out]; rfl
  have C2:=wtext_any b r1 _ K _ hw1 (by have:=HKV.out.1; have:=HL.out; simp; omega)
  have K1:=Lib.hid (KK.out.trans k1)
  clear C1 hw1 k1
  go_wp2_with fail
  refine C2.mono ?_
  rintro e w2 ⟨rfl,r2,hw2,k2⟩
  have FN:=Lib.hid (show Wrote b r (l ++ Bt.opB ⟨true,k,v⟩) w w2 from ⟨r2,by
   have h:=hw2
   rw [HKV.out.2.2.1,List.append_assoc] at h
   exact h,K1.out.trans k2⟩)
  clear C2 hw2 k2
  go_wp2
  refine bodyPost_ret (results_none rfl _ _ _) rfl ?_
  exact ⟨rfl,FN.out⟩
 | false =>
  have C1:=wbyte_any b r l 0 _ W1 (by omega) (by omega) (by omega)
  clear h hlen hK hV hKl hVl hKs hVs hbl W1 K1 hbx hrl
  go_enter Tryz.func138,Tryz.ntmps138
  go_wp2_with fail
  refine C1.mono ?_
  rintro e w1 ⟨rfl,r1,hw1,k1⟩
  have BX1:=Lib.hid ((k1.keeps.block B (lt_of_block BX.out) (fun e=>by rcases e with e | e; exact Nat.ne_of_gt HBL.out e; exact Nat.lt_irrefl _ (HRL.out _ e.symm))).trans BX.out)
  have x1:w1.cell? ⟨B,1,none⟩ = some (.string K):=by rw [Lib.cell_of_heap BX1.out]; rfl
  have HB1:=Lib.hid (show B < w1.heap.size from lt_of_block BX1.out)
  have HR1:=Lib.hid (show ¬ some B = r1 from fun e=>by
   rcases k1.later with e2 | ⟨z,e2,hz⟩
   ·exact Nat.lt_irrefl _ (HRL.out B (by rw [<- e2,<- e]))
   ·rw [e2] at e; have e3:=Option.some.inj e; have:=lt_of_block BX.out; simp at hz; omega)
  have C2:=wtext_any b r1 _ K _ hw1 (by have:=HKV.out.1; have:=HL.out; simp; omega)
  have K1:=Lib.hid (KK.out.trans k1)
  clear C1 hw1 k1
  go_wp2_with fail
  refine C2.mono ?_
  rintro e w2 ⟨rfl,r2,hw2,k2⟩
  have BX2:=Lib.hid ((k2.keeps.block B HB1.out (fun e=>by rcases e with e | e; exact Nat.ne_of_gt HBL.out e; exact HR1.out e)).trans BX1.out)
  have x2:w2.cell? ⟨B,2,none⟩ = some (.string V):=by rw [Lib.cell_of_heap BX2.out]; rfl
  have C3:=wtext_any b r2 _ V _ hw2 (by have h1:=HKV.out.1; have:=HKV.out.2.1; have:=HL.out; rw [HKV.out.2.2.1]; have h2:=textB_le (l:=k) (by omega); simp; omega)
  have K2:=Lib.hid (K1.out.trans k2)
  clear C2 hw2 k2 x1
  go_wp2_with fail
  refine C3.mono ?_
  rintro e w3 ⟨rfl,r3,hw3,k3⟩
  have FN:=Lib.hid (show Wrote b r (l ++ Bt.opB ⟨false,k,v⟩) w w3 from ⟨r3,by
   have h:=hw3
   rw [HKV.out.2.2.1,HKV.out.2.2.2,List.append_assoc,List.append_assoc] at h
   exact h,K2.out.trans k3⟩)
  clear C3 hw3 k3
  go_wp2
  go_end0
  exact ⟨rfl,FN.out⟩
def WcAt (w:World) (ops:List Bt.O) (b:Nat) (iv:Value) (wr:World):Prop :=
 ∃ (i:Nat) (r:Option Nat),i<=ops.length/\iv = .int .i64 i/\Wr b r (Lib.uvarint ops.length ++ Bt.opsB (ops.take i)) wr/\Qt w wr/\∀ k,r = some k->w.heap.size<=k
theorem opsB_snocC {ops:List Bt.O} {i:Nat} {op:Bt.O} (h:ops[i]? = some op):Bt.opsB (ops.take (i + 1)) = Bt.opsB (ops.take i) ++ Bt.opB op:=by
 rw [List.take_add_one,h]
 simp [Bt.opsB]
theorem opsB_leC (ops:List Bt.O) (i:Nat):(Bt.opsB (ops.take i)).length<=(Bt.opsB ops).length:=by
 have h:Bt.opsB ops = Bt.opsB (ops.take i) ++ Bt.opsB (ops.drop i):=by
  unfold Bt.opsB
  rw [<- List.flatMap_append,List.take_append_drop]
 rw [h,List.length_append]
 omega
theorem opB_low (op:Bt.O) (h:op.del = true->op.val = []):op.key.length + op.val.length<=(Bt.opB op).length:=by
 unfold Bt.opB textB
 cases e:op.del with
 | true=>rw [h e,if_pos rfl]; simp; omega
 | false=>rw [if_neg (by decide)]; simp; omega
set_option maxHeartbeats 3200000 in
theorem encode12_any {ad:Nat->Addr} {v:Value} {g o:Nat} {ops:List Bt.O} (w:World) (hr:OpsIn w v g o ops) (hE:E2 ad w) (hcap:∀ a n c,v = .slice a n c->n<=c) (hb:(Bt.encB ops).length + 40<=140737488355328) :
  Calls Tryz.prog 82 #[v] w fun e w'=>e = .returned (.tuple #[strV (Bt.encT ops),errV ad (Bt.encE ops)])/\Qt w w':=by
 have FA:=fault_any w hr hE hcap
 have HR:=Lib.hid hr
 have HB:=Lib.hid hb
 obtain ⟨a,cap,rfl,ha⟩:=hr.val
 have HLE:=Lib.hid hr.le
 clear hr ha hE hcap hb
 rcases Bt.encE_cases ops with he | he | he
 ·have NM:=Lib.hid (Bt.norm_of_enc he)
  have ET:=Lib.hid (Bt.encT_ok he)
  have HZ:=Lib.hid he
  rw [he,errV_zero] at FA
  clear he
  go_enter Tryz.func82,Tryz.ntmps82
  go_wp2_with fail
  refine FA.mono ?_
  rintro e w1 ⟨rfl,q1⟩
  have Q1:=Lib.hid q1
  have NW:=wnew_any w1
  clear FA q1
  go_wp2_with fail
  refine NW.mono ?_
  rintro e w2 ⟨rfl,h2,k2,_⟩
  obtain ⟨b,hbe⟩:∃ b,w1.heap.size = b:=⟨_,rfl⟩
  rw [hbe] at h2 ⊢
  have HBE:=Lib.hid hbe
  have Q2:=Lib.hid (Qt.trans Q1.out k2)
  have hwc:IntKind.u64.wrap (ops.length:Int) = (ops.length:Int):=by have:=HLE.out; rw [IntKind.wrap_u64]; omega
  have UI:=wuint_any b none [] ops.length w2 h2 (by decide) (by have:=HLE.out; omega)
  clear NW h2 k2 hbe
  go_wp2_with fail
  refine UI.mono ?_
  rintro e w3 ⟨rfl,r3,h3,k3⟩
  have START:=Lib.hid (show WcAt w ops b (.int .i64 0) w3 from ⟨0,r3,Nat.zero_le _,rfl,by simpa [Bt.opsB] using h3,Keeps.trans Q2.out k3.keeps (fun i hi e=>by
   have:=Q1.out.size; have:=HBE.out
   rcases e with e | e
   ·omega
   ·cases e),fun k e=>by
   have:=Q2.out.size
   rcases k3.later with e2 | ⟨z,e2,hz⟩
   ·rw [e2] at e; cases e
   ·rw [e2] at e; have e3:=Option.some.inj e; omega⟩)
  have HBW:=Lib.hid (show w.heap.size<=b by have:=Q1.out.size; have:=HBE.out; omega)
  clear UI h3 k3 hwc
  go_wp2_with fail
  go_loopw [21] (fun iv wr=>WcAt w ops b iv wr) (fun iv _=>ops.length - (intOf iv).toNat)
  case atStart=>exact START.out
  case round =>
   obtain ⟨i,r,hi,rfl,hW,hq,hrn⟩:=hrel
   have HQ:=Lib.hid hq
   have HW:=Lib.hid hW
   have HRN:=Lib.hid hrn
   by_cases hlt:i < ops.length
   ·have zlt:decide ((i:Int) < (ops.length:Int)) = true:=decide_eq_true (by omega)
    have zlt':decide (i < ops.length) = true:=decide_eq_true hlt
    obtain ⟨op,c1,hop,e0⟩:=HR.out.elem hlt
    injection e0 with e0 q1 q2
    clear q1 q2
    subst e0
    obtain ⟨x1,x2,x3⟩:=OpsIn.cell (recs_turn HR.out hq) hop
    obtain ⟨K,hK⟩:∃ K:ByteArray,strV op.key = .string K:=⟨_,rfl⟩
    obtain ⟨V,hV⟩:∃ V:ByteArray,strV op.val = .string V:=⟨_,rfl⟩
    have OPV:opV op = .agg #[.bool op.del,.string K,.string V]:=by unfold opV; rw [hK,hV]
    rw [hK] at x2
    rw [hV] at x3
    have k0:(0:Int)<=(i:Int):=by omega
    have k1:(i:Int) < (ops.length:Int):=by omega
    have hw1:=pl_w1 (k:=i) (by have:=HLE.out; omega)
    have HM:=Lib.hid (pl_meas hlt)
    have hlen:(Lib.uvarint ops.length ++ Bt.opsB (ops.take i)).length + 1 + op.key.length + op.val.length + 30<=140737488355328:=by
     have h1:=opsB_leC ops (i + 1)
     rw [opsB_snocC hop,List.length_append] at h1
     have h2:=opB_low op (Bt.clean_iff.1 (NM.out.clean op (List.mem_of_getElem? hop)))
     have h3:=HB.out
     unfold Bt.encB at h3
     rw [List.length_append] at h3 ⊢
     omega
    have WR:=fun o=>write12_any b r _ op _ (HW.out.alloc o) hlen
    rw [OPV] at WR
    have HS:=Lib.hid (opsB_snocC hop)
    have HLT:=Lib.hid hlt
    clear hq hW hrn hlt hi hop hK hV OPV hlen
    go_wp2_with fail
    refine (WR _).mono ?_
    rintro e w5 ⟨rfl,r5,h5,k5⟩
    have FN:=Lib.hid (show WcAt w ops b (.int .i64 ((i:Int) + 1)) w5 from ⟨i + 1,r5,HLT.out,by simp,by
     rw [HS.out,<- List.append_assoc]
     exact h5,Keeps.trans (HQ.out.alloc _) k5.keeps (fun z hz e=>by
      have:=HBW.out
      rcases e with e | e
      ·omega
      ·have:=HRN.out z e.symm; omega),fun k e=>by
      rcases k5.later with e2 | ⟨z,e2,hz⟩
      ·exact HRN.out k (e2 ▸ e)
      ·rw [e2] at e; have e3:=Option.some.inj e; have:=HQ.out.size; simp at hz; omega⟩)
    clear h5 k5 WR
    go_wp2
    rw [hw1]
    exact ⟨FN.out,HM.out⟩
   ·obtain rfl:i = ops.length:=by omega
    have zlt:decide ((ops.length:Int) < (ops.length:Int)) = false:=decide_eq_false (by omega)
    have zlt':decide (ops.length < ops.length) = false:=decide_eq_false (by omega)
    rw [List.take_length] at hW
    have OU:=wout_any b r _ wr hW
    clear hq hW hrn hlt hi
    go_wp2_with fail
    refine OU.mono ?_
    rintro e w6 ⟨rfl,_,k6⟩
    have FN:=Lib.hid (show Qt w w6 from Keeps.trans HQ.out k6 (fun z hz e=>by have:=HRN.out z e.symm; omega))
    clear OU k6
    go_wp2
    go_ret2
    rw [ET.out,HZ.out,errV_zero]
    exact ⟨rfl,FN.out⟩
 ·have ET:=Lib.hid (Bt.encT_no (ops:=ops) (by omega))
  have HZ:=Lib.hid he
  rw [he,errV_pos ad (by decide)] at FA
  clear he
  go_enter Tryz.func82,Tryz.ntmps82
  go_wp2_with fail
  refine FA.mono ?_
  rintro e w1 ⟨rfl,q1⟩
  have Q1:=Lib.hid q1
  clear FA q1
  go_wp2
  go_ret2
  rw [ET.out,HZ.out,errV_pos ad (by decide)]
  exact ⟨rfl,Q1.out⟩
 ·have ET:=Lib.hid (Bt.encT_no (ops:=ops) (by omega))
  have HZ:=Lib.hid he
  rw [he,errV_pos ad (by decide)] at FA
  clear he
  go_enter Tryz.func82,Tryz.ntmps82
  go_wp2_with fail
  refine FA.mono ?_
  rintro e w1 ⟨rfl,q1⟩
  have Q1:=Lib.hid q1
  clear FA q1
  go_wp2
  go_ret2
  rw [ET.out,HZ.out,errV_pos ad (by decide)]
  exact ⟨rfl,Q1.out⟩
end Go.Proofs.YthjjfjhajadimaaGreatDoor
namespace Go.Proofs.YthjjfjhajadimaaGreatDoor
open Go.RowKit
set_option maxRecDepth 100000
theorem compErr:(Tryz.prog.info? 335).map (·.comparable) = some true:=by kernel_rfl
theorem sizeErr:(Tryz.prog.info? 349).map (·.size) = some 1:=by kernel_rfl
end Go.Proofs.YthjjfjhajadimaaGreatDoor
