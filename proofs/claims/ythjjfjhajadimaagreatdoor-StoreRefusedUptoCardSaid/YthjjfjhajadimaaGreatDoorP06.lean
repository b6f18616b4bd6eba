/-
  Joined: BBare, Errs, TPl, BFault.
-/
import Derived.Test.YthjjfjhajadimaaGreatDoorP05
import Derived.LoopTactic
import Derived.Shelf.SlSortCmp.QuietGrown
import Derived.Deep.MidRow
import Derived.Deep.DeepCutAuto
import Derived.Outline
import Derived.BigQuiet
namespace Go.Proofs.YthjjfjhajadimaaGreatDoor
open Go.RowKit Go.WideShapes Go.Sort
set_option maxRecDepth 100000
theorem qt_grow12 (w:World) (n:Nat) (os:Array Obj):Qt w (grow (w.drewN n) os):=⟨rfl,rfl,rfl,by simp [grow,World.drewN],fun j hj _=>by
 show (w.heap ++ os)[j]? = w.heap[j]?
 rw [Array.getElem?_append_left hj]⟩
set_option maxHeartbeats 800000 in
theorem bareG_any (o:Bt.O) (w:World):Calls Tryz.prog 116 #[opV o] w fun e w'=>e = .returned (opV (Bt.clean o))/\∃ q os',w' = grow (w.drewN q) os':=by
 have GG:∀ x y:Obj,∃ q os',(w.alloc x).alloc y = grow (w.drewN q) os':=fun x y=>⟨0,_,by rw [alloc_eq_grow,alloc_eq_grow,grow_grow]; rfl⟩
 obtain ⟨d,k,v⟩:=o
 unfold opV
 have hn:∀ x y:Obj,((w.alloc x).alloc y).heap[w.heap.size + 1]? = some y:=fun x y=>by
  have h:=heap_alloc_new (w.alloc x) y
  rwa [World.size_alloc] at h
 obtain ⟨K,hK⟩:∃ K:ByteArray,strV k = .string K:=⟨_,rfl⟩
 obtain ⟨V,hV⟩:∃ V:ByteArray,strV v = .string V:=⟨_,rfl⟩
 cases d with
 | true =>
  have FN:=Lib.hid (show (Value.agg #[.bool (Bt.clean ⟨true,k,v⟩).del,strV (Bt.clean ⟨true,k,v⟩).key,strV (Bt.clean ⟨true,k,v⟩).val]) = .agg #[.bool true,.string K,.string ⟨#[]⟩] by
   rw [<- hK]; rfl)
  simp only [hK,hV]
  go_enter Tryz.func116,Tryz.ntmps116
  go_wp2
  refine bodyPost_ret (results_cell_row (p:=2) (ty:=87) (by kernel_rfl) _ _ (w.heap.size + 1) 87 #[.bool true,.string K,.string ⟨#[]⟩] (0,0) _ rfl (hn _ _) Tryz.underlying87 rfl (by kernel_rfl)) rfl ⟨?_,GG _ _⟩
  rw [FN.out]
 | false =>
  have FN:=Lib.hid (show (Value.agg #[.bool (Bt.clean ⟨false,k,v⟩).del,strV (Bt.clean ⟨false,k,v⟩).key,strV (Bt.clean ⟨false,k,v⟩).val]) = .agg #[.bool false,.string K,.string V] by
   rw [<- hK,<- hV]; rfl)
  simp only [hK,hV]
  go_enter Tryz.func116,Tryz.ntmps116
  go_wp2
  refine bodyPost_ret (results_cell_row (p:=2) (ty:=87) (by kernel_rfl) _ _ (w.heap.size + 1) 87 #[.bool false,.string K,.string V] (0,0) _ rfl (hn _ _) Tryz.underlying87 rfl (by kernel_rfl)) rfl ⟨?_,GG _ _⟩
  rw [FN.out]
theorem bare_any (o:Bt.O) (w:World):Calls Tryz.prog 116 #[opV o] w fun e w'=>e = .returned (opV (Bt.clean o))/\Qt w w' :=
 (bareG_any o w).mono fun _ _ ⟨he,q,os,hw⟩=>⟨he,hw ▸ qt_grow12 w q os⟩
end Go.Proofs.YthjjfjhajadimaaGreatDoor
namespace Go.Proofs.YthjjfjhajadimaaGreatDoor
open Go.RowKit
set_option maxRecDepth 100000
def gErrs:List Nat:=[9,10,11,12,13,0,1,14,15,16,17,6,5,3,8,18,4,7,19,20,2,21,22,23,24,25,26,27,28,29,30,31,32,33,34,35,36]
structure Errs (ad:Nat->Addr) (w:World):Prop where
 cells:∀ i g,gErrs[i]? = some g->w.cell? ⟨g,0,none⟩ = some (.iface 335 (.pointer (some (ad (i + 1)))))
 apart:∀ i j,i < 37->j < 37->ad (i + 1) = ad (j + 1)->i = j
 blk:∀ i,i < 37->∃ c t,w.heap[(ad (i + 1)).block]? = some (.cells c t (0,0))
def errV (ad:Nat->Addr) (n:Nat):Value:=if n = 0 then .nilIface else .iface 335 (.pointer (some (ad n)))
theorem errV_zero (ad:Nat->Addr):errV ad 0 = .nilIface:=rfl
theorem errV_pos (ad:Nat->Addr) {n:Nat} (h:0 < n):errV ad n = .iface 335 (.pointer (some (ad n))):=if_neg (by omega)
structure OffErrs (ad:Nat->Addr) (S:Nat->Prop):Prop where
 vars:∀ g,g ∈ gErrs->¬ S g
 texts:∀ i,i < 37->¬ S (ad (i + 1)).block
theorem OffErrs.none (ad:Nat->Addr):OffErrs ad (fun _=>False):=⟨fun _ _ h=>h,fun _ _ h=>h⟩
theorem OffErrs.mono {ad:Nat->Addr} {S T:Nat->Prop} (h:OffErrs ad S) (k:∀ i,T i->S i):OffErrs ad T:=⟨fun g hg ht=>h.vars g hg (k g ht),fun i hi ht=>h.texts i hi (k _ ht)⟩
theorem Errs.kept {ad:Nat->Addr} {S:Nat->Prop} {w w':World} (h:Errs ad w) (hk:Keeps S w w') (hS:OffErrs ad S):Errs ad w':=by
 refine ⟨fun i g hg=>?_,h.apart,fun i hi=>?_⟩
 ·have hc:=h.cells i g hg
  rw [hk.cell (World.block_lt_of_cell? w _ hc) (hS.vars g (List.mem_of_getElem? hg))]
  exact hc
 ·obtain ⟨c,t,hb⟩:=h.blk i hi
  exact ⟨c,t,(hk.block _ (lt_of_block hb) (hS.texts i hi)).trans hb⟩
theorem Errs.drewN {ad:Nat->Addr} {w:World} (h:Errs ad w) (n:Nat):Errs ad (w.drewN n):=⟨h.cells,h.apart,h.blk⟩
theorem Errs.drew {ad:Nat->Addr} {w:World} (h:Errs ad w):Errs ad w.drew:=⟨h.cells,h.apart,h.blk⟩
theorem Errs.alloc {ad:Nat->Addr} {w:World} (h:Errs ad w) (o:Obj):Errs ad (w.alloc o):=h.kept (S:=fun _=>False) ((Keeps.refl _ _).alloc o) (OffErrs.none ad)
def errArr (ad:Nat->Addr):Array Value:=((List.range 37).map fun i=>Value.iface 335 (.pointer (some (ad (i + 1))))).toArray
set_option maxHeartbeats 2000000 in
theorem list_any (ad:Nat->Addr) (w:World) (hE:Errs ad w) :
  Calls Tryz.prog 64 #[] w fun e w'=>e = .returned (.agg (errArr ad))/\Keeps (fun _=>False) w w':=by
 go_enter Tryz.func64,Tryz.ntmps64
 go_upto_region 1 with (fail)
 have hE1:∀ o,Errs ad (w.alloc o):=fun o=>hE.alloc o
 have hk1:∀ o,Keeps (fun _=>False) w (w.alloc o):=fun o=>(Keeps.refl _ _).alloc o
 have hb1:∀ o,(w.alloc o).heap[w.heap.size]? = some o:=heap_alloc_new w
 clear hE
 generalize hw:w.alloc _ = w1
 have hE:=hw ▸ hE1 _
 have hk:=Lib.hid (hw ▸ hk1 _)
 have hb:=Lib.hid (hw ▸ hb1 _)
 clear hE1 hk1 hb1 hw
 have c1:w1.cell? ⟨9,0,none⟩ = some (.iface 335 (.pointer (some (ad 1)))):=hE.cells 0 _ rfl
 have c2:w1.cell? ⟨10,0,none⟩ = some (.iface 335 (.pointer (some (ad 2)))):=hE.cells 1 _ rfl
 have c3:w1.cell? ⟨11,0,none⟩ = some (.iface 335 (.pointer (some (ad 3)))):=hE.cells 2 _ rfl
 have c4:w1.cell? ⟨12,0,none⟩ = some (.iface 335 (.pointer (some (ad 4)))):=hE.cells 3 _ rfl
 have c5:w1.cell? ⟨13,0,none⟩ = some (.iface 335 (.pointer (some (ad 5)))):=hE.cells 4 _ rfl
 have c6:w1.cell? ⟨0,0,none⟩ = some (.iface 335 (.pointer (some (ad 6)))):=hE.cells 5 _ rfl
 have c7:w1.cell? ⟨1,0,none⟩ = some (.iface 335 (.pointer (some (ad 7)))):=hE.cells 6 _ rfl
 have c8:w1.cell? ⟨14,0,none⟩ = some (.iface 335 (.pointer (some (ad 8)))):=hE.cells 7 _ rfl
 have c9:w1.cell? ⟨15,0,none⟩ = some (.iface 335 (.pointer (some (ad 9)))):=hE.cells 8 _ rfl
 have c10:w1.cell? ⟨16,0,none⟩ = some (.iface 335 (.pointer (some (ad 10)))):=hE.cells 9 _ rfl
 have c11:w1.cell? ⟨17,0,none⟩ = some (.iface 335 (.pointer (some (ad 11)))):=hE.cells 10 _ rfl
 have c12:w1.cell? ⟨6,0,none⟩ = some (.iface 335 (.pointer (some (ad 12)))):=hE.cells 11 _ rfl
 have c13:w1.cell? ⟨5,0,none⟩ = some (.iface 335 (.pointer (some (ad 13)))):=hE.cells 12 _ rfl
 have c14:w1.cell? ⟨3,0,none⟩ = some (.iface 335 (.pointer (some (ad 14)))):=hE.cells 13 _ rfl
 have c15:w1.cell? ⟨8,0,none⟩ = some (.iface 335 (.pointer (some (ad 15)))):=hE.cells 14 _ rfl
 have c16:w1.cell? ⟨18,0,none⟩ = some (.iface 335 (.pointer (some (ad 16)))):=hE.cells 15 _ rfl
 have c17:w1.cell? ⟨4,0,none⟩ = some (.iface 335 (.pointer (some (ad 17)))):=hE.cells 16 _ rfl
 have c18:w1.cell? ⟨7,0,none⟩ = some (.iface 335 (.pointer (some (ad 18)))):=hE.cells 17 _ rfl
 have c19:w1.cell? ⟨19,0,none⟩ = some (.iface 335 (.pointer (some (ad 19)))):=hE.cells 18 _ rfl
 have c20:w1.cell? ⟨20,0,none⟩ = some (.iface 335 (.pointer (some (ad 20)))):=hE.cells 19 _ rfl
 have c21:w1.cell? ⟨2,0,none⟩ = some (.iface 335 (.pointer (some (ad 21)))):=hE.cells 20 _ rfl
 have c22:w1.cell? ⟨21,0,none⟩ = some (.iface 335 (.pointer (some (ad 22)))):=hE.cells 21 _ rfl
 have c23:w1.cell? ⟨22,0,none⟩ = some (.iface 335 (.pointer (some (ad 23)))):=hE.cells 22 _ rfl
 have c24:w1.cell? ⟨23,0,none⟩ = some (.iface 335 (.pointer (some (ad 24)))):=hE.cells 23 _ rfl
 have c25:w1.cell? ⟨24,0,none⟩ = some (.iface 335 (.pointer (some (ad 25)))):=hE.cells 24 _ rfl
 have c26:w1.cell? ⟨25,0,none⟩ = some (.iface 335 (.pointer (some (ad 26)))):=hE.cells 25 _ rfl
 have c27:w1.cell? ⟨26,0,none⟩ = some (.iface 335 (.pointer (some (ad 27)))):=hE.cells 26 _ rfl
 have c28:w1.cell? ⟨27,0,none⟩ = some (.iface 335 (.pointer (some (ad 28)))):=hE.cells 27 _ rfl
 have c29:w1.cell? ⟨28,0,none⟩ = some (.iface 335 (.pointer (some (ad 29)))):=hE.cells 28 _ rfl
 have c30:w1.cell? ⟨29,0,none⟩ = some (.iface 335 (.pointer (some (ad 30)))):=hE.cells 29 _ rfl
 have c31:w1.cell? ⟨30,0,none⟩ = some (.iface 335 (.pointer (some (ad 31)))):=hE.cells 30 _ rfl
 have c32:w1.cell? ⟨31,0,none⟩ = some (.iface 335 (.pointer (some (ad 32)))):=hE.cells 31 _ rfl
 have c33:w1.cell? ⟨32,0,none⟩ = some (.iface 335 (.pointer (some (ad 33)))):=hE.cells 32 _ rfl
 have c34:w1.cell? ⟨33,0,none⟩ = some (.iface 335 (.pointer (some (ad 34)))):=hE.cells 33 _ rfl
 have c35:w1.cell? ⟨34,0,none⟩ = some (.iface 335 (.pointer (some (ad 35)))):=hE.cells 34 _ rfl
 have c36:w1.cell? ⟨35,0,none⟩ = some (.iface 335 (.pointer (some (ad 36)))):=hE.cells 35 _ rfl
 have c37:w1.cell? ⟨36,0,none⟩ = some (.iface 335 (.pointer (some (ad 37)))):=hE.cells 36 _ rfl
 clear hE
 obtain ⟨b,hbe⟩:∃ b,w.heap.size = b:=⟨_,rfl⟩
 rw [hbe] at hb ⊢
 have hle:w.heap.size<=b:=by omega
 clear hbe
 go_wp2_with (refine wpList_store_row _ rfl 126 _ _ rfl b _ _ 126 rfl rfl hb.out ?hi ?hs ?h1 ?_)
 case hi=>kernel_rfl
 case hs=>rfl
 case h1=>simp [Value.oneCell']
 have hset:=fun cs=>setRow_heap w1 b _ cs 126 (0,0) hb.out
 have fin:=Lib.hid (fun cs=>Keeps.setRow (g:=b) hk.out (fun h=>absurd h (by omega)) cs)
 go_wp2
 refine bodyPost_ret (v:=.agg (errArr ad)) (results_cell_row (p:=0) (ty:=126) (by kernel_rfl) _ _ b 126 (errArr ad) (0,0) _ rfl (hset _) Tryz.underlying126 rfl (by kernel_rfl)) rfl ⟨rfl,fin.out _⟩
end Go.Proofs.YthjjfjhajadimaaGreatDoor
namespace Go.Proofs.YthjjfjhajadimaaGreatDoor
open Go.RowKit
theorem pl_meas {k n:Nat} (h:k < n):n - (intOf (.int .i64 ((k:Int) + 1))).toNat < n - (intOf (.int .i64 (k:Int))).toNat:=by simp [intOf]; omega
theorem pl_w1 {k:Nat} (h:k<=17592186044416):wrap64 ((k:Int) + 1) = (k:Int) + 1:=by unfold wrap64; omega
end Go.Proofs.YthjjfjhajadimaaGreatDoor
namespace Go.Proofs.YthjjfjhajadimaaGreatDoor
open Go.RowKit Go.WideShapes Go.Sort
set_option maxRecDepth 100000
structure E2 (ad:Nat->Addr) (w:World):Prop where
 c4:w.cell? ⟨12,0,none⟩ = some (.iface 335 (.pointer (some (ad 4))))
 c7:w.cell? ⟨1,0,none⟩ = some (.iface 335 (.pointer (some (ad 7))))
theorem E2.qt {ad:Nat->Addr} {w w':World} (h:E2 ad w) (q:Qt w w'):E2 ad w':=⟨q.cellv h.c4,q.cellv h.c7⟩
theorem Errs.e2 {ad:Nat->Addr} {w:World} (h:Errs ad w):E2 ad w:=⟨h.cells 3 _ rfl,h.cells 6 _ rfl⟩
namespace Bt
def risesB (ops:List O) (k:Tb.Txt):Bool:=match ops.getLast? with
 | none=>true
 | some o=>Tb.lt o.key k
theorem risesB_take {ops:List O} {i:Nat} {a:O} (h:ops[i]? = some a) (k:Tb.Txt):risesB (ops.take (i + 1)) k = Tb.lt a.key k:=by
 unfold risesB
 rw [List.take_add_one,h]
 simp
theorem risesB_false {ops:List O} {i:Nat} (hi:i<=ops.length) {k:Tb.Txt} (h:risesB (ops.take i) k = false):∃ j a,i = j + 1/\ops[j]? = some a/\Tb.lt a.key k = false:=by
 cases i with
 | zero=>simp [risesB] at h
 | succ j =>
  have hj:j < ops.length:=hi
  have e:ops[j]? = some ops[j]:=List.getElem?_eq_getElem hj
  rw [risesB_take e] at h
  exact ⟨j,_,rfl,e,h⟩
end Bt
theorem sliceO_h (g o n c m:Nat) (hm:m<=c) (W:World):(Instr.slice 38 (.slice (some ⟨g,o,none⟩) n c) none (some (.int .i64 (m:Int))) none).run Tryz.prog W = .ok (.slice (some ⟨g,o,none⟩) m c) W:=by
 have h:=run_slice_h (P:=Tryz.prog) (w:=W) 38 (some ⟨g,o,none⟩) n c (by kernel_rfl) .i64 (m:Int) (by omega) (by omega)
 have hz:(sizeOf (Tryz.prog.elem 38)).run Tryz.prog W = .ok 3 W:=by
  obtain ⟨i,hi,hs⟩:=Option.map_eq_some_iff.1 (show (Tryz.prog.info? (Tryz.prog.elem 38)).map (·.size) = some 3 by kernel_rfl)
  simp [sizeOf,typeInfo,hi,hs]
 rw [h,hz]
 simp only [Result.andThen_ok,Int.toNat_natCast]
 simp [sliced,Addr.add]
set_option maxHeartbeats 800000 in
theorem rises_any {v:Value} {g o:Nat} {ops:List Bt.O} (K:ByteArray) (w:World) (hr:OpsIn w v g o ops) :
  Calls Tryz.prog 191 #[v,.string K] w fun e w'=>e = .returned (.bool (Bt.risesB ops K.data.toList))/\w' = w:=by
 by_cases hne:ops = []
 ·subst hne
  obtain ⟨a,cap,rfl,ha⟩:=hr.val
  clear hr ha
  go_enter Tryz.func191,Tryz.ntmps191
  go_wp2
  go_ret
  exact ⟨rfl,rfl⟩
 ·obtain ⟨j,hj⟩:∃ j,ops.length = j + 1:=⟨ops.length - 1,by have:=List.length_pos_iff.2 hne; omega⟩
  obtain ⟨z,c1,hz,e0⟩:=hr.elem (k:=j) (by omega)
  subst e0
  obtain ⟨x1,x2,x3⟩:=OpsIn.cell hr hz
  obtain ⟨Z,hZ,hZl⟩:∃ Z:ByteArray,strV z.key = .string Z/\Z.data.toList = z.key:=⟨⟨z.key.toArray⟩,rfl,rfl⟩
  rw [hZ] at x2
  have hle:=hr.le
  rw [hj] at hle ⊢
  have HB:=Lib.hid (show Bt.risesB ops K.data.toList = Op.bytesLess Z.toList K.toList by
   have h1:=Bt.risesB_take hz K.data.toList
   rw [show ops.take (j + 1) = ops by rw [<- hj]; exact List.take_length] at h1
   rw [h1,ByteArray.toList_eq,ByteArray.toList_eq,hZl]
   rfl)
  have k0:(0:Int)<=(j:Int):=by omega
  have k1:(j:Int) < (j:Int) + 1:=by omega
  have k2:((j:Int) + 1 == 0) = false:=by simp; omega
  have hw:wrap64 ((j:Int) + 1 - 1) = (j:Int):=by unfold wrap64; omega
  clear hr x1 x3 hZ hZl hj hz hne
  go_enter Tryz.func191,Tryz.ntmps191
  go_wp2
  go_ret
  exact ⟨by rw [HB.out]; rfl,rfl⟩
def FaAt (w:World) (ops:List Bt.O) (iv:Value) (wr:World):Prop :=
 ∃ i:Nat,i<=ops.length/\iv = .int .i64 i/\(∀ (k:Nat) (a b:Bt.O),k + 1 < i->ops[k]? = some a->ops[k + 1]? = some b->Tb.lt a.key b.key = true)/\Qt w wr
def FbAt (w:World) (ops:List Bt.O) (iv:Value) (wr:World):Prop :=
 ∃ i:Nat,i<=ops.length/\iv = .int .i64 i/\(∀ o ∈ ops.take i,o.del = true->o.val = [])/\Qt w wr
theorem opsIn_take {W:World} {g o c i:Nat} {ops:List Bt.O} (h:OpsIn W (.slice (some ⟨g,o,none⟩) ops.length c) g o ops) (hi:i<=ops.length):OpsIn W (.slice (some ⟨g,o,none⟩) i c) g o (ops.take i) :=
 ⟨⟨_,c,by rw [List.length_take,Nat.min_eq_left hi],fun _=>rfl⟩,by rw [List.length_take]; have:=h.le; omega,fun k r hk j u hj=>h.cells k r (by
  rw [List.getElem?_take] at hk
  split at hk
  ·exact hk
  ·cases hk) j u hj⟩
set_option maxHeartbeats 3200000 in
theorem fault_any {ad:Nat->Addr} {v:Value} {g o:Nat} {ops:List Bt.O} (w:World) (hr:OpsIn w v g o ops) (hE:E2 ad w) (hcap:∀ a n c,v = .slice a n c->n<=c) :
  Calls Tryz.prog 135 #[v] w fun e w'=>e = .returned (errV ad (Bt.encE ops))/\Qt w w':=by
 have HR:=Lib.hid hr
 have HE:=Lib.hid hE
 obtain ⟨a,cap,rfl,ha⟩:=hr.val
 have HC:=Lib.hid (hcap _ _ _ rfl)
 have HLE:=Lib.hid hr.le
 clear hr ha hE hcap
 go_enter Tryz.func135,Tryz.ntmps135
 go_wp2
 go_loopw [9] (fun iv wr=>FaAt w ops iv wr) (fun iv _=>ops.length - (intOf iv).toNat)
 case atStart=>exact ⟨0,Nat.zero_le _,rfl,fun k a b h=>by omega,Qt.refl _⟩
 case round =>
  obtain ⟨i,hi,rfl,hrise,hq⟩:=hrel
  have HQ:=Lib.hid hq
  have HRI:=Lib.hid hrise
  by_cases hlt:i < ops.length
  ·have zlt:decide ((i:Int) < (ops.length:Int)) = true:=decide_eq_true (by omega)
   have zlt':decide (i < ops.length) = true:=decide_eq_true hlt
   obtain ⟨op,c1,hop,e0⟩:=HR.out.elem hlt
   injection e0 with e0 q1 q2
   clear q1 q2
   subst e0
   obtain ⟨x1,x2,x3⟩:=OpsIn.cell (recs_turn HR.out hq) hop
   obtain ⟨K,hK,hKl⟩:∃ K:ByteArray,strV op.key = .string K/\K.data.toList = op.key:=⟨⟨op.key.toArray⟩,rfl,rfl⟩
   obtain ⟨V,hV⟩:∃ V:ByteArray,strV op.val = .string V:=⟨_,rfl⟩
   rw [hK] at x2
   rw [hV] at x3
   have k0:(0:Int)<=(i:Int):=by omega
   have k1:(i:Int) < (ops.length:Int):=by omega
   have hw1:=pl_w1 (k:=i) (by have:=HLE.out; omega)
   have HM:=Lib.hid (pl_meas hlt)
   have hs:=sliceO_h g o ops.length cap i (by have:=HC.out; omega)
   have RS:=Lib.hid (fun W (q:Qt w W)=>rises_any K W (opsIn_take (recs_turn HR.out q) hi))
   rw [hKl] at RS
   have HOP:=Lib.hid hop
   have HLT:=Lib.hid hlt
   have c4:=(HE.out.qt hq).c4
   clear hq hrise hlt hi hop hK hV hKl
   go_wp2_with fail
   have QB0:Qt wr (wr.alloc (.cells #[.bool op.del,.string K,.string V] 87)):=(Qt.refl wr).alloc _
   have b0:(wr.alloc (.cells #[.bool op.del,.string K,.string V] 87)).heap[wr.heap.size]? = some (.cells #[.bool op.del,.string K,.string V] 87 (0,0)):=heap_alloc_new wr _
   generalize hWB:World.alloc wr _ = WB at *
   obtain ⟨B5,hB5⟩:∃ B5,wr.heap.size = B5:=⟨_,rfl⟩
   rw [hB5] at b0 ⊢
   have d1:WB.cell? ⟨B5,1,none⟩ = some (.string K):=by rw [Lib.cell_of_heap b0]; rfl
   have QB:=Lib.hid (Qt.trans HQ.out QB0)
   have c4:WB.cell? ⟨12,0,none⟩ = some (.iface 335 (.pointer (some (ad 4)))):=QB0.cellv c4
   clear hWB hB5 b0 QB0 x1 x2 x3
   cases hrb:Bt.risesB (ops.take i) op.key with
   | true =>
    rw [hrb] at RS
    have FN:=Lib.hid (fun n=>(show FaAt w ops (.int .i64 ((i:Int) + 1)) (WB.drewN n) from ⟨i + 1,HLT.out,by simp,fun k a b h h1 h2=>by
     by_cases e:k + 1 = i
     ·subst e
      have e3:b = op:=by have:=HOP.out; rw [h2] at this; exact Option.some.inj this
      subst e3
      rw [Bt.risesB_take h1] at hrb
      exact hrb
     ·exact HRI.out k a b (by omega) h1 h2,Keeps.drewN QB.out n⟩))
    clear hrb
    go_quiet ((go_at_call 191; with_reducible exact Calls.quiet_of_same (RS.out _ (Keeps.drewN QB.out _))))
    go_wp2
    rw [hw1]
    exact ⟨FN.out _,HM.out⟩
   | false =>
    rw [hrb] at RS
    have FD:=Lib.hid (show Bt.encE ops = 4 from by
     obtain ⟨j,a,rfl,ha,hl⟩:=Bt.risesB_false (Nat.le_of_lt HLT.out) hrb
     exact Bt.encE_order ha HOP.out hl)
    clear hrb
    go_quiet ((go_at_call 191; with_reducible exact Calls.quiet_of_same (RS.out _ (Keeps.drewN QB.out _))))
    go_wp2
    go_ret
    rw [FD.out]
    exact ⟨rfl,Keeps.drewN QB.out _⟩
  ·obtain rfl:i = ops.length:=by omega
   have zlt:decide ((ops.length:Int) < (ops.length:Int)) = false:=decide_eq_false (by omega)
   have zlt':decide (ops.length < ops.length) = false:=decide_eq_false (by omega)
   obtain ⟨y0,hy0⟩:∃ W:World,W = wr:=⟨_,rfl⟩
   subst hy0
   have RISE:=Lib.hid (show Bt.Rise ops from fun k a b h1 h2=>HRI.out k a b (List.getElem?_eq_some_iff.1 h2).1 h1 h2)
   have START:=Lib.hid (show FbAt w ops (.int .i64 0) y0 from ⟨0,Nat.zero_le _,rfl,fun o ho=>by simp at ho,HQ.out⟩)
   clear hq hrise hlt hi HRI
   go_wp2
   go_loopw [25] (fun iv wr=>FbAt w ops iv wr) (fun iv _=>ops.length - (intOf iv).toNat)
   case atStart=>exact START.out
   case round =>
    obtain ⟨i,hi,rfl,hgood,hq⟩:=hrel
    have HQ2:=Lib.hid hq
    have HG:=Lib.hid hgood
    by_cases hlt:i < ops.length
    ·have zlt:decide ((i:Int) < (ops.length:Int)) = true:=decide_eq_true (by omega)
     have zlt':decide (i < ops.length) = true:=decide_eq_true hlt
     obtain ⟨op,c1,hop,e0⟩:=HR.out.elem hlt
     injection e0 with e0 q1 q2
     clear q1 q2
     subst e0
     obtain ⟨x1,x2,x3⟩:=OpsIn.cell (recs_turn HR.out hq) hop
     obtain ⟨K,hK⟩:∃ K:ByteArray,strV op.key = .string K:=⟨_,rfl⟩
     obtain ⟨V,hV⟩:∃ V:ByteArray,strV op.val = .string V:=⟨_,rfl⟩
     have OPV:opV op = .agg #[.bool op.del,.string K,.string V]:=by unfold opV; rw [hK,hV]
     obtain ⟨V2,hV2⟩:∃ V2:ByteArray,strV (Bt.clean op).val = .string V2:=⟨_,rfl⟩
     have hcv:opV (Bt.clean op) = .agg #[.bool op.del,.string K,.string V2]:=by
      rw [<- hK,<- hV2]
      rfl
     have NEQ:=fun W=>run_neq_op op (Bt.clean op) W
     rw [OPV,hcv] at NEQ
     have BG:=Lib.hid (fun W=>by have h:=bareG_any op W; rw [OPV,hcv] at h; exact h)
     rw [hK] at x2
     rw [hV] at x3
     have k0:(0:Int)<=(i:Int):=by omega
     have k1:(i:Int) < (ops.length:Int):=by omega
     have hw1:=pl_w1 (k:=i) (by have:=HLE.out; omega)
     have HM:=Lib.hid (pl_meas hlt)
     have HOP:=Lib.hid hop
     have HLT:=Lib.hid hlt
     have c7:=(HE.out.qt hq).c7
     have mixed:Tryz.prog.follows .mixedOrders = true:=by kernel_rfl
     clear hq hgood hlt hi hop hK hV OPV hcv hV2
     go_wp2_with fail
     have QB0:Qt wr (wr.alloc (.cells #[.bool op.del,.string K,.string V] 87)):=(Qt.refl wr).alloc _
     have b0:(wr.alloc (.cells #[.bool op.del,.string K,.string V] 87)).heap[wr.heap.size]? = some (.cells #[.bool op.del,.string K,.string V] 87 (0,0)):=heap_alloc_new wr _
     generalize hWB:World.alloc wr _ = WB at *
     obtain ⟨B5,hB5⟩:∃ B5,wr.heap.size = B5:=⟨_,rfl⟩
     rw [hB5] at b0 ⊢
     have d0:∀ n os,(grow (WB.drewN n) os).cell? ⟨B5,0,none⟩ = some (.bool op.del):=cell_grown (lt_of_block b0) (by rw [Lib.cell_of_heap b0]; rfl)
     have d1:∀ n os,(grow (WB.drewN n) os).cell? ⟨B5,1,none⟩ = some (.string K):=cell_grown (lt_of_block b0) (by rw [Lib.cell_of_heap b0]; rfl)
     have d2:∀ n os,(grow (WB.drewN n) os).cell? ⟨B5,2,none⟩ = some (.string V):=cell_grown (lt_of_block b0) (by rw [Lib.cell_of_heap b0]; rfl)
     have QB:=Lib.hid (fun n os=>Qt.trans (Qt.trans HQ2.out QB0) (qt_grow12 WB n os))
     have c7:∀ n os,(grow (WB.drewN n) os).cell? ⟨1,0,none⟩ = some (.iface 335 (.pointer (some (ad 7)))):=fun n os=>(qt_grow12 WB n os).cellv (QB0.cellv c7)
     clear hWB hB5 b0 QB0 x1 x2 x3
     by_cases hcl:op = Bt.clean op
     ·have zc:decide (op = Bt.clean op) = true:=decide_eq_true hcl
      rw [zc] at NEQ
      have FN:=Lib.hid (fun n os=>(show FbAt w ops (.int .i64 ((i:Int) + 1)) (grow (WB.drewN n) os) from ⟨i + 1,HLT.out,by simp,fun z hz hd=>by
       rw [List.take_add_one,HOP.out] at hz
       rcases List.mem_append.1 hz with hz | hz
       ·exact HG.out z hz hd
       ·simp at hz
        subst hz
        exact Bt.clean_iff.1 hcl.symm hd,QB.out n os⟩))
      clear hcl zc
      go_quiet_grown (first | (go_at_call 116; refine Calls.grown_of (BG.out _)))
      go_wp2
      rw [hw1]
      exact ⟨FN.out _ _,HM.out⟩
     ·have zc:decide (op = Bt.clean op) = false:=decide_eq_false hcl
      rw [zc] at NEQ
      have FD:=Lib.hid (show Bt.encE ops = 7 from by
       have h1:¬ (op.del = true->op.val = []):=fun h=>hcl (Bt.clean_iff.2 h).symm
       have hd:op.del = true:=by
        cases e:op.del with
        | true=>rfl
        | false=>exact absurd (fun h=>by rw [e] at h; cases h) h1
       exact Bt.encE_form RISE.out (List.mem_of_getElem? HOP.out) hd (fun e=>h1 (fun _=>e)))
      clear hcl zc
      go_quiet_grown (first | (go_at_call 116; refine Calls.grown_of (BG.out _)))
      go_wp2
      go_ret
      rw [FD.out]
      exact ⟨rfl,QB.out _ _⟩
    ·obtain rfl:i = ops.length:=by omega
     have zlt:decide ((ops.length:Int) < (ops.length:Int)) = false:=decide_eq_false (by omega)
     have zlt':decide (ops.length < ops.length) = false:=decide_eq_false (by omega)
     have FD:=Lib.hid (show Bt.encE ops = 0 from Bt.encE_ok RISE.out (by have h:=HG.out; rwa [List.take_length] at h))
     clear hq hgood hlt hi
     go_wp2
     go_ret
     rw [FD.out]
     exact ⟨rfl,HQ2.out⟩
end Go.Proofs.YthjjfjhajadimaaGreatDoor
