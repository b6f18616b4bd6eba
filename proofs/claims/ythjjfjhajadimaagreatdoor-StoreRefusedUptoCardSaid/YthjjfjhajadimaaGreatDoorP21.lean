/-
  The landed store: the content behind a batch.
-/
import Derived.Test.YthjjfjhajadimaaGreatDoorP19
import Derived.Test.YthjjfjhajadimaaGreatDoorP20
namespace Go.Proofs.YthjjfjhajadimaaGreatDoor
open Go.RowKit Go.WideShapes
set_option maxRecDepth 100000
def AfAt (W5:World) (B c:Nat) (l:List Tb.R) (ops:List Bt.O) (iv:Value) (W:World):Prop :=
 ∃ i:Nat,i<=ops.length/\iv = .int .i64 i/\Bk W B 132 [ptrV c,.int .i64 (((So.rowsB (Bt.apply l (ops.take i))).length:Nat):Int)]/\Keeps (fun k=>k = B) W5 W
theorem row_of_bytes {l:List Tb.R} {r:Tb.R} (h:r ∈ l):r.1.length + r.2.length<=Tb.bytes l:=by
 obtain ⟨a,b,rfl⟩:=List.append_of_mem h
 rw [Tb.bytes_append,Tb.bytes_cons]
 omega
structure AfS (w:World) (t:Nat) (l:List Tb.R) (A:Nat->Prop) (k0 B5 c:Nat) (A5:Nat->Prop) (W5:World):Prop where
 bk:Bk W5 B5 132 [ptrV c,.int .i64 (k0:Int)]
 tab:Tbl W5 c l A5
 all:∀ k,A5 k->A k\/w.heap.size<=k
 nb:¬ A5 B5
 n4:¬ A5 (w.heap.size + 1)
 nc:w.heap.size + 1 < c
 box:w.heap.size + 1 < B5
 q:Qt w W5
structure AfH (w:World) (t:Nat) (l:List Tb.R) (A:Nat->Prop) (v:Value) (g o:Nat) (ops:List Bt.O):Prop where
 tab:Tbl w t l A
 inn:OpsIn w v g o ops
 norm:Bt.Norm ops
 txt:∀ o ∈ ops,o.key.length<=281474976710656/\o.val.length<=281474976710656
 len:l.length + ops.length<=4398046511104
 sum:Tb.bytes l + Bt.opsW ops<=9223372036854775807
 fit:(So.rowsB l).length + So.opsN ops<=1152921504606846976
set_option maxHeartbeats 8000000 in
theorem after13_any {t:Nat} {l:List Tb.R} {A:Nat->Prop} {v:Value} {g o:Nat} {ops:List Bt.O} (w:World) (H:AfH w t l A v g o ops) :
  Calls Tryz.prog 70 #[contV t (So.rowsB l).length,v] w fun e w'=>∃ t2 A2,e = .returned (contV t2 (So.rowsB (Bt.apply l ops)).length)/\Tbl w' t2 (Bt.apply l ops) A2/\w.heap.size<=t2/\(∀ k,A2 k->A k\/w.heap.size<=k)/\Qt w w':=by
 have HH:=Lib.hid H
 obtain ⟨a,cap,rfl,ha⟩:=H.inn.val
 have CL:=Lib.hid (fun W (q:Qt w W)=>clone11_any (H.tab.qt q))
 have HLE:=Lib.hid H.inn.le
 clear H ha
 obtain ⟨k0,hk0⟩:∃ k,(So.rowsB l).length = k:=⟨_,rfl⟩
 have HK0:=Lib.hid hk0
 obtain ⟨W,hW,q0,b2,b4,hz⟩:∃ W,(w.alloc (.cells #[ptrV t,.int .i64 (k0:Int)] 132)).alloc (.cells #[.pointer none,.int .i64 0] 132) = W/\Qt w W/\Bk W w.heap.size 132 [ptrV t,.int .i64 (k0:Int)]/\Bk W (w.heap.size + 1) 132 [.pointer none,.int .i64 0]/\W.heap.size = w.heap.size + 2 :=
  ⟨_,rfl,((Qt.refl w).alloc _).alloc _,(Bk.new w _ _).alloc _,by have h:=Bk.new (w.alloc (.cells #[ptrV t,.int .i64 (k0:Int)] 132)) 132 #[.pointer none,.int .i64 0]; rwa [World.size_alloc] at h,by simp⟩
 have Q0:=Lib.hid q0
 have B2:=Lib.hid b2
 have B4:=Lib.hid b4
 have HZ:=Lib.hid hz
 obtain ⟨c0,c1⟩:=(show W.cell? ⟨w.heap.size,0,none⟩ = some (ptrV t)/\W.cell? ⟨w.heap.size,1,none⟩ = some (.int .i64 (k0:Int)) from ⟨b2.cell 0 _ rfl,b2.cell 1 _ rfl⟩)
 have KP:=Lib.hid (fun W' (q:Qt W W')=>(show W'.cell? ⟨w.heap.size,0,none⟩ = some (ptrV t)/\W'.cell? ⟨w.heap.size,1,none⟩ = some (.int .i64 (k0:Int)) from ⟨(B2.out.qt q).cell 0 _ rfl,(B2.out.qt q).cell 1 _ rfl⟩))
 unfold contV
 rw [hk0]
 clear q0 b2 b4 hz hk0
 have HLT:=Lib.hid (HH.out.tab.lt)
 go_enter Tryz.func70,Tryz.ntmps70
 go_upto_region 1 with (fail)
 go_cut [5] from 10 to 15 (fun p wx=>∃ B5 c A5,p = .pointer (some ⟨B5,0,none⟩)/\AfS w t l A k0 B5 c A5 wx/\Qt W wx)
 case first =>
  have NB:=Lib.hid (fun w1 (q:Qt (W.drew.alloc (.cells #[.pointer none,.int .i64 0] 132)) w1)=>(show Bk w1 W.heap.size 132 [.pointer none,.int .i64 0] from (Bk.new W.drew 132 #[.pointer none,.int .i64 0]).qt q))
  go_region_held3 (fun W'=>W'.cell? ⟨w.heap.size,0,none⟩ = some (ptrV t)/\W'.cell? ⟨w.heap.size,1,none⟩ = some (.int .i64 (k0:Int)))
   (first | go_keep | exact KP.out _ (Keeps.drew (Qt.refl W)) | exact KP.out _ q1 | exact KP.out _ (q1.alloc _) | exact KP.out _ ((Keeps.drew (Qt.refl W)).alloc _) | exact KP.out _ (qt_set (qt_set q1 (Nat.le_refl _) 0 _) (Nat.le_refl _) 1 _))
   (first
    | (go_at_call 113; refine (CL.out _ (Keeps.drew Q0.out)).mono ?_; rintro e w1 ⟨c,rfl,tc,hc,q⟩; have q1:Qt W w1:=Qt.trans (Keeps.drew (Qt.refl W)) q; have TC:=Lib.hid tc; have HC:=Lib.hid hc; clear tc hc)
    | (go_at_call 113; refine (CL.out _ ((Keeps.drew Q0.out).alloc _)).mono ?_; rintro e w1 ⟨c,rfl,tc,hc,q⟩; have q1:Qt W w1:=Qt.trans ((Keeps.drew (Qt.refl W)).alloc _) q; have TC:=Lib.hid tc; have HC:=Lib.hid hc; clear tc hc; have b5:=NB.out _ q; have B5:=Lib.hid b5; have n0:=b5.cell 0 _ rfl; have n1:=b5.cell 1 _ rfl; have m0:=b5.frozen 0; have m1:=b5.frozen 1))
  ·go_wp2_with fail
   go_meet
   have hz:=HZ.out
   have hs1:=q1.size
   have hlc:=TC.out.lt c TC.out.own
   have hc1:W.heap.size<=c:=HC.out
   refine ⟨w1.heap.size,c,_,rfl,⟨Bk.new w1 132 #[ptrV c,.int .i64 (k0:Int)],TC.out.qt ((Qt.refl w1).alloc _),fun k hk=>?_,fun e=>?_,fun e=>?_,by omega,by omega,(Qt.trans Q0.out q1).alloc _⟩,q1.alloc _⟩
   ·rcases hk with hk | hk
    ·exact .inl hk.1
    ·exact .inr (by omega)
   ·have:=TC.out.lt _ e; omega
   ·rcases e with e | e
    ·have:=HLT.out _ e.1; omega
    ·omega
  ·go_wp2_with fail
   go_meet
   have hz:=HZ.out
   have hs1:=q1.size
   have hc1:W.heap.size + 1<=c:=by have h:=HC.out; rw [World.size_alloc] at h; exact h
   have hq2:Qt W ((w1.setCell ⟨W.heap.size,0,none⟩ (ptrV c)).setCell ⟨W.heap.size,1,none⟩ (.int .i64 (k0:Int))):=qt_set (qt_set q1 (Nat.le_refl _) 0 _) (Nat.le_refl _) 1 _
   have nA:∀ j,(A j/\j ≠ t\/j = c)->j ≠ W.heap.size:=fun j hj e=>by
    rcases hj with hj | hj
    ·have:=HLT.out j hj.1; omega
    ·omega
   refine ⟨W.heap.size,c,_,rfl,⟨(B5.out.set 0 (ptrV c)).set 1 (.int .i64 (k0:Int)),(TC.out.kept (keeps_set w1 W.heap.size 0 (ptrV c)) nA).kept (keeps_set _ W.heap.size 1 (.int .i64 (k0:Int))) nA,fun k hk=>?_,fun e=>nA _ e rfl,fun e=>?_,by omega,by omega,Qt.trans Q0.out hq2⟩,hq2⟩
   ·rcases hk with hk | hk
    ·exact .inl hk.1
    ·exact .inr (by omega)
   ·rcases e with e | e
    ·have:=HLT.out _ e.1; omega
    ·omega
 case rest =>
  obtain ⟨B5,c,A5,rfl,S5,q5⟩:=hcut
  have SS:=Lib.hid S5
  have Q5:=Lib.hid q5
  have START:=Lib.hid (show AfAt wc B5 c l ops (.int .i64 0) wc from ⟨0,Nat.zero_le _,rfl,by rw [List.take_zero]; show Bk wc B5 _ [ptrV c,.int .i64 (((So.rowsB l).length:Nat):Int)]; rw [HK0.out]; exact S5.bk,Keeps.refl _ _⟩)
  clear S5 q5
  go_wp2_with fail
  go_loopw [18] (fun iv wr=>AfAt wc B5 c l ops iv wr) (fun iv _=>ops.length - (intOf iv).toNat)
  case atStart=>exact START.out
  case round =>
   obtain ⟨i,hi,rfl,hB,hK⟩:=hrel
   have HB:=Lib.hid hB
   have HK:=Lib.hid hK
   have hbx:=SS.out.box
   have hq:Qt w wr:=Keeps.trans (S:=fun _=>False) SS.out.q hK (fun j hj e=>by omega)
   have HQ:=Lib.hid hq
   by_cases hlt:i < ops.length
   ·have zlt:decide ((i:Int) < (ops.length:Int)) = true:=decide_eq_true (by omega)
    have zlt':decide (i < ops.length) = true:=decide_eq_true hlt
    obtain ⟨op,c1,hop,e0⟩:=HH.out.inn.elem hlt
    injection e0 with e0 q1 q2
    clear q1 q2
    subst e0
    obtain ⟨x1,x2,x3⟩:=OpsIn.cell (recs_turn HH.out.inn hq) hop
    obtain ⟨K,hKe,hKl⟩:∃ K:ByteArray,strV op.key = .string K/\K.data.toList = op.key:=⟨⟨op.key.toArray⟩,rfl,rfl⟩
    obtain ⟨V,hVe,hVl⟩:∃ V:ByteArray,strV op.val = .string V/\V.data.toList = op.val:=⟨⟨op.val.toArray⟩,rfl,rfl⟩
    rw [hKe] at x2
    rw [hVe] at x3
    have k0':(0:Int)<=(i:Int):=by omega
    have k1':(i:Int) < (ops.length:Int):=by omega
    have hw1:=pl_w1 (k:=i) (by have:=HLE.out; omega)
    have HM:=Lib.hid (pl_meas hlt)
    have HLTi:=Lib.hid hlt
    have htx:=HH.out.txt op (List.mem_of_getElem? hop)
    have HKs:=Lib.hid (show K.size<=1152921504606846976 from by have e:K.size = op.key.length:=(by rw [<- hKl]; rfl); have:=htx.1; omega)
    have HVs:=Lib.hid (show V.size<=1152921504606846976 from by have e:V.size = op.val.length:=(by rw [<- hVl]; rfl); have:=htx.2; omega)
    have HKl:=Lib.hid hKl
    have HVl:=Lib.hid hVl
    have NS:=Lib.hid (So.norm_step HH.out.norm HH.out.tab.sorted hop)
    have FITi:=Lib.hid (show (So.rowsB (Bt.apply l (ops.take (i + 1)))).length<=4611686018427387904/\(So.rowsB (Bt.apply l (ops.take i))).length<=4611686018427387904 from by
     have h1:=So.apply_rowsB HH.out.tab.sorted (ops.take (i + 1))
     have h2:=So.apply_rowsB HH.out.tab.sorted (ops.take i)
     have h3:=So.opsN_take ops (i + 1)
     have h4:=So.opsN_take ops i
     have h5:=HH.out.fit
     exact ⟨by omega,by omega⟩)
    have GT:=Lib.hid (fun o=>by have h:=get11_any (HH.out.tab.qt (hq.alloc o)) K; rw [hKl] at h; exact h)
    have cB2:=B2.out.qt Q5.out
    have t0:=(cB2.kept hK (fun e=>by omega)).cell 0 _ rfl
    obtain ⟨B7,hB7⟩:∃ B,wr.heap.size = B:=⟨_,rfl⟩
    have HB7:=Lib.hid hB7
    have NB7:=Lib.hid (show B7 ≠ B5 from fun e=>by have:=hB.lt; omega)
    obtain ⟨WB,hWB,qB,ob⟩:∃ WB,wr.alloc (.cells #[.bool op.del,.string K,.string V] 87) = WB/\Qt wr WB/\Bk WB wr.heap.size 87 [.bool op.del,.string K,.string V]:=⟨_,rfl,(Qt.refl wr).alloc _,Bk.new wr _ _⟩
    have GT1:=GT.out (.cells #[.bool op.del,.string K,.string V] 87)
    rw [hWB] at GT1
    rw [hB7] at ob
    have OBB:=Lib.hid ob
    have BXB:=Lib.hid (hB.qt qB)
    have KXB:=Lib.hid (show Keeps (fun k=>k = B5) wc WB from Keeps.trans hK qB (fun _ _ e=>e.elim))
    have o1:=ob.cell 1 _ rfl
    have t0':=qB.cellv t0
    have EBB:=Lib.hid (show (((So.rowsB (Bt.apply l (ops.take i))).length:Nat):Int) = (((So.rowsB (Bt.apply l (ops.take i))).length:Nat):Int) from rfl)
    obtain ⟨V0,hV0,hV0l⟩:∃ V:ByteArray,strV ((Tb.get l op.key).getD []) = .string V/\V.data.toList = (Tb.get l op.key).getD []:=⟨⟨((Tb.get l op.key).getD []).toArray⟩,rfl,rfl⟩
    obtain ⟨fb,hfb⟩:∃ b:Bool,(Tb.get l op.key).isSome = b:=⟨_,rfl⟩
    have GT2:Calls Tryz.prog 90 #[ptrV t,.string K] WB fun e w'=>e = .returned (.tuple #[.string V0,.bool fb])/\w' = WB:=by
     have h:=GT1
     unfold GotV at h
     rw [hV0,hfb] at h
     exact h
    go_wp2_with fail
    refine GT2.mono ?_
    rintro e wx0 ⟨rfl,rfl⟩
    clear GT1 GT2
    go_upto_if 30 with (fail)
    refine wp_lastO fun KK hKK=>?_
    go_cut [32] from 31 to 40 (fun _ wy=>∃ b1:Int,b1 + ((So.oldB l op.key:Nat):Int) = (((So.rowsB (Bt.apply l (ops.take i))).length:Nat):Int)/\Bk wy B5 132 [ptrV c,.int .i64 b1]/\Keeps (fun k=>k = B5) wx0 wy)
    case first =>
     cases hg:Tb.get l op.key with
     | none =>
      have OLD:=Lib.hid (show So.oldB l op.key = 0 from by unfold So.oldB; rw [hg])
      rw [hg] at hfb
      obtain rfl:fb = false:=hfb.symm
      clear hg hq hB hK hlt hi hop hKe hVe hKl hVl htx cB2 hbx ob qB t0 hV0 hV0l
      go_wp2
      go_meet
      exact ⟨_,by rw [OLD.out]; simp,BXB.out,Keeps.refl _ _⟩
     | some v0 =>
      have hm:(op.key,v0) ∈ l:=(Tb.get_some HH.out.tab.sorted).1 hg
      have hb0:=row_of_bytes hm
      have hsum:=HH.out.sum
      rw [hg] at hfb hV0l
      obtain rfl:fb = true:=hfb.symm
      have hV0l:V0.data.toList = v0:=hV0l
      obtain ⟨kn,hkn⟩:∃ n,(textB K.data.toList).length = n:=⟨_,rfl⟩
      obtain ⟨vn,hvn⟩:∃ n,(textB V0.data.toList).length = n:=⟨_,rfl⟩
      have OLD:=Lib.hid (show So.oldB l op.key = kn + vn from by unfold So.oldB; rw [hg]; show (So.rowB (op.key,v0)).length = _; unfold So.rowB; rw [List.length_append,<- hkn,<- hvn,HKl.out,hV0l])
      have hl0:=So.row_rowsB hm
      have hV0s:V0.size<=1152921504606846976:=by
       have e:V0.size = v0.length:=(by rw [<- hV0l]; rfl)
       have h5:=HH.out.fit
       have h6:=So.rowB_length (op.key,v0)
       simp only at h6
       have h7:=So.apply_rowsB HH.out.tab.sorted ([]:List Bt.O)
       omega
      have TK:=Lib.hid (fun W=>by have h:=text13_any K HKs.out W; rw [hkn] at h; exact h)
      have TV:=Lib.hid (fun W=>by have h:=text13_any V0 hV0s W; rw [hvn] at h; exact h)
      obtain ⟨bi,hbi⟩:∃ b:Int,(((So.rowsB (Bt.apply l (ops.take i))).length:Nat):Int) = b:=⟨_,rfl⟩
      have e5:=NS.out.1
      have e6:=FITi.out.2
      have e7:=OLD.out
      have HW:=Lib.hid (show IntKind.i64.wrap ((kn:Int) + (vn:Int)) = (kn:Int) + (vn:Int)/\IntKind.i64.wrap (bi - ((kn:Int) + (vn:Int))) = bi - ((kn:Int) + (vn:Int)) from ⟨by rw [IntKind.wrap_i64]; omega,by rw [IntKind.wrap_i64]; omega⟩)
      have BXi:=Lib.hid (show Bk wx0 B5 132 [ptrV c,.int .i64 bi] by rw [<- hbi]; exact BXB.out)
      have HBI:=Lib.hid hbi
      have d3:=BXi.out.cell 1 _ rfl
      have KP7:=Lib.hid (fun W' (q:Qt wx0 W')=>(show W'.cell? ⟨B7,1,none⟩ = some (.string K) from (OBB.out.qt q).cell 1 _ rfl))
      have ZB7:=Lib.hid (fun W' (q:Qt wx0 W')=>(BXi.out.qt q).cell 1 _ rfl)
      have KS7:=Lib.hid (fun W' (q:Qt wx0 W') (x:Int)=>(show (W'.setCell ⟨B5,1,none⟩ (.int .i64 x)).cell? ⟨B7,1,none⟩ = some (.string K) from ((OBB.out.qt q).other (Ne.symm NB7.out) _).cell 1 _ rfl))
      have FZ7:=Lib.hid (fun W' (q:Qt wx0 W')=>(BXi.out.qt q).frozen 1)
      clear hg hq hB hK hlt hi hop hKe hVe hKl hVl htx cB2 hbx ob qB t0 hm hb0 hsum hV0 hV0l hkn hvn hl0 hV0s hbi e5 e6 e7
      go_upto_region 7 with (fail)
      refine wp_lastO fun KK2 hKK2=>?_
      go_cut [32] from 31 to 40 (fun _ wy=>Bk wy B5 132 [ptrV c,.int .i64 (bi - ((kn:Int) + (vn:Int)))]/\Keeps (fun k=>k = B5) wx0 wy)
      case first =>
       have FN:=Lib.hid (fun W' (q:Qt wx0 W') (x:Int) (hx:x = bi - ((kn:Int) + (vn:Int)))=>(show Bk (W'.setCell ⟨B5,1,none⟩ (.int .i64 x)) B5 132 [ptrV c,.int .i64 (bi - ((kn:Int) + (vn:Int)))]/\Keeps (fun k=>k = B5) wx0 (W'.setCell ⟨B5,1,none⟩ (.int .i64 x)) from ⟨by rw [<- hx]; exact (BXi.out.qt q).set 1 _,Keeps.trans ((Keeps.refl _ wx0).qtL q) (keeps_set W' B5 1 _) (fun _ _ e=>e)⟩))
       refine wp_region_held_drew (S:=(fun W'=>W'.cell? ⟨B7,1,none⟩ = some (.string K))) (by kernel_rfl) ?_ (fun hHeld=>?_)
       ·exact KP7.out _ (Keeps.drew (Qt.refl wx0))
       have y0:=ZB7.out _ (Keeps.drew (Qt.refl wx0))
       refine wpAnyH_take (i:=0) (oi:=_) (v:=?_) rfl (by kernel_rfl) (by kernel_rfl) (by kernel_rfl) (fun _ _ _ h=>h) (Or.inl ⟨by rfl,?_⟩) (by assumption) ?_
       rotate_left
       ·(intro w hSw; (try dsimp only at hSw); go_simp; try with_reducible rfl)
       try simp only [Act.put]
       refine wpAnyH_take (i:=2) (oi:=_) (v:=?_) rfl (by kernel_rfl) (by kernel_rfl) (by kernel_rfl) (fun _ _ _ h=>h) (Or.inl ⟨by rfl,?_⟩) (by assumption) ?_
       rotate_left
       ·(intro w hSw; (try dsimp only at hSw); go_simp; try with_reducible rfl)
       try simp only [Act.put]
       refine wpAnyH_take (i:=3) (oi:=_) (v:=?_) rfl (by kernel_rfl) (by kernel_rfl) (by kernel_rfl) (fun _ _ _ h=>h) (Or.inl ⟨by rfl,?_⟩) (by assumption) ?_
       rotate_left
       ·(intro w hSw; (try dsimp only at hSw); go_simp; try with_reducible rfl)
       try simp only [Act.put]
       refine wpAnyH_take (i:=5) (oi:=_) (v:=?_) rfl (by kernel_rfl) (by kernel_rfl) (by kernel_rfl) (fun _ _ _ h=>h) (Or.inl ⟨by rfl,?_⟩) (by assumption) ?_
       rotate_left
       ·(intro w hSw; (try dsimp only at hSw); go_simp; try with_reducible rfl)
       try simp only [Act.put]
       refine wpAnyH_ready (rs:=[1,4]) (by kernel_rfl) (by simp) ?_
       refine AllReadyH.cons rfl (fun KQ hKQ=>?_) ?_
       ·go_simp
        refine hKQ.out _ _ ?_ (fun hHeld4=>?_)
        ·(try dsimp only); exact KP7.out _ (Keeps.drew (Qt.refl wx0))
        clear hKQ KQ
        refine wpAnyH_ready (rs:=[4]) (by kernel_rfl) (by simp) ?_
        refine AllReadyH.cons rfl (fun KQ hKQ=>?_) ?_
        ·go_simp
         go_wp2_with (go_at_call 114; refine (TK.out _).mono ?_; rintro e wk ⟨rfl,qk⟩; have qk1:Qt wx0 wk:=Qt.trans (Keeps.drew (Qt.refl wx0)) qk; have yk:=ZB7.out _ qk1)
         refine hKQ.out _ _ ?_ (fun hHeld5=>?_)
         ·(try dsimp only); exact KP7.out _ qk1
         clear hKQ KQ
         refine wpAnyH_ready (rs:=[6]) (by kernel_rfl) (by simp) ?_
         refine AllReadyH.cons rfl (fun KQ hKQ=>?_) ?_
         ·go_simp
          go_wp2_with (go_at_call 114; refine (TV.out _).mono ?_; rintro e wv ⟨rfl,qv⟩; have qv1:Qt wx0 wv:=Qt.trans qk1 qv; have yv:=ZB7.out _ qv1; have zv:=FZ7.out _ qv1)
          refine hKQ.out _ _ ?_ (fun hHeld6=>?_)
          ·(try dsimp only); exact KP7.out _ qv1
          clear hKQ KQ
          refine wpAnyH_take (i:=7) (oi:=_) (v:=?_) rfl (by kernel_rfl) (by kernel_rfl) (by kernel_rfl) (fun _ _ _ h=>h) (Or.inl ⟨by rfl,?_⟩) (by assumption) ?_
          rotate_left
          ·(intro w hSw; (try dsimp only at hSw); go_simp; try with_reducible rfl)
          try simp only [Act.put]
          refine wpAnyH_take (i:=8) (oi:=_) (v:=?_) rfl (by kernel_rfl) (by kernel_rfl) (by kernel_rfl) (fun _ _ _ h=>h) (Or.inl ⟨by rfl,?_⟩) (by assumption) ?_
          rotate_left
          ·(intro w hSw; (try dsimp only at hSw); go_simp; try with_reducible rfl)
          try simp only [Act.put]
          refine wpAnyH_take (i:=9) (oi:=_) (v:=?_) rfl (by kernel_rfl) (by kernel_rfl) (by kernel_rfl) (fun _ _ _ h=>h) (Or.inl ⟨by rfl,?_⟩) (by assumption) ?_
          rotate_left
          ·(intro w hSw; (try dsimp only at hSw); go_simp; try with_reducible rfl)
          try simp only [Act.put]
          refine wpAnyH_ready (rs:=[10]) (by kernel_rfl) (by simp) ?_
          refine AllReadyH.cons rfl (fun KQ hKQ=>?_) ?_
          ·go_simp
           refine hKQ.out _ _ ?_ (fun hHeld10=>?_)
           ·(try dsimp only); exact KS7.out _ qv1 _
           clear hKQ KQ
           refine wpAnyH_done (by kernel_rfl) ?_ _
           go_wp2_with fail
           go_meet
           exact FN.out _ qv1 _ (by rw [HW.out.1]; exact HW.out.2)
          exact AllReadyH.nil
         exact AllReadyH.nil
        exact AllReadyH.nil
       refine AllReadyH.cons rfl (fun KQ hKQ=>?_) ?_
       ·go_simp
        go_wp2_with (go_at_call 114; refine (TK.out _).mono ?_; rintro e wk ⟨rfl,qk⟩; have qk1:Qt wx0 wk:=Qt.trans (Keeps.drew (Qt.refl wx0)) qk; have yk:=ZB7.out _ qk1)
        refine hKQ.out _ _ ?_ (fun hHeld4=>?_)
        ·(try dsimp only); exact KP7.out _ qk1
        clear hKQ KQ
        refine wpAnyH_ready (rs:=[1,6]) (by kernel_rfl) (by simp) ?_
        refine AllReadyH.cons rfl (fun KQ hKQ=>?_) ?_
        ·go_simp
         refine hKQ.out _ _ ?_ (fun hHeld5=>?_)
         ·(try dsimp only); exact KP7.out _ qk1
         clear hKQ KQ
         refine wpAnyH_ready (rs:=[6]) (by kernel_rfl) (by simp) ?_
         refine AllReadyH.cons rfl (fun KQ hKQ=>?_) ?_
         ·go_simp
          go_wp2_with (go_at_call 114; refine (TV.out _).mono ?_; rintro e wv ⟨rfl,qv⟩; have qv1:Qt wx0 wv:=Qt.trans qk1 qv; have yv:=ZB7.out _ qv1; have zv:=FZ7.out _ qv1)
          refine hKQ.out _ _ ?_ (fun hHeld6=>?_)
          ·(try dsimp only); exact KP7.out _ qv1
          clear hKQ KQ
          refine wpAnyH_take (i:=7) (oi:=_) (v:=?_) rfl (by kernel_rfl) (by kernel_rfl) (by kernel_rfl) (fun _ _ _ h=>h) (Or.inl ⟨by rfl,?_⟩) (by assumption) ?_
          rotate_left
          ·(intro w hSw; (try dsimp only at hSw); go_simp; try with_reducible rfl)
          try simp only [Act.put]
          refine wpAnyH_take (i:=8) (oi:=_) (v:=?_) rfl (by kernel_rfl) (by kernel_rfl) (by kernel_rfl) (fun _ _ _ h=>h) (Or.inl ⟨by rfl,?_⟩) (by assumption) ?_
          rotate_left
          ·(intro w hSw; (try dsimp only at hSw); go_simp; try with_reducible rfl)
          try simp only [Act.put]
          refine wpAnyH_take (i:=9) (oi:=_) (v:=?_) rfl (by kernel_rfl) (by kernel_rfl) (by kernel_rfl) (fun _ _ _ h=>h) (Or.inl ⟨by rfl,?_⟩) (by assumption) ?_
          rotate_left
          ·(intro w hSw; (try dsimp only at hSw); go_simp; try with_reducible rfl)
          try simp only [Act.put]
          refine wpAnyH_ready (rs:=[10]) (by kernel_rfl) (by simp) ?_
          refine AllReadyH.cons rfl (fun KQ hKQ=>?_) ?_
          ·go_simp
           refine hKQ.out _ _ ?_ (fun hHeld10=>?_)
           ·(try dsimp only); exact KS7.out _ qv1 _
           clear hKQ KQ
           refine wpAnyH_done (by kernel_rfl) ?_ _
           go_wp2_with fail
           go_meet
           exact FN.out _ qv1 _ (by rw [HW.out.1]; exact HW.out.2)
          exact AllReadyH.nil
         exact AllReadyH.nil
        refine AllReadyH.cons rfl (fun KQ hKQ=>?_) ?_
        ·go_simp
         go_wp2_with (go_at_call 114; refine (TV.out _).mono ?_; rintro e wv ⟨rfl,qv⟩; have qv1:Qt wx0 wv:=Qt.trans qk1 qv; have yv:=ZB7.out _ qv1; have zv:=FZ7.out _ qv1)
         refine hKQ.out _ _ ?_ (fun hHeld5=>?_)
         ·(try dsimp only); exact KP7.out _ qv1
         clear hKQ KQ
         refine wpAnyH_take (i:=7) (oi:=_) (v:=?_) rfl (by kernel_rfl) (by kernel_rfl) (by kernel_rfl) (fun _ _ _ h=>h) (Or.inl ⟨by rfl,?_⟩) (by assumption) ?_
         rotate_left
         ·(intro w hSw; (try dsimp only at hSw); go_simp; try with_reducible rfl)
         try simp only [Act.put]
         refine wpAnyH_ready (rs:=[1]) (by kernel_rfl) (by simp) ?_
         refine AllReadyH.cons rfl (fun KQ hKQ=>?_) ?_
         ·go_simp
          refine hKQ.out _ _ ?_ (fun hHeld7=>?_)
          ·(try dsimp only); exact KP7.out _ qv1
          clear hKQ KQ
          refine wpAnyH_take (i:=8) (oi:=_) (v:=?_) rfl (by kernel_rfl) (by kernel_rfl) (by kernel_rfl) (fun _ _ _ h=>h) (Or.inl ⟨by rfl,?_⟩) (by assumption) ?_
          rotate_left
          ·(intro w hSw; (try dsimp only at hSw); go_simp; try with_reducible rfl)
          try simp only [Act.put]
          refine wpAnyH_take (i:=9) (oi:=_) (v:=?_) rfl (by kernel_rfl) (by kernel_rfl) (by kernel_rfl) (fun _ _ _ h=>h) (Or.inl ⟨by rfl,?_⟩) (by assumption) ?_
          rotate_left
          ·(intro w hSw; (try dsimp only at hSw); go_simp; try with_reducible rfl)
          try simp only [Act.put]
          refine wpAnyH_ready (rs:=[10]) (by kernel_rfl) (by simp) ?_
          refine AllReadyH.cons rfl (fun KQ hKQ=>?_) ?_
          ·go_simp
           refine hKQ.out _ _ ?_ (fun hHeld10=>?_)
           ·(try dsimp only); exact KS7.out _ qv1 _
           clear hKQ KQ
           refine wpAnyH_done (by kernel_rfl) ?_ _
           go_wp2_with fail
           go_meet
           exact FN.out _ qv1 _ (by rw [HW.out.1]; exact HW.out.2)
          exact AllReadyH.nil
         exact AllReadyH.nil
        exact AllReadyH.nil
       exact AllReadyH.nil
      case rest =>
       refine hKK2 _ _ ?_
       have FN:=Lib.hid hcut
       clear hcut
       go_wp2
       go_meet
       exact ⟨_,by rw [OLD.out,HBI.out]; omega,FN.out.1,FN.out.2⟩
    case rest =>
     refine hKK _ _ ?_
     obtain ⟨b1,hb1,hbx1,hkx1⟩:=hcut
     rename World=>wx
     have OB:=Lib.hid (OBB.out.kept hkx1 NB7.out)
     have KX:=Lib.hid (Keeps.trans KXB.out hkx1 (fun _ _ e=>e))
     have BX:=Lib.hid hbx1
     have EB:=Lib.hid hb1
     clear hb1 hbx1 hkx1 hq hB hK hlt hi hop hKe hVe hKl hVl htx cB2 hbx ob qB t0 hV0 hV0l hfb
     cases hdel:op.del with
     | true =>
      rw [hdel] at OB
      have d0:=OB.out.cell 0 _ rfl
      have FN:=Lib.hid (show AfAt wc B5 c l ops (.int .i64 ((i:Int) + 1)) wx from ⟨i + 1,HLTi.out,by simp,by
       have e:=NS.out.2
       have e2:So.newB op = 0:=by unfold So.newB; rw [hdel]; rfl
       have e3:=EB.out
       have h:=BX.out
       rw [show b1 = (((So.rowsB (Bt.apply l (ops.take (i + 1)))).length:Nat):Int) by omega] at h
       exact h,KX.out⟩)
      clear hdel
      go_wp2
      rw [hw1]
      exact ⟨FN.out,HM.out⟩
     | false =>
      rw [hdel] at OB
      have e2:So.newB op = (So.rowB (op.key,op.val)).length:=by unfold So.newB; rw [hdel]; rfl
      obtain ⟨kn,hkn⟩:∃ n,(textB K.data.toList).length = n:=⟨_,rfl⟩
      obtain ⟨vn,hvn⟩:∃ n,(textB V.data.toList).length = n:=⟨_,rfl⟩
      have e4:So.newB op = kn + vn:=by rw [e2]; unfold So.rowB; rw [List.length_append,<- hkn,<- hvn,HKl.out,HVl.out]
      have TK:=Lib.hid (fun W=>by have h:=text13_any K HKs.out W; rw [hkn] at h; exact h)
      have TV:=Lib.hid (fun W=>by have h:=text13_any V HVs.out W; rw [hvn] at h; exact h)
      have hbd:=FITi.out
      have e5:=NS.out.2
      have e7:=NS.out.1
      have e6:=EB.out
      have HW:=Lib.hid (show IntKind.i64.wrap ((kn:Int) + (vn:Int)) = (kn:Int) + (vn:Int)/\IntKind.i64.wrap (b1 + ((kn:Int) + (vn:Int))) = (((So.rowsB (Bt.apply l (ops.take (i + 1)))).length:Nat):Int) from ⟨by rw [IntKind.wrap_i64]; omega,by rw [IntKind.wrap_i64]; omega⟩)
      have d0:=OB.out.cell 0 _ rfl
      have d1:=OB.out.cell 1 _ rfl
      have d2:=OB.out.cell 2 _ rfl
      have d3:=BX.out.cell 1 _ rfl
      have d3':=BX.out.frozen 1
      have KP9:=Lib.hid (fun W' (q:Qt wx W')=>(show W'.cell? ⟨B7,1,none⟩ = some (.string K)/\W'.cell? ⟨B7,2,none⟩ = some (.string V) from ⟨(OB.out.qt q).cell 1 _ rfl,(OB.out.qt q).cell 2 _ rfl⟩))
      have ZB9:=Lib.hid (fun W' (q:Qt wx W')=>(BX.out.qt q).cell 1 _ rfl)
      have KS9:=Lib.hid (fun W' (q:Qt wx W') (x:Int)=>(show (W'.setCell ⟨B5,1,none⟩ (.int .i64 x)).cell? ⟨B7,1,none⟩ = some (.string K)/\(W'.setCell ⟨B5,1,none⟩ (.int .i64 x)).cell? ⟨B7,2,none⟩ = some (.string V) from ⟨((OB.out.qt q).other (Ne.symm NB7.out) _).cell 1 _ rfl,((OB.out.qt q).other (Ne.symm NB7.out) _).cell 2 _ rfl⟩))
      have FZ9:=Lib.hid (fun W' (q:Qt wx W')=>(BX.out.qt q).frozen 1)
      clear hdel e2 hkn hvn e4 hbd e5 e6 e7
      go_upto_region 9 with (fail)
      refine wp_lastO fun KK hKK=>?_
      go_cut [45] from 44 to 54 (fun _ wy=>AfAt wc B5 c l ops (.int .i64 ((i:Int) + 1)) wy)
      case first =>
       have FN:=Lib.hid (fun W' (q:Qt wx W') (x:Int) (hx:x = (((So.rowsB (Bt.apply l (ops.take (i + 1)))).length:Nat):Int))=>(show AfAt wc B5 c l ops (.int .i64 ((i:Int) + 1)) (W'.setCell ⟨B5,1,none⟩ (.int .i64 x)) from ⟨i + 1,HLTi.out,by simp,by rw [<- hx]; exact (BX.out.qt q).set 1 _,Keeps.trans (KX.out.qtL q) (keeps_set W' B5 1 _) (fun _ _ e=>e)⟩))
       clear HH CL HLE HK0 Q0 B2 B4 HZ KP HLT SS Q5 START HB HK HQ EBB OBB BXB KXB NS FITi GT NB7 HKs HVs HKl HVl HLTi EB BX OB KX x1 x2 x3 o1 t0' d0 d1 d2 d3 d3'
       refine wp_region_held_drew (S:=(fun W'=>W'.cell? ⟨B7,1,none⟩ = some (.string K)/\W'.cell? ⟨B7,2,none⟩ = some (.string V))) (by kernel_rfl) ?_ (fun hHeld=>?_)
       ·exact KP9.out _ (Keeps.drew (Qt.refl wx))
       have y0:=ZB9.out _ (Keeps.drew (Qt.refl wx))
       refine wpAnyH_take (i:=0) (oi:=_) (v:=?_) rfl (by kernel_rfl) (by kernel_rfl) (by kernel_rfl) (fun _ _ _ h=>h) (Or.inl ⟨by rfl,?_⟩) (by assumption) ?_
       rotate_left
       ·(intro w hSw; (try dsimp only at hSw); go_simp; try with_reducible rfl)
       try simp only [Act.put]
       refine wpAnyH_take (i:=2) (oi:=_) (v:=?_) rfl (by kernel_rfl) (by kernel_rfl) (by kernel_rfl) (fun _ _ _ h=>h) (Or.inl ⟨by rfl,?_⟩) (by assumption) ?_
       rotate_left
       ·(intro w hSw; (try dsimp only at hSw); go_simp; try with_reducible rfl)
       try simp only [Act.put]
       refine wpAnyH_take (i:=3) (oi:=_) (v:=?_) rfl (by kernel_rfl) (by kernel_rfl) (by kernel_rfl) (fun _ _ _ h=>h) (Or.inl ⟨by rfl,?_⟩) (by assumption) ?_
       rotate_left
       ·(intro w hSw; (try dsimp only at hSw); go_simp; try with_reducible rfl)
       try simp only [Act.put]
       refine wpAnyH_take (i:=5) (oi:=_) (v:=?_) rfl (by kernel_rfl) (by kernel_rfl) (by kernel_rfl) (fun _ _ _ h=>h) (Or.inl ⟨by rfl,?_⟩) (by assumption) ?_
       rotate_left
       ·(intro w hSw; (try dsimp only at hSw); go_simp; try with_reducible rfl)
       try simp only [Act.put]
       refine wpAnyH_take (i:=6) (oi:=_) (v:=?_) rfl (by kernel_rfl) (by kernel_rfl) (by kernel_rfl) (fun _ _ _ h=>h) (Or.inl ⟨by rfl,?_⟩) (by assumption) ?_
       rotate_left
       ·(intro w hSw; (try dsimp only at hSw); go_simp; try with_reducible rfl)
       try simp only [Act.put]
       refine wpAnyH_ready (rs:=[1,4]) (by kernel_rfl) (by simp) ?_
       refine AllReadyH.cons rfl (fun KQ hKQ=>?_) ?_
       ·go_simp
        refine hKQ.out _ _ ?_ (fun hHeld5=>?_)
        ·(try dsimp only); exact KP9.out _ (Keeps.drew (Qt.refl wx))
        clear hKQ KQ
        refine wpAnyH_ready (rs:=[4]) (by kernel_rfl) (by simp) ?_
        refine AllReadyH.cons rfl (fun KQ hKQ=>?_) ?_
        ·go_simp
         go_wp2_with (go_at_call 114; refine (TK.out _).mono ?_; rintro e wk ⟨rfl,qk⟩; have qk1:Qt wx wk:=Qt.trans (Keeps.drew (Qt.refl wx)) qk; have yk:=ZB9.out _ qk1)
         refine hKQ.out _ _ ?_ (fun hHeld6=>?_)
         ·(try dsimp only); exact KP9.out _ qk1
         clear hKQ KQ
         refine wpAnyH_ready (rs:=[7]) (by kernel_rfl) (by simp) ?_
         refine AllReadyH.cons rfl (fun KQ hKQ=>?_) ?_
         ·go_simp
          go_wp2_with (go_at_call 114; refine (TV.out _).mono ?_; rintro e wv ⟨rfl,qv⟩; have qv1:Qt wx wv:=Qt.trans qk1 qv; have yv:=ZB9.out _ qv1; have zv:=FZ9.out _ qv1)
          refine hKQ.out _ _ ?_ (fun hHeld7=>?_)
          ·(try dsimp only); exact KP9.out _ qv1
          clear hKQ KQ
          refine wpAnyH_take (i:=8) (oi:=_) (v:=?_) rfl (by kernel_rfl) (by kernel_rfl) (by kernel_rfl) (fun _ _ _ h=>h) (Or.inl ⟨by rfl,?_⟩) (by assumption) ?_
          rotate_left
          ·(intro w hSw; (try dsimp only at hSw); go_simp; try with_reducible rfl)
          try simp only [Act.put]
          refine wpAnyH_take (i:=9) (oi:=_) (v:=?_) rfl (by kernel_rfl) (by kernel_rfl) (by kernel_rfl) (fun _ _ _ h=>h) (Or.inl ⟨by rfl,?_⟩) (by assumption) ?_
          rotate_left
          ·(intro w hSw; (try dsimp only at hSw); go_simp; try with_reducible rfl)
          try simp only [Act.put]
          refine wpAnyH_take (i:=10) (oi:=_) (v:=?_) rfl (by kernel_rfl) (by kernel_rfl) (by kernel_rfl) (fun _ _ _ h=>h) (Or.inl ⟨by rfl,?_⟩) (by assumption) ?_
          rotate_left
          ·(intro w hSw; (try dsimp only at hSw); go_simp; try with_reducible rfl)
          try simp only [Act.put]
          refine wpAnyH_ready (rs:=[11]) (by kernel_rfl) (by simp) ?_
          refine AllReadyH.cons rfl (fun KQ hKQ=>?_) ?_
          ·go_simp
           refine hKQ.out _ _ ?_ (fun hHeld11=>?_)
           ·(try dsimp only); exact KS9.out _ qv1 _
           clear hKQ KQ
           refine wpAnyH_done (by kernel_rfl) ?_ _
           go_wp2_with fail
           go_meet
           exact FN.out _ qv1 _ (by rw [HW.out.1]; exact HW.out.2)
          exact AllReadyH.nil
         exact AllReadyH.nil
        exact AllReadyH.nil
       refine AllReadyH.cons rfl (fun KQ hKQ=>?_) ?_
       ·go_simp
        go_wp2_with (go_at_call 114; refine (TK.out _).mono ?_; rintro e wk ⟨rfl,qk⟩; have qk1:Qt wx wk:=Qt.trans (Keeps.drew (Qt.refl wx)) qk; have yk:=ZB9.out _ qk1)
        refine hKQ.out _ _ ?_ (fun hHeld5=>?_)
        ·(try dsimp only); exact KP9.out _ qk1
        clear hKQ KQ
        refine wpAnyH_ready (rs:=[1,7]) (by kernel_rfl) (by simp) ?_
        refine AllReadyH.cons rfl (fun KQ hKQ=>?_) ?_
        ·go_simp
         refine hKQ.out _ _ ?_ (fun hHeld6=>?_)
         ·(try dsimp only); exact KP9.out _ qk1
         clear hKQ KQ
         refine wpAnyH_ready (rs:=[7]) (by kernel_rfl) (by simp) ?_
         refine AllReadyH.cons rfl (fun KQ hKQ=>?_) ?_
         ·go_simp
          go_wp2_with (go_at_call 114; refine (TV.out _).mono ?_; rintro e wv ⟨rfl,qv⟩; have qv1:Qt wx wv:=Qt.trans qk1 qv; have yv:=ZB9.out _ qv1; have zv:=FZ9.out _ qv1)
          refine hKQ.out _ _ ?_ (fun hHeld7=>?_)
          ·(try dsimp only); exact KP9.out _ qv1
          clear hKQ KQ
          refine wpAnyH_take (i:=8) (oi:=_) (v:=?_) rfl (by kernel_rfl) (by kernel_rfl) (by kernel_rfl) (fun _ _ _ h=>h) (Or.inl ⟨by rfl,?_⟩) (by assumption) ?_
          rotate_left
          ·(intro w hSw; (try dsimp only at hSw); go_simp; try with_reducible rfl)
          try simp only [Act.put]
          refine wpAnyH_take (i:=9) (oi:=_) (v:=?_) rfl (by kernel_rfl) (by kernel_rfl) (by kernel_rfl) (fun _ _ _ h=>h) (Or.inl ⟨by rfl,?_⟩) (by assumption) ?_
          rotate_left
          ·(intro w hSw; (try dsimp only at hSw); go_simp; try with_reducible rfl)
          try simp only [Act.put]
          refine wpAnyH_take (i:=10) (oi:=_) (v:=?_) rfl (by kernel_rfl) (by kernel_rfl) (by kernel_rfl) (fun _ _ _ h=>h) (Or.inl ⟨by rfl,?_⟩) (by assumption) ?_
          rotate_left
          ·(intro w hSw; (try dsimp only at hSw); go_simp; try with_reducible rfl)
          try simp only [Act.put]
          refine wpAnyH_ready (rs:=[11]) (by kernel_rfl) (by simp) ?_
          refine AllReadyH.cons rfl (fun KQ hKQ=>?_) ?_
          ·go_simp
           refine hKQ.out _ _ ?_ (fun hHeld11=>?_)
           ·(try dsimp only); exact KS9.out _ qv1 _
           clear hKQ KQ
           refine wpAnyH_done (by kernel_rfl) ?_ _
           go_wp2_with fail
           go_meet
           exact FN.out _ qv1 _ (by rw [HW.out.1]; exact HW.out.2)
          exact AllReadyH.nil
         exact AllReadyH.nil
        refine AllReadyH.cons rfl (fun KQ hKQ=>?_) ?_
        ·go_simp
         go_wp2_with (go_at_call 114; refine (TV.out _).mono ?_; rintro e wv ⟨rfl,qv⟩; have qv1:Qt wx wv:=Qt.trans qk1 qv; have yv:=ZB9.out _ qv1; have zv:=FZ9.out _ qv1)
         refine hKQ.out _ _ ?_ (fun hHeld6=>?_)
         ·(try dsimp only); exact KP9.out _ qv1
         clear hKQ KQ
         refine wpAnyH_take (i:=8) (oi:=_) (v:=?_) rfl (by kernel_rfl) (by kernel_rfl) (by kernel_rfl) (fun _ _ _ h=>h) (Or.inl ⟨by rfl,?_⟩) (by assumption) ?_
         rotate_left
         ·(intro w hSw; (try dsimp only at hSw); go_simp; try with_reducible rfl)
         try simp only [Act.put]
         refine wpAnyH_ready (rs:=[1]) (by kernel_rfl) (by simp) ?_
         refine AllReadyH.cons rfl (fun KQ hKQ=>?_) ?_
         ·go_simp
          refine hKQ.out _ _ ?_ (fun hHeld8=>?_)
          ·(try dsimp only); exact KP9.out _ qv1
          clear hKQ KQ
          refine wpAnyH_take (i:=9) (oi:=_) (v:=?_) rfl (by kernel_rfl) (by kernel_rfl) (by kernel_rfl) (fun _ _ _ h=>h) (Or.inl ⟨by rfl,?_⟩) (by assumption) ?_
          rotate_left
          ·(intro w hSw; (try dsimp only at hSw); go_simp; try with_reducible rfl)
          try simp only [Act.put]
          refine wpAnyH_take (i:=10) (oi:=_) (v:=?_) rfl (by kernel_rfl) (by kernel_rfl) (by kernel_rfl) (fun _ _ _ h=>h) (Or.inl ⟨by rfl,?_⟩) (by assumption) ?_
          rotate_left
          ·(intro w hSw; (try dsimp only at hSw); go_simp; try with_reducible rfl)
          try simp only [Act.put]
          refine wpAnyH_ready (rs:=[11]) (by kernel_rfl) (by simp) ?_
          refine AllReadyH.cons rfl (fun KQ hKQ=>?_) ?_
          ·go_simp
           refine hKQ.out _ _ ?_ (fun hHeld11=>?_)
           ·(try dsimp only); exact KS9.out _ qv1 _
           clear hKQ KQ
           refine wpAnyH_done (by kernel_rfl) ?_ _
           go_wp2_with fail
           go_meet
           exact FN.out _ qv1 _ (by rw [HW.out.1]; exact HW.out.2)
          exact AllReadyH.nil
         exact AllReadyH.nil
        exact AllReadyH.nil
       exact AllReadyH.nil
      case rest =>
       have FN:=Lib.hid hcut
       clear hcut
       refine hKK _ _ ?_
       go_wp2
       rw [hw1]
       exact ⟨FN.out,HM.out⟩
   ·obtain rfl:i = ops.length:=by omega
    have zlt:decide ((ops.length:Int) < (ops.length:Int)) = false:=decide_eq_false (by omega)
    have zlt':decide (ops.length < ops.length) = false:=decide_eq_false (by omega)
    rw [List.take_length] at hB
    have tc:=SS.out.tab.kept hK (fun j hj e=>by subst e; exact SS.out.nb hj)
    have hne:ops ≠ []->g ≠ c:=fun h e=>by
     have h1:=recs_lt (n:=3) (by decide) (fun _=>rfl) HH.out.inn h
     have h2:=SS.out.nc
     omega
    have AP:=apply12_any wr tc (recs_turn HH.out.inn hq) hne HH.out.txt HH.out.len HH.out.sum
    have z0:=hB.cell 0 _ rfl
    have HBE:=Lib.hid hB
    have B4r:=Lib.hid (((B4.out.qt Q5.out).kept hK (fun e=>by omega)))
    clear hq hB hK hlt hi tc hne
    go_wp2_with fail
    refine AP.mono ?_
    rintro e w6 ⟨rfl,A6,t6,a6,k6⟩
    have hnc:=SS.out.nc
    have b5:=HBE.out.kept k6 (fun e=>SS.out.nb (e ▸ SS.out.tab.own))
    have b4:=B4r.out.kept k6 (fun e=>by omega)
    have p0:=b5.cell 0 _ rfl
    have p1:=b5.cell 1 _ rfl
    have r0:=b4.cell 0 _ rfl
    have r1:=b4.cell 1 _ rfl
    have s0:=b4.frozen 0
    have s1:=b4.frozen 1
    have B4e:=Lib.hid b4
    have q6:Qt w w6:=Keeps.trans (S:=fun _=>False) HQ.out k6 (fun j hj e=>by omega)
    have q8:Qt w ((w6.setCell ⟨w.heap.size + 1,0,none⟩ (ptrV c)).setCell ⟨w.heap.size + 1,1,none⟩ (.int .i64 (((So.rowsB (Bt.apply l ops)).length:Nat):Int))):=qt_set (qt_set q6 (Nat.le_succ _) 0 _) (Nat.le_succ _) 1 _
    have nA:∀ j,A6 j->j ≠ w.heap.size + 1:=fun j hj e=>by
     rcases a6 j hj with h | h
     ·exact SS.out.n4 (e ▸ h)
     ·have:=(B4r.out).lt; omega
    have t8:=(t6.kept (keeps_set w6 (w.heap.size + 1) 0 (ptrV c)) nA).kept (keeps_set _ (w.heap.size + 1) 1 (.int .i64 (((So.rowsB (Bt.apply l ops)).length:Nat):Int))) nA
    have FIN:=Lib.hid (show Qt w ((w6.setCell ⟨w.heap.size + 1,0,none⟩ (ptrV c)).setCell ⟨w.heap.size + 1,1,none⟩ (.int .i64 (((So.rowsB (Bt.apply l ops)).length:Nat):Int)))/\Tbl ((w6.setCell ⟨w.heap.size + 1,0,none⟩ (ptrV c)).setCell ⟨w.heap.size + 1,1,none⟩ (.int .i64 (((So.rowsB (Bt.apply l ops)).length:Nat):Int))) c (Bt.apply l ops) A6/\∀ k,A6 k->A k\/w.heap.size<=k from ⟨q8,t8,fun k hk=>by
     rcases a6 k hk with h | h
     ·exact SS.out.all k h
     ·have:=HQ.out.size; exact .inr (by omega)⟩)
    clear AP t6 a6 k6 b5 b4 q6 q8 nA t8
    go_wp2
    refine bodyPost_ret (results_cell_row (p:=4) (ty:=132) (by kernel_rfl) _ _ (w.heap.size + 1) 132 #[ptrV c,.int .i64 (((So.rowsB (Bt.apply l ops)).length:Nat):Int)] (0,0) _ rfl ((B4e.out.set 0 _).set 1 _) Tryz.underlying132 rfl (by kernel_rfl)) rfl ⟨c,A6,rfl,FIN.out.2.1,by omega,FIN.out.2.2,FIN.out.1⟩
end Go.Proofs.YthjjfjhajadimaaGreatDoor
