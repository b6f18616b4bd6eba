/-
  Joined: ORdP, ORead.
-/
import Derived.Test.YthjjfjhajadimaaGreatDoorP36
namespace Go.Proofs.YthjjfjhajadimaaGreatDoor
namespace So
open Tb
theorem best_in {a b:Option (Nat × List UInt8)} {p:Nat × List UInt8} (h:G.best a b = some p):a = some p\/b = some p:=by
 cases a with
 | none=>cases b with
  | none=>cases h
  | some y=>exact .inr h
 | some x=>cases b with
  | none=>exact .inl h
  | some y =>
   rw [G.best_some] at h
   split at h
   ·exact .inr h
   ·exact .inl h
theorem slots_ok {d:DS} (h:(d.slotsR 0).2.2 = 0):d.off = false/\1<=(d.slotsR 0).2.1/\(d.slotsR 0).2.1<=1099511627776/\(d.slotsR 0).1.length<=234:=by
 unfold DS.slotsR at h ⊢
 split at h
 ·cases h
 ·split at h
  ·cases h
  ·rename_i hf ho
   rw [if_neg hf,if_neg ho]
   cases hb:G.best (G.slotV (d.read (0:Int).toNat) 0) (G.slotV (d.read ((0:Int).toNat + 1)) 1) with
   | none=>rw [hb] at h; cases h
   | some p =>
    obtain ⟨v,t⟩:=p
    show d.off = false/\1<=v/\v<=1099511627776/\t.length<=234
    refine ⟨by simpa using ho,?_⟩
    rcases best_in hb with e | e
    ·have k:=G.slotV_some e; exact ⟨k.1,k.2.1,k.2.2.2.1⟩
    ·have k:=G.slotV_some e; exact ⟨k.1,k.2.1,k.2.2.2.1⟩
theorem log_mem {s:Nat->Option (List UInt8)} {n:Nat}:∀ (f i:Nat) {t:List UInt8},t ∈ J.log s n f i->J.cost t.length<=n
 | 0,_,_,h=>by cases h
 | f + 1,i,t,h=>by
  rw [J.log] at h
  cases hr:J.rec s n i with
  | none=>rw [hr] at h; cases h
  | some v =>
   rw [hr] at h
   rcases List.mem_cons.1 h with rfl | h
   ·have:=(J.rec_whole hr).room; omega
   ·exact log_mem f _ h
theorem replay_ok {d:DS} {v:Nat} (h64:64<=d.dur.length) (hm:d.dur.length<=65536) (ho:d.off = false) (hv1:1<=v) (hv2:v<=1099511627776):(J.replay d (logAt d.dur.length) (many d.dur.length) v).2 = 0/\∀ t ∈ (J.replay d (logAt d.dur.length) (many d.dur.length) v).1,t.length<=8388608:=by
 rw [replay_yes (refE_yes (may_log h64 rfl hm hv1 hv2) ho)]
 refine ⟨rfl,fun t ht=>?_⟩
 have h1:=log_mem _ _ ht
 have h2:=J.cost_le t.length
 have h3:=J.cost_pos t.length
 obtain ⟨k,hk⟩:∃ k,J.cost t.length = k + 1:=⟨J.cost t.length - 1,by omega⟩
 rw [hk] at h1 h2
 have h2:t.length<=229 + 233 * k:=h2
 unfold many each at h1
 omega
theorem opB_newB (o:Bt.O):newB o<=(Bt.opB o).length/\2<=(Bt.opB o).length:=by
 have h1:=Lib.uvarint_pos o.key.length
 unfold newB Bt.opB
 split
 ·simp [textB]; omega
 ·have e:=rowB_length (o.key,o.val)
  simp only at e
  rw [e]
  simp [textB]
  omega
theorem opsB_two (ops:List Bt.O):ops.length * 2<=(Bt.opsB ops).length/\opsN ops<=(Bt.opsB ops).length:=by
 induction ops with
 | nil=>exact ⟨Nat.zero_le _,Nat.zero_le _⟩
 | cons o os ih =>
  have e:Bt.opsB (o :: os) = Bt.opB o ++ Bt.opsB os:=by simp [Bt.opsB]
  have h:=opB_newB o
  have e2:opsN (o :: os) = newB o + opsN os:=by simp [opsN]
  rw [e,e2,List.length_append,List.length_cons]
  omega
theorem opsB_mem {ops:List Bt.O} {o:Bt.O} (h:o ∈ ops):(Bt.opB o).length<=(Bt.opsB ops).length:=by
 induction ops with
 | nil=>cases h
 | cons a os ih =>
  have e:Bt.opsB (a :: os) = Bt.opB a ++ Bt.opsB os:=by simp [Bt.opsB]
  rw [e,List.length_append]
  rcases List.mem_cons.1 h with rfl | h
  ·omega
  ·have:=ih h; omega
theorem dec_small {t:Txt} {ops:List Bt.O} (h:Bt.decD t = .inr ops) (ht:t.length<=8388608):Bt.Norm ops/\Bt.Small ops/\opsN ops<=8388608:=by
 obtain ⟨hn,he⟩:=Bt.decD_inv h
 have hl:(Bt.opsB ops).length<=t.length:=by rw [<- he]; unfold Bt.encB; rw [List.length_append]; omega
 have h2:=opsB_two ops
 refine ⟨hn,⟨by omega,fun o ho=>?_⟩,by omega⟩
 have h3:=opsB_mem ho
 have h4:o.key.length<=(Bt.opB o).length:=by unfold Bt.opB; split <;> simp [textB] <;> omega
 have h5:o.del = false->o.val.length<=(Bt.opB o).length:=fun e=>by unfold Bt.opB; rw [e]; simp [textB]; omega
 have h6:o.del = true->o.val = []:=Bt.clean_iff.1 (hn.clean o ho)
 refine ⟨by omega,?_⟩
 cases hd:o.del with
 | true=>rw [h6 hd]; simp
 | false=>have:=h5 hd; omega
end So
end Go.Proofs.YthjjfjhajadimaaGreatDoor
namespace Go.Proofs.YthjjfjhajadimaaGreatDoor
open Go.RowKit Go.WideShapes
set_option maxRecDepth 100000
theorem read13_bad {n0:Nat} {ad:Nat->Addr} {w w':World} {b:Nat} {d:DS} {S S':Nat->Prop} {r:Nat ⊕ (List Tb.R × Nat)} (hr:r = .inl 15) (h:DkTo n0 ad w b d S w' S'):ReadTo n0 ad w b d r S (.panicked [{ v:=.iface 163 (.agg #[]),recovered:=false }]) w':=by
 subst hr
 exact ⟨S',h,by simp⟩
section
variable {n0:Nat} {ad:Nat->Addr} {w:World} {b:Nat} {d:DS} {S:Nat->Prop}
set_option maxHeartbeats 8000000 in
theorem read13_err (h:Dk n0 ad w b d S) (hver:(d.slotsR 0).2.1<=1099511627776) (hne:(d.slotsR 0).2.2 ≠ 0) (h15:(d.slotsR 0).2.2 ≠ 15) :
  Calls Tryz.prog 87 #[layV b d.dur.length] w (ReadTo n0 ad w b d (So.lies d) S):=by
 have HLI:=Lib.hid (show So.lies d = .inl (d.slotsR 0).2.2 from if_pos hne)
 have EV:=Lib.hid (errV_pos ad (Nat.pos_of_ne_zero hne))
 have H15:=Lib.hid h15
 have HD:=Lib.hid h
 have HN6:=Lib.hid h.len
 obtain ⟨W,hW,q0,bL,bR,hzW⟩:∃ W,(w.alloc (.cells (layCells b d.dur.length) 135)).alloc (.cells #[.pointer none,.int .i64 0] 132) = W/\Qt w W/\Bk W w.heap.size 135 (layCells b d.dur.length).toList/\Bk W (w.heap.size + 1) 132 [.pointer none,.int .i64 0]/\W.heap.size = w.heap.size + 2 :=
  ⟨_,rfl,((Qt.refl w).alloc _).alloc _,(Bk.new w _ _).alloc _,by have k:=Bk.new (w.alloc (.cells (layCells b d.dur.length) 135)) 132 #[.pointer none,.int .i64 0]; rwa [World.size_alloc] at k,by simp⟩
 have SR:=dk_sread (h.qt q0) 0
 unfold readT at SR
 have BI:=Lib.hid (fun W (q:Qt w W) (s:ByteArray) (hs:s.size<=140737488355328)=>bytesIn13_any ad (b:=b) (d:=d) (S:=S) s hs W (h.qt q).errs (h.qt q).disk)
 have AO:=Lib.hid (fun W=>areaOf13_any b d.dur.length (d.slotsR 0).2.1 hver W)
 have AR:=Lib.hid (fun W (q:Qt w W) i n st z hst hn=>dk_aread (h.qt q) i n st z hst hn)
 have HVER:=Lib.hid hver
 have Q0:=Lib.hid q0
 obtain ⟨GL,hGL⟩:∃ x,w.heap.size = x:=⟨_,rfl⟩
 obtain ⟨GR,hGR⟩:∃ x,GL + 1 = x:=⟨_,rfl⟩
 rw [hGL] at bL bR
 rw [hGR] at bR
 have HG:=Lib.hid (show w.heap.size<=GL/\w.heap.size<=GR/\¬ GL = GR/\GL < W.heap.size/\GR < W.heap.size from ⟨by omega,by omega,by omega,by omega,by omega⟩)
 have NSB:=Lib.hid (show ¬ S GL/\¬ S GR from ⟨fun e=>by have:=h.lt _ e; omega,fun e=>by have:=h.lt _ e; omega⟩)
 obtain ⟨st,hst⟩:∃ s,(ByteArray.mk (d.slotsR 0).1.toArray) = s:=⟨_,rfl⟩
 have HST:=Lib.hid (show st.data.toList = (d.slotsR 0).1 from by rw [<- hst])
 rw [hst] at SR
 obtain ⟨n,hn⟩:∃ n,d.dur.length = n:=⟨_,rfl⟩
 rw [hn] at bL BI AO hW ⊢
 unfold layV at BI AO ⊢
 unfold layCells at bL AO hW
 have HN:=Lib.hid hn
 obtain ⟨vr,hvr⟩:∃ x,(d.slotsR 0).2.1 = x:=⟨_,rfl⟩
 rw [hvr] at SR AO
 have HVR:=Lib.hid hvr
 generalize hE1:So.each n = ea at *
 generalize hE2:So.logAt n = lg at *
 generalize hE3:So.many n = mn at *
 have HL3:=Lib.hid (show So.each n = ea/\So.logAt n = lg/\So.many n = mn from ⟨hE1,hE2,hE3⟩)
 have BL:=Lib.hid bL
 have BR:=Lib.hid bR
 have p0:=bL.cell 0 _ rfl
 clear h q0 hver hst hn hvr hE1 hE2 hE3 hzW bL bR
 rw [EV.out] at SR
 obtain ⟨er,her⟩:∃ x,(d.slotsR 0).2.2 = x:=⟨_,rfl⟩
 rw [her] at SR HLI EV H15
 clear her hne h15 AO AR BI
 go_enter Tryz.func87,Tryz.ntmps87
 go_wp2_with fail
 refine SR.mono ?_
 rintro e w1 ⟨rfl,q1⟩
 have B1:=Lib.hid (BR.out.qt q1)
 have r0:=B1.out.cell 0 _ rfl
 have r1:=B1.out.cell 1 _ rfl
 have s0:=B1.out.frozen 0
 have s1:=B1.out.frozen 1
 have FIN:=Lib.hid (show ReadTo n0 ad w b d (So.lies d) S (.returned (.tuple #[.int .i64 0,.agg #[.pointer none,.int .i64 0],.iface 335 (.pointer (some (ad er)))])) ((w1.setCell ⟨GR,0,none⟩ (.pointer none)).setCell ⟨GR,1,none⟩ (.int .i64 0)) from by
  rw [HLI.out]
  exact ⟨S,((HD.out.quiet (Qt.trans Q0.out q1)).box (by have:=HD.out.base; have:=HG.out; omega) HG.out.2.1 NSB.out.2 0 _).box (by have:=HD.out.base; have:=HG.out; omega) HG.out.2.1 NSB.out.2 1 _,by simp only [H15.out,if_false,EV.out]⟩)
 clear SR q1
 go_wp2
 exact bodyPost_ret (results_read (u:=2) (p:=3) (v:=4) (by kernel_rfl) _ _ GR _ _ rfl ((B1.out.set 0 (.pointer none)).set 1 (.int .i64 0))) rfl FIN.out
set_option maxHeartbeats 8000000 in
theorem read13_parse (h:Dk n0 ad w b d S) (hver:(d.slotsR 0).2.1<=1099511627776) (he:(d.slotsR 0).2.2 = 0) (hl:(d.slotsR 0).1.length<=234) (hp:So.parse d.dur.length (d.slotsR 0).1 = none) :
  Calls Tryz.prog 87 #[layV b d.dur.length] w (ReadTo n0 ad w b d (So.lies d) S):=by
 have HLI:=Lib.hid (show So.lies d = .inl 15 from by unfold So.lies; rw [if_neg (fun k=>k he),hp])
 have HP:=Lib.hid hp
 have HLV:=Lib.hid hl
 have HD:=Lib.hid h
 have HN6:=Lib.hid h.len
 obtain ⟨W,hW,q0,bL,bR,hzW⟩:∃ W,(w.alloc (.cells (layCells b d.dur.length) 135)).alloc (.cells #[.pointer none,.int .i64 0] 132) = W/\Qt w W/\Bk W w.heap.size 135 (layCells b d.dur.length).toList/\Bk W (w.heap.size + 1) 132 [.pointer none,.int .i64 0]/\W.heap.size = w.heap.size + 2 :=
  ⟨_,rfl,((Qt.refl w).alloc _).alloc _,(Bk.new w _ _).alloc _,by have k:=Bk.new (w.alloc (.cells (layCells b d.dur.length) 135)) 132 #[.pointer none,.int .i64 0]; rwa [World.size_alloc] at k,by simp⟩
 have SR:=dk_sread (h.qt q0) 0
 unfold readT at SR
 have BI:=Lib.hid (fun W (q:Qt w W) (s:ByteArray) (hs:s.size<=140737488355328)=>bytesIn13_any ad (b:=b) (d:=d) (S:=S) s hs W (h.qt q).errs (h.qt q).disk)
 have AO:=Lib.hid (fun W=>areaOf13_any b d.dur.length (d.slotsR 0).2.1 hver W)
 have AR:=Lib.hid (fun W (q:Qt w W) i n st z hst hn=>dk_aread (h.qt q) i n st z hst hn)
 have HVER:=Lib.hid hver
 have Q0:=Lib.hid q0
 obtain ⟨GL,hGL⟩:∃ x,w.heap.size = x:=⟨_,rfl⟩
 obtain ⟨GR,hGR⟩:∃ x,GL + 1 = x:=⟨_,rfl⟩
 rw [hGL] at bL bR
 rw [hGR] at bR
 have HG:=Lib.hid (show w.heap.size<=GL/\w.heap.size<=GR/\¬ GL = GR/\GL < W.heap.size/\GR < W.heap.size from ⟨by omega,by omega,by omega,by omega,by omega⟩)
 have NSB:=Lib.hid (show ¬ S GL/\¬ S GR from ⟨fun e=>by have:=h.lt _ e; omega,fun e=>by have:=h.lt _ e; omega⟩)
 obtain ⟨st,hst⟩:∃ s,(ByteArray.mk (d.slotsR 0).1.toArray) = s:=⟨_,rfl⟩
 have HST:=Lib.hid (show st.data.toList = (d.slotsR 0).1 from by rw [<- hst])
 rw [hst] at SR
 obtain ⟨n,hn⟩:∃ n,d.dur.length = n:=⟨_,rfl⟩
 rw [hn] at bL BI AO hW ⊢
 unfold layV at BI AO ⊢
 unfold layCells at bL AO hW
 have HN:=Lib.hid hn
 obtain ⟨vr,hvr⟩:∃ x,(d.slotsR 0).2.1 = x:=⟨_,rfl⟩
 rw [hvr] at SR AO
 have HVR:=Lib.hid hvr
 generalize hE1:So.each n = ea at *
 generalize hE2:So.logAt n = lg at *
 generalize hE3:So.many n = mn at *
 have HL3:=Lib.hid (show So.each n = ea/\So.logAt n = lg/\So.many n = mn from ⟨hE1,hE2,hE3⟩)
 have BL:=Lib.hid bL
 have BR:=Lib.hid bR
 have p0:=bL.cell 0 _ rfl
 clear h q0 hver hp hl hst hn hvr hE1 hE2 hE3 hzW bL bR
 rw [he] at SR
 rw [errV_zero] at SR
 have wv:IntKind.u64.wrap (vr:Int) = (vr:Int):=by have:=HVER.out; have:=HVR.out; rw [IntKind.wrap_u64]; omega
 go_enter Tryz.func87,Tryz.ntmps87
 go_wp2_with fail
 refine SR.mono ?_
 rintro e w1 ⟨rfl,q1⟩
 have B1:=Lib.hid (BR.out.qt q1)
 have L1:=Lib.hid (BL.out.qt q1)
 have Q1:=Lib.hid (Qt.trans Q0.out q1)
 have KL:=Lib.hid (fun W' (x:Keeps S w1 W')=>(show W'.cell? ⟨GL,0,none⟩ = some (.pointer (some ⟨b,0,none⟩))/\W'.cell? ⟨GL,1,none⟩ = some (.int .i64 2)/\W'.cell? ⟨GL,2,none⟩ = some (.int .i64 (2 + (ea:Int)))/\W'.cell? ⟨GL,3,none⟩ = some (.int .i64 (ea:Int))/\W'.cell? ⟨GL,4,none⟩ = some (.int .i64 (lg:Int))/\W'.cell? ⟨GL,5,none⟩ = some (.int .i64 (mn:Int)) from ⟨(L1.out.kept x NSB.out.1).cell 0 _ rfl,(L1.out.kept x NSB.out.1).cell 1 _ rfl,(L1.out.kept x NSB.out.1).cell 2 _ rfl,(L1.out.kept x NSB.out.1).cell 3 _ rfl,(L1.out.kept x NSB.out.1).cell 4 _ rfl,(L1.out.kept x NSB.out.1).cell 5 _ rfl⟩))
 clear SR q1
 go_wp2_with fail
 refine wp_region_held_drew (S:=(fun W'=>W'.cell? ⟨GL,0,none⟩ = some (.pointer (some ⟨b,0,none⟩))/\W'.cell? ⟨GL,1,none⟩ = some (.int .i64 2)/\W'.cell? ⟨GL,2,none⟩ = some (.int .i64 (2 + (ea:Int)))/\W'.cell? ⟨GL,3,none⟩ = some (.int .i64 (ea:Int))/\W'.cell? ⟨GL,4,none⟩ = some (.int .i64 (lg:Int))/\W'.cell? ⟨GL,5,none⟩ = some (.int .i64 (mn:Int)))) (by kernel_rfl) ?_ (fun hHeld=>?_)
 ·exact KL.out _ (Keeps.drew (Keeps.refl _ w1))
 refine wpAnyH_take (i:=0) (oi:=_) (v:=?_) rfl (by kernel_rfl) (by kernel_rfl) (by kernel_rfl) (fun _ _ _ h=>h) (Or.inl ⟨by rfl,?_⟩) (by assumption) ?_
 rotate_left
 ·(intro w hSw; (try dsimp only at hSw); go_simp; try with_reducible rfl)
 try simp only [Act.put]
 refine wpAnyH_take (i:=1) (oi:=_) (v:=?_) rfl (by kernel_rfl) (by kernel_rfl) (by kernel_rfl) (fun _ _ _ h=>h) (Or.inl ⟨by rfl,?_⟩) (by assumption) ?_
 rotate_left
 ·(intro w hSw; (try dsimp only at hSw); go_simp; try with_reducible rfl)
 try simp only [Act.put]
 refine wpAnyH_take (i:=2) (oi:=_) (v:=?_) rfl (by kernel_rfl) (by kernel_rfl) (by kernel_rfl) (fun _ _ _ h=>h) (Or.inl ⟨by rfl,?_⟩) (by assumption) ?_
 rotate_left
 ·(intro w hSw; (try dsimp only at hSw); go_simp; try with_reducible rfl)
 try simp only [Act.put]
 refine wpAnyH_take (i:=3) (oi:=_) (v:=?_) rfl (by kernel_rfl) (by kernel_rfl) (by kernel_rfl) (fun _ _ _ h=>h) (Or.inl ⟨by rfl,?_⟩) (by assumption) ?_
 rotate_left
 ·(intro w hSw; (try dsimp only at hSw); go_simp; try with_reducible rfl)
 try simp only [Act.put]
 refine wpAnyH_take (i:=5) (oi:=_) (v:=?_) rfl (by kernel_rfl) (by kernel_rfl) (by kernel_rfl) (fun _ _ _ h=>h) (Or.inl ⟨by rfl,?_⟩) (by assumption) ?_
 rotate_left
 ·(intro w hSw; (try dsimp only at hSw); go_simp; try with_reducible rfl)
 try simp only [Act.put]
 refine wpAnyH_take (i:=6) (oi:=_) (v:=?_) rfl (by kernel_rfl) (by kernel_rfl) (by kernel_rfl) (fun _ _ _ h=>h) (Or.inl ⟨by rfl,?_⟩) (by assumption) ?_
 rotate_left
 ·(intro w hSw; (try dsimp only at hSw); go_simp; try with_reducible rfl)
 try simp only [Act.put]
 refine wpAnyH_take (i:=7) (oi:=_) (v:=?_) rfl (by kernel_rfl) (by kernel_rfl) (by kernel_rfl) (fun _ _ _ h=>h) (Or.inl ⟨by rfl,?_⟩) (by assumption) ?_
 rotate_left
 ·(intro w hSw; (try dsimp only at hSw); go_simp; try with_reducible rfl)
 try simp only [Act.put]
 refine wpAnyH_take (i:=8) (oi:=_) (v:=?_) rfl (by kernel_rfl) (by kernel_rfl) (by kernel_rfl) (fun _ _ _ h=>h) (Or.inl ⟨by rfl,?_⟩) (by assumption) ?_
 rotate_left
 ·(intro w hSw; (try dsimp only at hSw); go_simp; try with_reducible rfl)
 try simp only [Act.put]
 refine wpAnyH_take (i:=9) (oi:=_) (v:=?_) rfl (by kernel_rfl) (by kernel_rfl) (by kernel_rfl) (fun _ _ _ h=>h) (Or.inl ⟨by rfl,?_⟩) (by assumption) ?_
 rotate_left
 ·(intro w hSw; (try dsimp only at hSw); go_simp; try with_reducible rfl)
 try simp only [Act.put]
 refine wpAnyH_take (i:=10) (oi:=_) (v:=?_) rfl (by kernel_rfl) (by kernel_rfl) (by kernel_rfl) (fun _ _ _ h=>h) (Or.inl ⟨by rfl,?_⟩) (by assumption) ?_
 rotate_left
 ·(intro w hSw; (try dsimp only at hSw); go_simp; try with_reducible rfl)
 try simp only [Act.put]
 refine wpAnyH_ready (rs:=[4]) (by kernel_rfl) (by simp) ?_
 refine AllReadyH.cons rfl (fun KQ hKQ=>?_) AllReadyH.nil
 go_simp
 go_wp2_with (go_at_call 122; refine (AO.out _).mono ?_; rintro e w2 ⟨rfl,hw2⟩; have q2:Qt w1 w2:=hw2 ▸ (Keeps.drew (Qt.refl w1)).alloc _; clear hw2)
 refine hKQ.out _ _ ?_ (fun hHeld4=>?_)
 ·(try dsimp only); exact KL.out _ (q2.mono (fun _ _ e=>e.elim))
 clear hKQ KQ
 refine wpAnyH_ready (rs:=[11]) (by kernel_rfl) (by simp) ?_
 refine AllReadyH.cons rfl (fun KQ hKQ=>?_) AllReadyH.nil
 have BI2:=BI.out w2 (Qt.trans Q1.out q2) st (by have e:st.size = st.data.toList.length:=rfl; have:=HLV.out; rw [HST.out] at e; omega)
 have BI3:=BI2.mono (fun e w' x=>(show e = .panicked [{ v:=.iface 163 (.agg #[]),recovered:=false }]/\Qt w2 w' from by unfold BytesP at x; rw [HST.out,<- HN.out,HP.out] at x; exact x))
 clear BI2
 go_simp
 go_wp2_with (go_at_call 145; refine BI3.mono ?_; rintro e w3 ⟨rfl,q3⟩)
 have FIN:=Lib.hid (read13_bad HLI.out (HD.out.quiet (Qt.trans Q1.out (Qt.trans q2 q3))))
 exact ⟨rfl,FIN.out⟩
set_option maxHeartbeats 8000000 in
theorem read13_area (h:Dk n0 ad w b d S) (hver:(d.slotsR 0).2.1<=1099511627776) (he:(d.slotsR 0).2.2 = 0) (hl:(d.slotsR 0).1.length<=234) {k:Nat} (hp:So.parse d.dur.length (d.slotsR 0).1 = some k) (ha:(d.areaR ((So.areaAt d.dur.length (d.slotsR 0).2.1:Nat):Int) ((So.each d.dur.length:Nat):Int) (d.slotsR 0).2.1 (k:Int)).2 ≠ 0) :
  Calls Tryz.prog 87 #[layV b d.dur.length] w (ReadTo n0 ad w b d (So.lies d) S):=by
 have HLI:=Lib.hid (show So.lies d = .inl 15 from by unfold So.lies; rw [if_neg (fun k=>k he),hp]; exact if_pos ha)
 have HP:=Lib.hid hp
 have HLV:=Lib.hid hl
 have HA:=Lib.hid ha
 have HD:=Lib.hid h
 have HN6:=Lib.hid h.len
 obtain ⟨W,hW,q0,bL,bR,hzW⟩:∃ W,(w.alloc (.cells (layCells b d.dur.length) 135)).alloc (.cells #[.pointer none,.int .i64 0] 132) = W/\Qt w W/\Bk W w.heap.size 135 (layCells b d.dur.length).toList/\Bk W (w.heap.size + 1) 132 [.pointer none,.int .i64 0]/\W.heap.size = w.heap.size + 2 :=
  ⟨_,rfl,((Qt.refl w).alloc _).alloc _,(Bk.new w _ _).alloc _,by have k:=Bk.new (w.alloc (.cells (layCells b d.dur.length) 135)) 132 #[.pointer none,.int .i64 0]; rwa [World.size_alloc] at k,by simp⟩
 have SR:=dk_sread (h.qt q0) 0
 unfold readT at SR
 have BI:=Lib.hid (fun W (q:Qt w W) (s:ByteArray) (hs:s.size<=140737488355328)=>bytesIn13_any ad (b:=b) (d:=d) (S:=S) s hs W (h.qt q).errs (h.qt q).disk)
 have AO:=Lib.hid (fun W=>areaOf13_any b d.dur.length (d.slotsR 0).2.1 hver W)
 have AR:=Lib.hid (fun W (q:Qt w W) i n st z hst hn=>dk_aread (h.qt q) i n st z hst hn)
 have HVER:=Lib.hid hver
 have Q0:=Lib.hid q0
 obtain ⟨GL,hGL⟩:∃ x,w.heap.size = x:=⟨_,rfl⟩
 obtain ⟨GR,hGR⟩:∃ x,GL + 1 = x:=⟨_,rfl⟩
 rw [hGL] at bL bR
 rw [hGR] at bR
 have HG:=Lib.hid (show w.heap.size<=GL/\w.heap.size<=GR/\¬ GL = GR/\GL < W.heap.size/\GR < W.heap.size from ⟨by omega,by omega,by omega,by omega,by omega⟩)
 have NSB:=Lib.hid (show ¬ S GL/\¬ S GR from ⟨fun e=>by have:=h.lt _ e; omega,fun e=>by have:=h.lt _ e; omega⟩)
 obtain ⟨st,hst⟩:∃ s,(ByteArray.mk (d.slotsR 0).1.toArray) = s:=⟨_,rfl⟩
 have HST:=Lib.hid (show st.data.toList = (d.slotsR 0).1 from by rw [<- hst])
 rw [hst] at SR
 obtain ⟨n,hn⟩:∃ n,d.dur.length = n:=⟨_,rfl⟩
 rw [hn] at bL BI AO hW ⊢
 unfold layV at BI AO ⊢
 unfold layCells at bL AO hW
 have HN:=Lib.hid hn
 obtain ⟨vr,hvr⟩:∃ x,(d.slotsR 0).2.1 = x:=⟨_,rfl⟩
 rw [hvr] at SR AO
 have HVR:=Lib.hid hvr
 generalize hE1:So.each n = ea at *
 generalize hE2:So.logAt n = lg at *
 generalize hE3:So.many n = mn at *
 have HL3:=Lib.hid (show So.each n = ea/\So.logAt n = lg/\So.many n = mn from ⟨hE1,hE2,hE3⟩)
 have BL:=Lib.hid bL
 have BR:=Lib.hid bR
 have p0:=bL.cell 0 _ rfl
 clear h q0 hver hp hl ha hst hn hvr hE1 hE2 hE3 hzW bL bR
 rw [he] at SR
 rw [errV_zero] at SR
 have wv:IntKind.u64.wrap (vr:Int) = (vr:Int):=by have:=HVER.out; have:=HVR.out; rw [IntKind.wrap_u64]; omega
 go_enter Tryz.func87,Tryz.ntmps87
 go_wp2_with fail
 refine SR.mono ?_
 rintro e w1 ⟨rfl,q1⟩
 have B1:=Lib.hid (BR.out.qt q1)
 have L1:=Lib.hid (BL.out.qt q1)
 have Q1:=Lib.hid (Qt.trans Q0.out q1)
 have KL:=Lib.hid (fun W' (x:Keeps S w1 W')=>(show W'.cell? ⟨GL,0,none⟩ = some (.pointer (some ⟨b,0,none⟩))/\W'.cell? ⟨GL,1,none⟩ = some (.int .i64 2)/\W'.cell? ⟨GL,2,none⟩ = some (.int .i64 (2 + (ea:Int)))/\W'.cell? ⟨GL,3,none⟩ = some (.int .i64 (ea:Int))/\W'.cell? ⟨GL,4,none⟩ = some (.int .i64 (lg:Int))/\W'.cell? ⟨GL,5,none⟩ = some (.int .i64 (mn:Int)) from ⟨(L1.out.kept x NSB.out.1).cell 0 _ rfl,(L1.out.kept x NSB.out.1).cell 1 _ rfl,(L1.out.kept x NSB.out.1).cell 2 _ rfl,(L1.out.kept x NSB.out.1).cell 3 _ rfl,(L1.out.kept x NSB.out.1).cell 4 _ rfl,(L1.out.kept x NSB.out.1).cell 5 _ rfl⟩))
 clear SR q1
 go_wp2_with fail
 refine wp_region_held_drew (S:=(fun W'=>W'.cell? ⟨GL,0,none⟩ = some (.pointer (some ⟨b,0,none⟩))/\W'.cell? ⟨GL,1,none⟩ = some (.int .i64 2)/\W'.cell? ⟨GL,2,none⟩ = some (.int .i64 (2 + (ea:Int)))/\W'.cell? ⟨GL,3,none⟩ = some (.int .i64 (ea:Int))/\W'.cell? ⟨GL,4,none⟩ = some (.int .i64 (lg:Int))/\W'.cell? ⟨GL,5,none⟩ = some (.int .i64 (mn:Int)))) (by kernel_rfl) ?_ (fun hHeld=>?_)
 ·exact KL.out _ (Keeps.drew (Keeps.refl _ w1))
 refine wpAnyH_take (i:=0) (oi:=_) (v:=?_) rfl (by kernel_rfl) (by kernel_rfl) (by kernel_rfl) (fun _ _ _ h=>h) (Or.inl ⟨by rfl,?_⟩) (by assumption) ?_
 rotate_left
 ·(intro w hSw; (try dsimp only at hSw); go_simp; try with_reducible rfl)
 try simp only [Act.put]
 refine wpAnyH_take (i:=1) (oi:=_) (v:=?_) rfl (by kernel_rfl) (by kernel_rfl) (by kernel_rfl) (fun _ _ _ h=>h) (Or.inl ⟨by rfl,?_⟩) (by assumption) ?_
 rotate_left
 ·(intro w hSw; (try dsimp only at hSw); go_simp; try with_reducible rfl)
 try simp only [Act.put]
 refine wpAnyH_take (i:=2) (oi:=_) (v:=?_) rfl (by kernel_rfl) (by kernel_rfl) (by kernel_rfl) (fun _ _ _ h=>h) (Or.inl ⟨by rfl,?_⟩) (by assumption) ?_
 rotate_left
 ·(intro w hSw; (try dsimp only at hSw); go_simp; try with_reducible rfl)
 try simp only [Act.put]
 refine wpAnyH_take (i:=3) (oi:=_) (v:=?_) rfl (by kernel_rfl) (by kernel_rfl) (by kernel_rfl) (fun _ _ _ h=>h) (Or.inl ⟨by rfl,?_⟩) (by assumption) ?_
 rotate_left
 ·(intro w hSw; (try dsimp only at hSw); go_simp; try with_reducible rfl)
 try simp only [Act.put]
 refine wpAnyH_take (i:=5) (oi:=_) (v:=?_) rfl (by kernel_rfl) (by kernel_rfl) (by kernel_rfl) (fun _ _ _ h=>h) (Or.inl ⟨by rfl,?_⟩) (by assumption) ?_
 rotate_left
 ·(intro w hSw; (try dsimp only at hSw); go_simp; try with_reducible rfl)
 try simp only [Act.put]
 refine wpAnyH_take (i:=6) (oi:=_) (v:=?_) rfl (by kernel_rfl) (by kernel_rfl) (by kernel_rfl) (fun _ _ _ h=>h) (Or.inl ⟨by rfl,?_⟩) (by assumption) ?_
 rotate_left
 ·(intro w hSw; (try dsimp only at hSw); go_simp; try with_reducible rfl)
 try simp only [Act.put]
 refine wpAnyH_take (i:=7) (oi:=_) (v:=?_) rfl (by kernel_rfl) (by kernel_rfl) (by kernel_rfl) (fun _ _ _ h=>h) (Or.inl ⟨by rfl,?_⟩) (by assumption) ?_
 rotate_left
 ·(intro w hSw; (try dsimp only at hSw); go_simp; try with_reducible rfl)
 try simp only [Act.put]
 refine wpAnyH_take (i:=8) (oi:=_) (v:=?_) rfl (by kernel_rfl) (by kernel_rfl) (by kernel_rfl) (fun _ _ _ h=>h) (Or.inl ⟨by rfl,?_⟩) (by assumption) ?_
 rotate_left
 ·(intro w hSw; (try dsimp only at hSw); go_simp; try with_reducible rfl)
 try simp only [Act.put]
 refine wpAnyH_take (i:=9) (oi:=_) (v:=?_) rfl (by kernel_rfl) (by kernel_rfl) (by kernel_rfl) (fun _ _ _ h=>h) (Or.inl ⟨by rfl,?_⟩) (by assumption) ?_
 rotate_left
 ·(intro w hSw; (try dsimp only at hSw); go_simp; try with_reducible rfl)
 try simp only [Act.put]
 refine wpAnyH_take (i:=10) (oi:=_) (v:=?_) rfl (by kernel_rfl) (by kernel_rfl) (by kernel_rfl) (fun _ _ _ h=>h) (Or.inl ⟨by rfl,?_⟩) (by assumption) ?_
 rotate_left
 ·(intro w hSw; (try dsimp only at hSw); go_simp; try with_reducible rfl)
 try simp only [Act.put]
 refine wpAnyH_ready (rs:=[4]) (by kernel_rfl) (by simp) ?_
 refine AllReadyH.cons rfl (fun KQ hKQ=>?_) AllReadyH.nil
 go_simp
 go_wp2_with (go_at_call 122; refine (AO.out _).mono ?_; rintro e w2 ⟨rfl,hw2⟩; have q2:Qt w1 w2:=hw2 ▸ (Keeps.drew (Qt.refl w1)).alloc _; clear hw2)
 refine hKQ.out _ _ ?_ (fun hHeld4=>?_)
 ·(try dsimp only); exact KL.out _ (q2.mono (fun _ _ e=>e.elim))
 clear hKQ KQ
 have BI2:=BI.out w2 (Qt.trans Q1.out q2) st (by have e:st.size = st.data.toList.length:=rfl; have:=HLV.out; rw [HST.out] at e; omega)
 have BI3:=BI2.mono (fun e w' x=>(show e = .returned (.int .i64 (k:Int))/\Qt w2 w' from by unfold BytesP at x; rw [HST.out,<- HN.out,HP.out] at x; exact x))
 clear BI2
 refine wpAnyH_ready (rs:=[11]) (by kernel_rfl) (by simp) ?_
 refine AllReadyH.cons rfl (fun KQ hKQ=>?_) AllReadyH.nil
 go_simp
 go_wp2_with (go_at_call 145; refine BI3.mono ?_; rintro e w3 ⟨rfl,q3'⟩; have q3:Qt w1 w3:=Qt.trans q2 q3')
 refine hKQ.out _ _ ?_ (fun hHeld11=>?_)
 ·(try dsimp only); exact KL.out _ (q3.mono (fun _ _ e=>e.elim))
 clear hKQ KQ
 have AR2:=AR.out w3 (Qt.trans Q1.out q3) ((So.areaAt n vr:Nat):Int) (ea:Int) vr (k:Int) (by have:=HVER.out; have:=HVR.out; omega) (by have:=HL3.out; have:=HN6.out; have:=HN.out; have e:So.each n = ea:=HL3.out.1; unfold So.each at e; omega)
 unfold readE9 at AR2
 clear BI3 AR BI
 have HA2:=HA.out
 rw [HN.out,HVR.out,HL3.out.1] at HA2
 rw [errV_pos ad (Nat.pos_of_ne_zero HA2)] at AR2
 obtain ⟨sv,hsv⟩:∃ s:ByteArray,(⟨(d.areaR ((So.areaAt n vr:Nat):Int) (ea:Int) vr (k:Int)).1.toArray⟩:ByteArray) = s:=⟨_,rfl⟩
 rw [hsv] at AR2
 have MN:=fun W=>mustS_no (.string sv) 335 (.pointer (some (ad (d.areaR ((So.areaAt n vr:Nat):Int) (ea:Int) vr (k:Int)).2))) W
 unfold brokenE at MN
 clear HA2 hsv
 refine wpAnyH_ready (rs:=[12]) (by kernel_rfl) (by simp) ?_
 refine AllReadyH.cons rfl (fun KQ hKQ=>?_) AllReadyH.nil
 go_simp
 go_wp2_with (go_at_call 144; refine AR2.mono ?_; rintro e w4 ⟨rfl,d4⟩)
 refine hKQ.out _ _ ?_ (fun hHeld12=>?_)
 ·(try dsimp only); exact KL.out _ (Keeps.trans (q3.mono (fun _ _ e=>e.elim)) d4.keeps (fun _ _ e=>e))
 clear hKQ KQ
 refine wpAnyH_take (i:=13) (oi:=_) (v:=?_) rfl (by kernel_rfl) (by kernel_rfl) (by kernel_rfl) (fun _ _ _ h=>h) (Or.inl ⟨by rfl,?_⟩) (by assumption) ?_
 rotate_left
 ·(intro w hSw; (try dsimp only at hSw); go_simp; try with_reducible rfl)
 try simp only [Act.put]
 refine wpAnyH_take (i:=14) (oi:=_) (v:=?_) rfl (by kernel_rfl) (by kernel_rfl) (by kernel_rfl) (fun _ _ _ h=>h) (Or.inl ⟨by rfl,?_⟩) (by assumption) ?_
 rotate_left
 ·(intro w hSw; (try dsimp only at hSw); go_simp; try with_reducible rfl)
 try simp only [Act.put]
 refine wpAnyH_ready (rs:=[15]) (by kernel_rfl) (by simp) ?_
 refine AllReadyH.cons rfl (fun KQ hKQ=>?_) AllReadyH.nil
 have FIN:=Lib.hid (read13_bad HLI.out ((HD.out.quiet (Qt.trans Q1.out q3)).trans d4))
 go_simp
 go_wp2_with (go_at_call 143; refine (MN _).mono ?_; rintro e w5 ⟨rfl,rfl⟩)
 exact ⟨rfl,FIN.out⟩
set_option maxHeartbeats 8000000 in
theorem read13_snap (h:Dk n0 ad w b d S) (hver:(d.slotsR 0).2.1<=1099511627776) (he:(d.slotsR 0).2.2 = 0) (hl:(d.slotsR 0).1.length<=234) {k:Nat} (hp:So.parse d.dur.length (d.slotsR 0).1 = some k) (ha:(d.areaR ((So.areaAt d.dur.length (d.slotsR 0).2.1:Nat):Int) ((So.each d.dur.length:Nat):Int) (d.slotsR 0).2.1 (k:Int)).2 = 0) (hal:(d.areaR ((So.areaAt d.dur.length (d.slotsR 0).2.1:Nat):Int) ((So.each d.dur.length:Nat):Int) (d.slotsR 0).2.1 (k:Int)).1.length<=8388608) (hsn:So.snapD (d.areaR ((So.areaAt d.dur.length (d.slotsR 0).2.1:Nat):Int) ((So.each d.dur.length:Nat):Int) (d.slotsR 0).2.1 (k:Int)).1 = none) :
  Calls Tryz.prog 87 #[layV b d.dur.length] w (ReadTo n0 ad w b d (So.lies d) S):=by
 have HLI:=Lib.hid (show So.lies d = .inl 15 from by unfold So.lies; rw [if_neg (fun k=>k he),hp]; exact (if_neg (fun k=>k ha)).trans (by rw [hsn]))
 have HP:=Lib.hid hp
 have HLV:=Lib.hid hl
 have HA:=Lib.hid ha
 have HAL:=Lib.hid hal
 have HSN:=Lib.hid hsn
 have HD:=Lib.hid h
 have HN6:=Lib.hid h.len
 obtain ⟨W,hW,q0,bL,bR,hzW⟩:∃ W,(w.alloc (.cells (layCells b d.dur.length) 135)).alloc (.cells #[.pointer none,.int .i64 0] 132) = W/\Qt w W/\Bk W w.heap.size 135 (layCells b d.dur.length).toList/\Bk W (w.heap.size + 1) 132 [.pointer none,.int .i64 0]/\W.heap.size = w.heap.size + 2 :=
  ⟨_,rfl,((Qt.refl w).alloc _).alloc _,(Bk.new w _ _).alloc _,by have k:=Bk.new (w.alloc (.cells (layCells b d.dur.length) 135)) 132 #[.pointer none,.int .i64 0]; rwa [World.size_alloc] at k,by simp⟩
 have SR:=dk_sread (h.qt q0) 0
 unfold readT at SR
 have BI:=Lib.hid (fun W (q:Qt w W) (s:ByteArray) (hs:s.size<=140737488355328)=>bytesIn13_any ad (b:=b) (d:=d) (S:=S) s hs W (h.qt q).errs (h.qt q).disk)
 have AO:=Lib.hid (fun W=>areaOf13_any b d.dur.length (d.slotsR 0).2.1 hver W)
 have AR:=Lib.hid (fun W (q:Qt w W) i n st z hst hn=>dk_aread (h.qt q) i n st z hst hn)
 have HVER:=Lib.hid hver
 have Q0:=Lib.hid q0
 obtain ⟨GL,hGL⟩:∃ x,w.heap.size = x:=⟨_,rfl⟩
 obtain ⟨GR,hGR⟩:∃ x,GL + 1 = x:=⟨_,rfl⟩
 rw [hGL] at bL bR
 rw [hGR] at bR
 have HG:=Lib.hid (show w.heap.size<=GL/\w.heap.size<=GR/\¬ GL = GR/\GL < W.heap.size/\GR < W.heap.size from ⟨by omega,by omega,by omega,by omega,by omega⟩)
 have NSB:=Lib.hid (show ¬ S GL/\¬ S GR from ⟨fun e=>by have:=h.lt _ e; omega,fun e=>by have:=h.lt _ e; omega⟩)
 obtain ⟨st,hst⟩:∃ s,(ByteArray.mk (d.slotsR 0).1.toArray) = s:=⟨_,rfl⟩
 have HST:=Lib.hid (show st.data.toList = (d.slotsR 0).1 from by rw [<- hst])
 rw [hst] at SR
 obtain ⟨n,hn⟩:∃ n,d.dur.length = n:=⟨_,rfl⟩
 rw [hn] at bL BI AO hW ⊢
 unfold layV at BI AO ⊢
 unfold layCells at bL AO hW
 have HN:=Lib.hid hn
 obtain ⟨vr,hvr⟩:∃ x,(d.slotsR 0).2.1 = x:=⟨_,rfl⟩
 rw [hvr] at SR AO
 have HVR:=Lib.hid hvr
 generalize hE1:So.each n = ea at *
 generalize hE2:So.logAt n = lg at *
 generalize hE3:So.many n = mn at *
 have HL3:=Lib.hid (show So.each n = ea/\So.logAt n = lg/\So.many n = mn from ⟨hE1,hE2,hE3⟩)
 have BL:=Lib.hid bL
 have BR:=Lib.hid bR
 have p0:=bL.cell 0 _ rfl
 clear h q0 hver hp hl ha hal hsn hst hn hvr hE1 hE2 hE3 hzW bL bR
 rw [he] at SR
 rw [errV_zero] at SR
 have wv:IntKind.u64.wrap (vr:Int) = (vr:Int):=by have:=HVER.out; have:=HVR.out; rw [IntKind.wrap_u64]; omega
 go_enter Tryz.func87,Tryz.ntmps87
 go_wp2_with fail
 refine SR.mono ?_
 rintro e w1 ⟨rfl,q1⟩
 have B1:=Lib.hid (BR.out.qt q1)
 have L1:=Lib.hid (BL.out.qt q1)
 have Q1:=Lib.hid (Qt.trans Q0.out q1)
 have KL:=Lib.hid (fun W' (x:Keeps S w1 W')=>(show W'.cell? ⟨GL,0,none⟩ = some (.pointer (some ⟨b,0,none⟩))/\W'.cell? ⟨GL,1,none⟩ = some (.int .i64 2)/\W'.cell? ⟨GL,2,none⟩ = some (.int .i64 (2 + (ea:Int)))/\W'.cell? ⟨GL,3,none⟩ = some (.int .i64 (ea:Int))/\W'.cell? ⟨GL,4,none⟩ = some (.int .i64 (lg:Int))/\W'.cell? ⟨GL,5,none⟩ = some (.int .i64 (mn:Int)) from ⟨(L1.out.kept x NSB.out.1).cell 0 _ rfl,(L1.out.kept x NSB.out.1).cell 1 _ rfl,(L1.out.kept x NSB.out.1).cell 2 _ rfl,(L1.out.kept x NSB.out.1).cell 3 _ rfl,(L1.out.kept x NSB.out.1).cell 4 _ rfl,(L1.out.kept x NSB.out.1).cell 5 _ rfl⟩))
 clear SR q1
 go_wp2_with fail
 refine wp_region_held_drew (S:=(fun W'=>W'.cell? ⟨GL,0,none⟩ = some (.pointer (some ⟨b,0,none⟩))/\W'.cell? ⟨GL,1,none⟩ = some (.int .i64 2)/\W'.cell? ⟨GL,2,none⟩ = some (.int .i64 (2 + (ea:Int)))/\W'.cell? ⟨GL,3,none⟩ = some (.int .i64 (ea:Int))/\W'.cell? ⟨GL,4,none⟩ = some (.int .i64 (lg:Int))/\W'.cell? ⟨GL,5,none⟩ = some (.int .i64 (mn:Int)))) (by kernel_rfl) ?_ (fun hHeld=>?_)
 ·exact KL.out _ (Keeps.drew (Keeps.refl _ w1))
 refine wpAnyH_take (i:=0) (oi:=_) (v:=?_) rfl (by kernel_rfl) (by kernel_rfl) (by kernel_rfl) (fun _ _ _ h=>h) (Or.inl ⟨by rfl,?_⟩) (by assumption) ?_
 rotate_left
 ·(intro w hSw; (try dsimp only at hSw); go_simp; try with_reducible rfl)
 try simp only [Act.put]
 refine wpAnyH_take (i:=1) (oi:=_) (v:=?_) rfl (by kernel_rfl) (by kernel_rfl) (by kernel_rfl) (fun _ _ _ h=>h) (Or.inl ⟨by rfl,?_⟩) (by assumption) ?_
 rotate_left
 ·(intro w hSw; (try dsimp only at hSw); go_simp; try with_reducible rfl)
 try simp only [Act.put]
 refine wpAnyH_take (i:=2) (oi:=_) (v:=?_) rfl (by kernel_rfl) (by kernel_rfl) (by kernel_rfl) (fun _ _ _ h=>h) (Or.inl ⟨by rfl,?_⟩) (by assumption) ?_
 rotate_left
 ·(intro w hSw; (try dsimp only at hSw); go_simp; try with_reducible rfl)
 try simp only [Act.put]
 refine wpAnyH_take (i:=3) (oi:=_) (v:=?_) rfl (by kernel_rfl) (by kernel_rfl) (by kernel_rfl) (fun _ _ _ h=>h) (Or.inl ⟨by rfl,?_⟩) (by assumption) ?_
 rotate_left
 ·(intro w hSw; (try dsimp only at hSw); go_simp; try with_reducible rfl)
 try simp only [Act.put]
 refine wpAnyH_take (i:=5) (oi:=_) (v:=?_) rfl (by kernel_rfl) (by kernel_rfl) (by kernel_rfl) (fun _ _ _ h=>h) (Or.inl ⟨by rfl,?_⟩) (by assumption) ?_
 rotate_left
 ·(intro w hSw; (try dsimp only at hSw); go_simp; try with_reducible rfl)
 try simp only [Act.put]
 refine wpAnyH_take (i:=6) (oi:=_) (v:=?_) rfl (by kernel_rfl) (by kernel_rfl) (by kernel_rfl) (fun _ _ _ h=>h) (Or.inl ⟨by rfl,?_⟩) (by assumption) ?_
 rotate_left
 ·(intro w hSw; (try dsimp only at hSw); go_simp; try with_reducible rfl)
 try simp only [Act.put]
 refine wpAnyH_take (i:=7) (oi:=_) (v:=?_) rfl (by kernel_rfl) (by kernel_rfl) (by kernel_rfl) (fun _ _ _ h=>h) (Or.inl ⟨by rfl,?_⟩) (by assumption) ?_
 rotate_left
 ·(intro w hSw; (try dsimp only at hSw); go_simp; try with_reducible rfl)
 try simp only [Act.put]
 refine wpAnyH_take (i:=8) (oi:=_) (v:=?_) rfl (by kernel_rfl) (by kernel_rfl) (by kernel_rfl) (fun _ _ _ h=>h) (Or.inl ⟨by rfl,?_⟩) (by assumption) ?_
 rotate_left
 ·(intro w hSw; (try dsimp only at hSw); go_simp; try with_reducible rfl)
 try simp only [Act.put]
 refine wpAnyH_take (i:=9) (oi:=_) (v:=?_) rfl (by kernel_rfl) (by kernel_rfl) (by kernel_rfl) (fun _ _ _ h=>h) (Or.inl ⟨by rfl,?_⟩) (by assumption) ?_
 rotate_left
 ·(intro w hSw; (try dsimp only at hSw); go_simp; try with_reducible rfl)
 try simp only [Act.put]
 refine wpAnyH_take (i:=10) (oi:=_) (v:=?_) rfl (by kernel_rfl) (by kernel_rfl) (by kernel_rfl) (fun _ _ _ h=>h) (Or.inl ⟨by rfl,?_⟩) (by assumption) ?_
 rotate_left
 ·(intro w hSw; (try dsimp only at hSw); go_simp; try with_reducible rfl)
 try simp only [Act.put]
 refine wpAnyH_ready (rs:=[4]) (by kernel_rfl) (by simp) ?_
 refine AllReadyH.cons rfl (fun KQ hKQ=>?_) AllReadyH.nil
 go_simp
 go_wp2_with (go_at_call 122; refine (AO.out _).mono ?_; rintro e w2 ⟨rfl,hw2⟩; have q2:Qt w1 w2:=hw2 ▸ (Keeps.drew (Qt.refl w1)).alloc _; clear hw2)
 refine hKQ.out _ _ ?_ (fun hHeld4=>?_)
 ·(try dsimp only); exact KL.out _ (q2.mono (fun _ _ e=>e.elim))
 clear hKQ KQ
 have BI2:=BI.out w2 (Qt.trans Q1.out q2) st (by have e:st.size = st.data.toList.length:=rfl; have:=HLV.out; rw [HST.out] at e; omega)
 have BI3:=BI2.mono (fun e w' x=>(show e = .returned (.int .i64 (k:Int))/\Qt w2 w' from by unfold BytesP at x; rw [HST.out,<- HN.out,HP.out] at x; exact x))
 clear BI2
 refine wpAnyH_ready (rs:=[11]) (by kernel_rfl) (by simp) ?_
 refine AllReadyH.cons rfl (fun KQ hKQ=>?_) AllReadyH.nil
 go_simp
 go_wp2_with (go_at_call 145; refine BI3.mono ?_; rintro e w3 ⟨rfl,q3'⟩; have q3:Qt w1 w3:=Qt.trans q2 q3')
 refine hKQ.out _ _ ?_ (fun hHeld11=>?_)
 ·(try dsimp only); exact KL.out _ (q3.mono (fun _ _ e=>e.elim))
 clear hKQ KQ
 have AR2:=AR.out w3 (Qt.trans Q1.out q3) ((So.areaAt n vr:Nat):Int) (ea:Int) vr (k:Int) (by have:=HVER.out; have:=HVR.out; omega) (by have:=HL3.out; have:=HN6.out; have:=HN.out; have e:So.each n = ea:=HL3.out.1; unfold So.each at e; omega)
 unfold readE9 at AR2
 clear BI3 AR BI
 have HA2:=HA.out
 have HAL2:=HAL.out
 have HSN2:=HSN.out
 rw [HN.out,HVR.out,HL3.out.1] at HA2 HAL2 HSN2
 rw [HA2,errV_zero] at AR2
 obtain ⟨sv,hsv,hsl⟩:∃ s:ByteArray,(⟨(d.areaR ((So.areaAt n vr:Nat):Int) (ea:Int) vr (k:Int)).1.toArray⟩:ByteArray) = s/\s.data.toList = (d.areaR ((So.areaAt n vr:Nat):Int) (ea:Int) vr (k:Int)).1:=⟨_,rfl,rfl⟩
 rw [hsv] at AR2
 rw [<- hsl] at HAL2 HSN2
 have MO:=fun W=>mustS_ok (.string sv) W
 clear HA2 hsv hsl
 refine wpAnyH_ready (rs:=[12]) (by kernel_rfl) (by simp) ?_
 refine AllReadyH.cons rfl (fun KQ hKQ=>?_) AllReadyH.nil
 go_simp
 go_wp2_with (go_at_call 144; refine AR2.mono ?_; rintro e w4 ⟨rfl,d4⟩)
 refine hKQ.out _ _ ?_ (fun hHeld12=>?_)
 ·(try dsimp only); exact KL.out _ (Keeps.trans (q3.mono (fun _ _ e=>e.elim)) d4.keeps (fun _ _ e=>e))
 clear hKQ KQ
 refine wpAnyH_take (i:=13) (oi:=_) (v:=?_) rfl (by kernel_rfl) (by kernel_rfl) (by kernel_rfl) (fun _ _ _ h=>h) (Or.inl ⟨by rfl,?_⟩) (by assumption) ?_
 rotate_left
 ·(intro w hSw; (try dsimp only at hSw); go_simp; try with_reducible rfl)
 try simp only [Act.put]
 refine wpAnyH_take (i:=14) (oi:=_) (v:=?_) rfl (by kernel_rfl) (by kernel_rfl) (by kernel_rfl) (fun _ _ _ h=>h) (Or.inl ⟨by rfl,?_⟩) (by assumption) ?_
 rotate_left
 ·(intro w hSw; (try dsimp only at hSw); go_simp; try with_reducible rfl)
 try simp only [Act.put]
 refine wpAnyH_ready (rs:=[15]) (by kernel_rfl) (by simp) ?_
 refine AllReadyH.cons rfl (fun KQ hKQ=>?_) AllReadyH.nil
 go_simp
 go_wp2_with (go_at_call 143; refine (MO _).mono ?_; rintro e w5 ⟨rfl,rfl⟩)
 refine hKQ.out _ _ ?_ (fun hHeld15=>?_)
 ·(try dsimp only); exact KL.out _ (Keeps.trans (q3.mono (fun _ _ e=>e.elim)) d4.keeps (fun _ _ e=>e))
 clear hKQ KQ
 refine wpAnyH_take (i:=16) (oi:=_) (v:=?_) rfl (by kernel_rfl) (by kernel_rfl) (by kernel_rfl) (fun _ _ _ h=>h) (Or.inl ⟨by rfl,?_⟩) (by assumption) ?_
 rotate_left
 ·(intro w hSw; (try dsimp only at hSw); go_simp; try with_reducible rfl)
 try simp only [Act.put]
 refine wpAnyH_done (by kernel_rfl) ?_ _
 have TD:=(HD.out.quiet (Qt.trans Q1.out q3)).trans d4
 have CI:=contentIn13_any ad sv w5 HAL2 TD.dk.errs
 rw [HSN2] at CI
 have CI2:=CI.mono (fun e w' x=>(show e = .panicked [{ v:=.iface 163 (.agg #[]),recovered:=false }]/\Qt w5 w' from x))
 have HTD:=Lib.hid TD
 clear CI TD d4 HAL2 HSN2
 go_wp2_with fail
 refine CI2.mono ?_
 rintro e w6 ⟨rfl,q6⟩
 have FIN:=Lib.hid (read13_bad HLI.out (HTD.out.qt q6))
 clear CI2 q6
 go_wp2
 exact ⟨rfl,FIN.out⟩
end
end Go.Proofs.YthjjfjhajadimaaGreatDoor
