/-
  The landed store: reading a layout's disk, the log.
-/
import Derived.Test.YthjjfjhajadimaaGreatDoorP38
namespace Go.Proofs.YthjjfjhajadimaaGreatDoor
open Go.RowKit Go.WideShapes
set_option maxRecDepth 100000
def rdBnd (i:Nat):Nat:=8388608 * (i + 1)
theorem rdBnd_zero {x:Nat} (h:x<=8388608):x<=rdBnd 0:=by unfold rdBnd; omega
theorem rdBnd_most {x i:Nat} (h:x<=rdBnd i) (hi:i<=65536):x<=1099511627776:=by unfold rdBnd at h; omega
theorem rdBnd_succ {x y z i:Nat} (h:x<=rdBnd i) (hy:y<=x + z) (hz:z<=8388608):y<=rdBnd (i + 1):=by unfold rdBnd at h ⊢; omega
def RdAt (w8:World) (C lo:Nat) (recs:List Tb.Txt) (rows:List Tb.R) (iv:Value) (wr:World):Prop :=
 ∃ (i:Nat) (m:List Tb.R) (t:Nat) (A:Nat->Prop),i<=recs.length/\iv = .int .i64 (i:Int)/\Bk wr C 132 [ptrV t,.int .i64 (((So.rowsB m).length:Nat):Int)]/\Tbl wr t m A/\(∀ k,A k->lo<=k/\k ≠ C)/\lo<=t/\Keeps (fun k=>k = C) w8 wr/\So.applyAll m (recs.drop i) = So.applyAll rows recs/\(So.rowsB m).length<=rdBnd i
section
variable {n0:Nat} {ad:Nat->Addr} {w:World} {b:Nat} {d:DS} {S:Nat->Prop}
set_option maxHeartbeats 8000000 in
theorem read13_log (h:Dk n0 ad w b d S) (hver:(d.slotsR 0).2.1<=1099511627776) (he:(d.slotsR 0).2.2 = 0) (hl:(d.slotsR 0).1.length<=234) {k:Nat} (hp:So.parse d.dur.length (d.slotsR 0).1 = some k) (ha:(d.areaR ((So.areaAt d.dur.length (d.slotsR 0).2.1:Nat):Int) ((So.each d.dur.length:Nat):Int) (d.slotsR 0).2.1 (k:Int)).2 = 0) {rows:List Tb.R} (hsn:So.snapD (d.areaR ((So.areaAt d.dur.length (d.slotsR 0).2.1:Nat):Int) ((So.each d.dur.length:Nat):Int) (d.slotsR 0).2.1 (k:Int)).1 = some rows) (h64:64<=d.dur.length) :
  Calls Tryz.prog 87 #[layV b d.dur.length] w (ReadTo n0 ad w b d (So.lies d) S):=by
 have hal:(d.areaR ((So.areaAt d.dur.length (d.slotsR 0).2.1:Nat):Int) ((So.each d.dur.length:Nat):Int) (d.slotsR 0).2.1 (k:Int)).1.length<=8388608:=Nat.le_trans (So.area_len _ _ _ _ _) (Nat.le_trans (So.parse_room hp) (So.room_most h.len))
 have HLI:=Lib.hid (show So.lies d = match So.applyAll rows (J.replay d ((So.logAt d.dur.length:Nat):Int) ((So.many d.dur.length:Nat):Int) ((d.slotsR 0).2.1:Int)).1 with | none=>.inl 15 | some m=>if So.room d.dur.length < So.size m then .inl 15 else .inr (m,(d.slotsR 0).2.1) from by unfold So.lies; rw [if_neg (fun k=>k he),hp]; exact (if_neg (fun k=>k ha)).trans (by rw [hsn]; rfl))
 obtain ⟨hoff,hv1,_,_⟩:=So.slots_ok he
 obtain ⟨hr1,hr2⟩:=So.replay_ok h64 h.len hoff hv1 hver
 have HR1:=Lib.hid hr1
 have HR2:=Lib.hid hr2
 have HR3:=Lib.hid (show (J.replay d ((So.logAt d.dur.length:Nat):Int) ((So.many d.dur.length:Nat):Int) ((d.slotsR 0).2.1:Int)).1.length<=65536 from J.replay_len _ _ _ _)
 have HP:=Lib.hid hp
 have HLV:=Lib.hid hl
 have HA:=Lib.hid ha
 have HAL:=Lib.hid hal
 have HSN:=Lib.hid hsn
 have HD:=Lib.hid h
 have HN6:=Lib.hid h.len
 obtain ⟨W,hW,q0,bL,bR,hzW⟩:∃ W,(w.alloc (.cells (layCells b d.dur.length) 135)).alloc (.cells #[.pointer none,.int .i64 0] 132) = W/\Qt w W/\Bk W w.heap.size 135 (layCells b d.dur.length).toList/\Bk W (w.heap.size + 1) 132 [.pointer none,.int .i64 0]/\W.heap.size = w.heap.size + 2 :=
  ⟨_,rfl,((Qt.refl w).alloc _).alloc _,(Bk.new w _ _).alloc _,by have k:=Bk.new (w.alloc (.cells (layCells b d.dur.length) 135)) 132 #[.pointer none,.int .i64 0]; rwa [World.size_alloc] at k,by simp⟩
 have SR:=dk_sread (h.qt q0) 0
 unfold readT at SR
 have BI:=Lib.hid (fun W (q:Qt w W) (s:ByteArray) (hs:s.size<=140737488355328)=>bytesIn13_any ad (b:=b) (d:=d) (S:=S) s hs W (h.qt q).errs (h.qt q).disk)
 have AO:=Lib.hid (fun W=>areaOf13_any b d.dur.length (d.slotsR 0).2.1 hver W)
 have AR:=Lib.hid (fun W (q:Qt w W) i n st z hst hn=>dk_aread (h.qt q) i n st z hst hn)
 have HVER:=Lib.hid hver
 have Q0:=Lib.hid q0
 obtain ⟨GL,hGL⟩:∃ x,w.heap.size = x:=⟨_,rfl⟩
 obtain ⟨GR,hGR⟩:∃ x,GL + 1 = x:=⟨_,rfl⟩
 rw [hGL] at bL bR
 rw [hGR] at bR
 have HG:=Lib.hid (show w.heap.size<=GL/\w.heap.size<=GR/\¬ GL = GR/\GL < W.heap.size/\GR < W.heap.size from ⟨by omega,by omega,by omega,by omega,by omega⟩)
 have NSB:=Lib.hid (show ¬ S GL/\¬ S GR from ⟨fun e=>by have:=h.lt _ e; omega,fun e=>by have:=h.lt _ e; omega⟩)
 obtain ⟨st,hst⟩:∃ s,(ByteArray.mk (d.slotsR 0).1.toArray) = s:=⟨_,rfl⟩
 have HST:=Lib.hid (show st.data.toList = (d.slotsR 0).1 from by rw [<- hst])
 rw [hst] at SR
 obtain ⟨n,hn⟩:∃ n,d.dur.length = n:=⟨_,rfl⟩
 rw [hn] at bL BI AO hW ⊢
 unfold layV at BI AO ⊢
 unfold layCells at bL AO hW
 have HN:=Lib.hid hn
 obtain ⟨vr,hvr⟩:∃ x,(d.slotsR 0).2.1 = x:=⟨_,rfl⟩
 rw [hvr] at SR AO
 have HVR:=Lib.hid hvr
 generalize hE1:So.each n = ea at *
 generalize hE2:So.logAt n = lg at *
 generalize hE3:So.many n = mn at *
 have HL3:=Lib.hid (show So.each n = ea/\So.logAt n = lg/\So.many n = mn from ⟨hE1,hE2,hE3⟩)
 have BL:=Lib.hid bL
 have BR:=Lib.hid bR
 have p0:=bL.cell 0 _ rfl
 clear h q0 hver hp hl ha hal hsn hoff hv1 hr1 hr2 h64 hst hn hvr hE1 hE2 hE3 hzW bL bR
 rw [he] at SR
 rw [errV_zero] at SR
 have wv:IntKind.u64.wrap (vr:Int) = (vr:Int):=by have:=HVER.out; have:=HVR.out; rw [IntKind.wrap_u64]; omega
 go_enter Tryz.func87,Tryz.ntmps87
 go_wp2_with fail
 refine SR.mono ?_
 rintro e w1 ⟨rfl,q1⟩
 have B1:=Lib.hid (BR.out.qt q1)
 have L1:=Lib.hid (BL.out.qt q1)
 have Q1:=Lib.hid (Qt.trans Q0.out q1)
 have KL:=Lib.hid (fun W' (x:Keeps S w1 W')=>(show W'.cell? ⟨GL,0,none⟩ = some (.pointer (some ⟨b,0,none⟩))/\W'.cell? ⟨GL,1,none⟩ = some (.int .i64 2)/\W'.cell? ⟨GL,2,none⟩ = some (.int .i64 (2 + (ea:Int)))/\W'.cell? ⟨GL,3,none⟩ = some (.int .i64 (ea:Int))/\W'.cell? ⟨GL,4,none⟩ = some (.int .i64 (lg:Int))/\W'.cell? ⟨GL,5,none⟩ = some (.int .i64 (mn:Int)) from ⟨(L1.out.kept x NSB.out.1).cell 0 _ rfl,(L1.out.kept x NSB.out.1).cell 1 _ rfl,(L1.out.kept x NSB.out.1).cell 2 _ rfl,(L1.out.kept x NSB.out.1).cell 3 _ rfl,(L1.out.kept x NSB.out.1).cell 4 _ rfl,(L1.out.kept x NSB.out.1).cell 5 _ rfl⟩))
 clear SR q1
 go_wp2_with fail
 refine wp_region_held_drew (S:=(fun W'=>W'.cell? ⟨GL,0,none⟩ = some (.pointer (some ⟨b,0,none⟩))/\W'.cell? ⟨GL,1,none⟩ = some (.int .i64 2)/\W'.cell? ⟨GL,2,none⟩ = some (.int .i64 (2 + (ea:Int)))/\W'.cell? ⟨GL,3,none⟩ = some (.int .i64 (ea:Int))/\W'.cell? ⟨GL,4,none⟩ = some (.int .i64 (lg:Int))/\W'.cell? ⟨GL,5,none⟩ = some (.int .i64 (mn:Int)))) (by kernel_rfl) ?_ (fun hHeld=>?_)
 ·exact KL.out _ (Keeps.drew (Keeps.refl _ w1))
 refine wpAnyH_take (i:=0) (oi:=_) (v:=?_) rfl (by kernel_rfl) (by kernel_rfl) (by kernel_rfl) (fun _ _ _ h=>h) (Or.inl ⟨by rfl,?_⟩) (by assumption) ?_
 rotate_left
 ·(intro w hSw; (try dsimp only at hSw); go_simp; try with_reducible rfl)
 try simp only [Act.put]
 refine wpAnyH_take (i:=1) (oi:=_) (v:=?_) rfl (by kernel_rfl) (by kernel_rfl) (by kernel_rfl) (fun _ _ _ h=>h) (Or.inl ⟨by rfl,?_⟩) (by assumption) ?_
 rotate_left
 ·(intro w hSw; (try dsimp only at hSw); go_simp; try with_reducible rfl)
 try simp only [Act.put]
 refine wpAnyH_take (i:=2) (oi:=_) (v:=?_) rfl (by kernel_rfl) (by kernel_rfl) (by kernel_rfl) (fun _ _ _ h=>h) (Or.inl ⟨by rfl,?_⟩) (by assumption) ?_
 rotate_left
 ·(intro w hSw; (try dsimp only at hSw); go_simp; try with_reducible rfl)
 try simp only [Act.put]
 refine wpAnyH_take (i:=3) (oi:=_) (v:=?_) rfl (by kernel_rfl) (by kernel_rfl) (by kernel_rfl) (fun _ _ _ h=>h) (Or.inl ⟨by rfl,?_⟩) (by assumption) ?_
 rotate_left
 ·(intro w hSw; (try dsimp only at hSw); go_simp; try with_reducible rfl)
 try simp only [Act.put]
 refine wpAnyH_take (i:=5) (oi:=_) (v:=?_) rfl (by kernel_rfl) (by kernel_rfl) (by kernel_rfl) (fun _ _ _ h=>h) (Or.inl ⟨by rfl,?_⟩) (by assumption) ?_
 rotate_left
 ·(intro w hSw; (try dsimp only at hSw); go_simp; try with_reducible rfl)
 try simp only [Act.put]
 refine wpAnyH_take (i:=6) (oi:=_) (v:=?_) rfl (by kernel_rfl) (by kernel_rfl) (by kernel_rfl) (fun _ _ _ h=>h) (Or.inl ⟨by rfl,?_⟩) (by assumption) ?_
 rotate_left
 ·(intro w hSw; (try dsimp only at hSw); go_simp; try with_reducible rfl)
 try simp only [Act.put]
 refine wpAnyH_take (i:=7) (oi:=_) (v:=?_) rfl (by kernel_rfl) (by kernel_rfl) (by kernel_rfl) (fun _ _ _ h=>h) (Or.inl ⟨by rfl,?_⟩) (by assumption) ?_
 rotate_left
 ·(intro w hSw; (try dsimp only at hSw); go_simp; try with_reducible rfl)
 try simp only [Act.put]
 refine wpAnyH_take (i:=8) (oi:=_) (v:=?_) rfl (by kernel_rfl) (by kernel_rfl) (by kernel_rfl) (fun _ _ _ h=>h) (Or.inl ⟨by rfl,?_⟩) (by assumption) ?_
 rotate_left
 ·(intro w hSw; (try dsimp only at hSw); go_simp; try with_reducible rfl)
 try simp only [Act.put]
 refine wpAnyH_take (i:=9) (oi:=_) (v:=?_) rfl (by kernel_rfl) (by kernel_rfl) (by kernel_rfl) (fun _ _ _ h=>h) (Or.inl ⟨by rfl,?_⟩) (by assumption) ?_
 rotate_left
 ·(intro w hSw; (try dsimp only at hSw); go_simp; try with_reducible rfl)
 try simp only [Act.put]
 refine wpAnyH_take (i:=10) (oi:=_) (v:=?_) rfl (by kernel_rfl) (by kernel_rfl) (by kernel_rfl) (fun _ _ _ h=>h) (Or.inl ⟨by rfl,?_⟩) (by assumption) ?_
 rotate_left
 ·(intro w hSw; (try dsimp only at hSw); go_simp; try with_reducible rfl)
 try simp only [Act.put]
 refine wpAnyH_ready (rs:=[4]) (by kernel_rfl) (by simp) ?_
 refine AllReadyH.cons rfl (fun KQ hKQ=>?_) AllReadyH.nil
 go_simp
 go_wp2_with (go_at_call 122; refine (AO.out _).mono ?_; rintro e w2 ⟨rfl,hw2⟩; have q2:Qt w1 w2:=hw2 ▸ (Keeps.drew (Qt.refl w1)).alloc _; clear hw2)
 refine hKQ.out _ _ ?_ (fun hHeld4=>?_)
 ·(try dsimp only); exact KL.out _ (q2.mono (fun _ _ e=>e.elim))
 clear hKQ KQ
 have BI2:=BI.out w2 (Qt.trans Q1.out q2) st (by have e:st.size = st.data.toList.length:=rfl; have:=HLV.out; rw [HST.out] at e; omega)
 have BI3:=BI2.mono (fun e w' x=>(show e = .returned (.int .i64 (k:Int))/\Qt w2 w' from by unfold BytesP at x; rw [HST.out,<- HN.out,HP.out] at x; exact x))
 clear BI2
 refine wpAnyH_ready (rs:=[11]) (by kernel_rfl) (by simp) ?_
 refine AllReadyH.cons rfl (fun KQ hKQ=>?_) AllReadyH.nil
 go_simp
 go_wp2_with (go_at_call 145; refine BI3.mono ?_; rintro e w3 ⟨rfl,q3'⟩; have q3:Qt w1 w3:=Qt.trans q2 q3')
 refine hKQ.out _ _ ?_ (fun hHeld11=>?_)
 ·(try dsimp only); exact KL.out _ (q3.mono (fun _ _ e=>e.elim))
 clear hKQ KQ
 have AR2:=AR.out w3 (Qt.trans Q1.out q3) ((So.areaAt n vr:Nat):Int) (ea:Int) vr (k:Int) (by have:=HVER.out; have:=HVR.out; omega) (by have:=HL3.out; have:=HN6.out; have:=HN.out; have e:So.each n = ea:=HL3.out.1; unfold So.each at e; omega)
 unfold readE9 at AR2
 clear BI3 AR BI
 have HA2:=HA.out
 have HAL2:=HAL.out
 have HSN2:=HSN.out
 rw [HN.out,HVR.out,HL3.out.1] at HA2 HAL2 HSN2
 rw [HA2,errV_zero] at AR2
 obtain ⟨sv,hsv,hsl⟩:∃ s:ByteArray,(⟨(d.areaR ((So.areaAt n vr:Nat):Int) (ea:Int) vr (k:Int)).1.toArray⟩:ByteArray) = s/\s.data.toList = (d.areaR ((So.areaAt n vr:Nat):Int) (ea:Int) vr (k:Int)).1:=⟨_,rfl,rfl⟩
 rw [hsv] at AR2
 rw [<- hsl] at HAL2 HSN2
 have MO:=fun W=>mustS_ok (.string sv) W
 clear HA2 hsv hsl
 refine wpAnyH_ready (rs:=[12]) (by kernel_rfl) (by simp) ?_
 refine AllReadyH.cons rfl (fun KQ hKQ=>?_) AllReadyH.nil
 go_simp
 go_wp2_with (go_at_call 144; refine AR2.mono ?_; rintro e w4 ⟨rfl,d4⟩)
 refine hKQ.out _ _ ?_ (fun hHeld12=>?_)
 ·(try dsimp only); exact KL.out _ (Keeps.trans (q3.mono (fun _ _ e=>e.elim)) d4.keeps (fun _ _ e=>e))
 clear hKQ KQ
 refine wpAnyH_take (i:=13) (oi:=_) (v:=?_) rfl (by kernel_rfl) (by kernel_rfl) (by kernel_rfl) (fun _ _ _ h=>h) (Or.inl ⟨by rfl,?_⟩) (by assumption) ?_
 rotate_left
 ·(intro w hSw; (try dsimp only at hSw); go_simp; try with_reducible rfl)
 try simp only [Act.put]
 refine wpAnyH_take (i:=14) (oi:=_) (v:=?_) rfl (by kernel_rfl) (by kernel_rfl) (by kernel_rfl) (fun _ _ _ h=>h) (Or.inl ⟨by rfl,?_⟩) (by assumption) ?_
 rotate_left
 ·(intro w hSw; (try dsimp only at hSw); go_simp; try with_reducible rfl)
 try simp only [Act.put]
 refine wpAnyH_ready (rs:=[15]) (by kernel_rfl) (by simp) ?_
 refine AllReadyH.cons rfl (fun KQ hKQ=>?_) AllReadyH.nil
 go_simp
 go_wp2_with (go_at_call 143; refine (MO _).mono ?_; rintro e w5 ⟨rfl,rfl⟩)
 refine hKQ.out _ _ ?_ (fun hHeld15=>?_)
 ·(try dsimp only); exact KL.out _ (Keeps.trans (q3.mono (fun _ _ e=>e.elim)) d4.keeps (fun _ _ e=>e))
 clear hKQ KQ
 refine wpAnyH_take (i:=16) (oi:=_) (v:=?_) rfl (by kernel_rfl) (by kernel_rfl) (by kernel_rfl) (fun _ _ _ h=>h) (Or.inl ⟨by rfl,?_⟩) (by assumption) ?_
 rotate_left
 ·(intro w hSw; (try dsimp only at hSw); go_simp; try with_reducible rfl)
 try simp only [Act.put]
 refine wpAnyH_done (by kernel_rfl) ?_ _
 have TD:=(HD.out.quiet (Qt.trans Q1.out q3)).trans d4
 have CI:=contentIn13_any ad sv w5 HAL2 TD.dk.errs
 rw [HSN2] at CI
 have CI2:=CI.mono (fun e w' x=>(show ∃ t A,e = .returned (contV t (So.rowsB rows).length)/\Tbl w' t rows A/\(∀ k,A k->w5.heap.size<=k)/\w5.heap.size<=t/\Qt w5 w' from x))
 obtain ⟨k0,hk0⟩:∃ z,(So.rowsB rows).length = z:=⟨_,rfl⟩
 rw [hk0] at CI2
 unfold contV at CI2
 have HK0:=Lib.hid (show (So.rowsB rows).length = k0/\k0<=8388608 from ⟨hk0,by
  have h1:=(So.snapD_inv HSN2).2
  have h2:sv.data.toList.length<=8388608:=HAL2
  rw [<- h1] at h2
  unfold So.snapB at h2
  rw [List.length_append] at h2
  omega⟩)
 have HTD:=Lib.hid TD
 have KL5:=Lib.hid (fun W' (x:Qt w5 W')=>KL.out W' (Keeps.trans (Keeps.trans (q3.mono (fun _ _ e=>e.elim)) d4.keeps (fun _ _ e=>e)) (x.mono (fun _ _ e=>e.elim)) (fun _ _ e=>e)))
 have BR5:=Lib.hid ((B1.out.qt q3).kept d4.keeps NSB.out.2)
 have NR5:=Lib.hid (show ¬ Grow S w3 w5 GR from fun e=>by
  rcases d4.all GR e with x | x
  ·exact NSB.out.2 x
  ·have:=B1.out.lt; have:=q3.size; omega)
 clear CI TD d4 HAL2 HSN2 hk0
 go_wp2_with fail
 refine CI2.mono ?_
 rintro e w6 ⟨t,A,rfl,T6,hA6,ht6,q6⟩
 obtain ⟨W7,hW7,q7,bC,hz7⟩:=box_own w6 132 #[ptrV t,.int .i64 (k0:Int)]
 obtain ⟨C,hC⟩:∃ x,w6.heap.size = x:=⟨_,rfl⟩
 rw [hC] at bC
 have Q7:=Lib.hid (Qt.trans q6 q7)
 have BC7:=Lib.hid bC
 have T7:=Lib.hid (T6.qt q7)
 have HA7:=Lib.hid (show (∀ k,A k->w5.heap.size<=k/\k ≠ C)/\w5.heap.size<=t/\w5.heap.size<=C/\C < W7.heap.size from ⟨fun k hk=>⟨hA6 k hk,fun e=>by have:=T6.lt k hk; omega⟩,ht6,by have:=q6.size; omega,by omega⟩)
 have D7:=HTD.out.dk.qt Q7.out
 have RP:=dk_jreplay D7 (lg:Int) (mn:Int) (vr:Int) (by have e:=HL3.out.2.2; have:=HN6.out; have:=HN.out; unfold So.many So.each at e; omega)
 have HR1':=HR1.out
 rw [HN.out,HVR.out,HL3.out.2.1,HL3.out.2.2] at HR1'
 obtain ⟨recs,hrecs⟩:∃ x,(J.replay d (lg:Int) (mn:Int) (vr:Int)).1 = x:=⟨_,rfl⟩
 have RP2:=RP.mono (fun e w' x=>(show ∃ l,e = .returned (.tuple #[l,.nilIface])/\NewT W7 w' l recs from by obtain ⟨l,h1,h2⟩:=x; rw [HR1',errV_zero] at h1; rw [hrecs] at h2; exact ⟨l,h1,h2⟩))
 have HREC:=Lib.hid (show (∀ z ∈ recs,z.length<=8388608)/\recs.length<=65536/\So.lies d = match So.applyAll rows recs with | none=>.inl 15 | some m=>if So.room n < So.size m then .inl 15 else .inr (m,vr) from by
  have e1:=HR2.out
  have e2:=HR3.out
  have e3:=HLI.out
  rw [HN.out,HVR.out,HL3.out.2.1,HL3.out.2.2,hrecs] at e1 e2 e3
  exact ⟨e1,e2,e3⟩)
 obtain ⟨f0,_,_,_,f4,f5⟩:=KL5.out W7 Q7.out
 clear CI2 q6 q7 bC hz7 T6 hA6 ht6 RP D7 HR1' hrecs
 go_wp2_with fail
 refine RP2.mono ?_
 rintro e w8 ⟨rl,rfl,N8⟩
 have MO8:=mustT_ok rl w8
 have HN8:=Lib.hid N8
 have TX:=N8.texts
 clear RP2 f0 f4 f5 N8
 go_wp2_with fail
 refine MO8.mono ?_
 rintro e w9 ⟨rfl,rfl⟩
 obtain ⟨g,off,c,hv,hcells⟩:=TX
 obtain ⟨a,rfl,hga⟩:∃ a,rl = .slice a recs.length c/\(recs ≠ []->a = some ⟨g,off,none⟩):=by
  rcases hv with x | ⟨x,y⟩
  ·exact ⟨_,x,fun _=>rfl⟩
  ·exact ⟨_,x,fun hne=>absurd y hne⟩
 have HCE:=Lib.hid hcells
 have HGA:=Lib.hid hga
 have BC9:=Lib.hid (BC7.out.qt HN8.out.qt)
 have T9:=Lib.hid (T7.out.qt HN8.out.qt)
 have START:=Lib.hid (show RdAt w9 C w5.heap.size recs rows (.int .i64 0) w9 from ⟨0,rows,t,A,Nat.zero_le _,rfl,by rw [HK0.out.1]; exact BC9.out,T9.out,HA7.out.1,HA7.out.2.1,Keeps.refl _ _,rfl,by rw [HK0.out.1]; exact rdBnd_zero HK0.out.2⟩)
 clear MO8 hv hcells hga
 go_wp2_with fail
 go_loopw [53] (fun iv wr=>RdAt w9 C w5.heap.size recs rows iv wr) (fun iv _=>recs.length - (intOf iv).toNat)
 case atStart=>exact START.out
 case round =>
  obtain ⟨i,m,t1,A1,hi,rfl,bk,T1,hA1,ht1,K1,hap,hby⟩:=hrel
  have HBK:=Lib.hid bk
  have HT1:=Lib.hid T1
  have HA1:=Lib.hid hA1
  have HT:=Lib.hid ht1
  have HK1:=Lib.hid K1
  have HAP:=Lib.hid hap
  have HBY:=Lib.hid hby
  have QW:=Lib.hid (show Qt w5 wr from Keeps.trans (S:=fun _=>False) (Qt.trans Q7.out HN8.out.qt) K1 (fun j hj e=>by have e:j = C:=e; have:=HA7.out.2.2.1; omega))
  clear START bk T1 hA1 ht1 K1 hap hby
  by_cases hlt:i < recs.length
  ·have zlt:decide ((i:Int) < (recs.length:Int)) = true:=decide_eq_true (by omega)
   have zlt':decide (i < recs.length) = true:=decide_eq_true hlt
   obtain ⟨rec,hrec⟩:∃ x,recs[i]? = some x:=⟨recs[i],List.getElem?_eq_getElem hlt⟩
   obtain rfl:=HGA.out (fun e=>by rw [e] at hlt; exact absurd hlt (Nat.not_lt_zero _))
   have hgC:¬ g = C:=fun e=>by
    have h1:=HCE.out i rec hrec
    have h2:=HN8.out.new g (by rcases HN8.out.own.2 with ⟨e1,h0⟩ | ⟨g2,cap,cur,e1,_⟩; exact absurd h0 (by omega); injection e1 with e1 _ _; injection e1 with e1; injection e1 with e1 e2 _; subst e1; rfl)
    have:=HA7.out.2.2.2
    omega
   obtain ⟨rb,hrb,hrl⟩:∃ s:ByteArray,strV rec = .string s/\s.data.toList = rec:=⟨⟨rec.toArray⟩,rfl,rfl⟩
   have ce:wr.cell? ⟨g,off + i,none⟩ = some (.string rb):=by
    have h1:=HCE.out i rec hrec
    rw [hrb] at h1
    exact HK1.out.cellv h1 (fun e=>hgC e)
   have k0':(0:Int)<=(i:Int):=by omega
   have k1':(i:Int) < (recs.length:Int):=by omega
   have hw1:=pl_w1 (k:=i) (by have:=HREC.out.2.1; omega)
   have HM:=Lib.hid (pl_meas hlt)
   have HLT:=Lib.hid hlt
   have HRB:=Lib.hid hrl
   have HRS:=Lib.hid (show rec.length<=8388608 from HREC.out.1 rec (List.mem_of_getElem? hrec))
   have HDR:=Lib.hid (show recs.drop i = rec :: recs.drop (i + 1) from by rw [List.drop_eq_getElem_cons hlt]; congr 1; rw [List.getElem?_eq_getElem hlt] at hrec; exact Option.some.inj hrec)
   have ER:=Lib.hid ((HTD.out.dk.qt QW.out).errs)
   clear hrec hrb hgC
   cases hD:Bt.decD rec with
   | inl er =>
    have DEC:=Lib.hid (fun W (x:Qt wr W)=>decode12_err ad (s:=rb) W (by have e:rb.size = rb.data.toList.length:=rfl; rw [HRB.out] at e; have:=HRS.out; omega) (ER.out.kept x (OffErrs.none ad)) (er:=er) (by rw [HRB.out]; exact hD))
    have MN:=fun W=>mustO_no (.slice none 0 0) 335 (.pointer (some (ad er))) W
    unfold brokenE at MN
    have HNO:=Lib.hid (show So.lies d = .inl 15 from by
     have h1:=HAP.out
     rw [HDR.out,So.applyAll_no hD] at h1
     rw [HREC.out.2.2,<- h1])
    have FINF:=Lib.hid (fun W (x:Qt wr W)=>read13_bad HNO.out (HTD.out.qt (Qt.trans QW.out x)))
    clear hD
    go_wp2_with fail
    refine wp_region_held_drew (S:=fun _=>True) (by kernel_rfl) trivial (fun hHeld=>?_)
    refine wpAnyH_take (i:=1) (oi:=_) (v:=?_) rfl (by kernel_rfl) (by kernel_rfl) (by kernel_rfl) (fun _ _ _ h=>h) (Or.inl ⟨by rfl,?_⟩) (by assumption) ?_
    rotate_left
    ·(intro w hSw; (try dsimp only at hSw); go_simp; try with_reducible rfl)
    try simp only [Act.put]
    refine wpAnyH_ready (rs:=[0,2]) (by kernel_rfl) (by simp) ?_
    refine AllReadyH.cons rfl (fun KQ hKQ=>?_) ?_
    ·have z0:=(HBK.out.qt (Keeps.drew (Qt.refl wr))).cell 0 _ rfl
     have z1:=(HBK.out.qt (Keeps.drew (Qt.refl wr))).cell 1 _ rfl
     go_simp
     refine hKQ.out _ _ trivial (fun hH0=>?_)
     clear hKQ KQ
     clear z0 z1
     refine wpAnyH_ready (rs:=[2]) (by kernel_rfl) (by simp) ?_
     refine AllReadyH.cons rfl (fun KQ hKQ=>?_) ?_
     ·go_simp
      go_wp2_with (go_at_call 150; refine (DEC.out _ (Keeps.drew (Qt.refl wr))).mono ?_; rintro e wd ⟨rfl,qd⟩)
      refine hKQ.out _ _ trivial (fun hH2=>?_)
      clear hKQ KQ
      refine wpAnyH_take (i:=3) (oi:=_) (v:=?_) rfl (by kernel_rfl) (by kernel_rfl) (by kernel_rfl) (fun _ _ _ h=>h) (Or.inl ⟨by rfl,?_⟩) (by assumption) ?_
      rotate_left
      ·(intro w hSw; (try dsimp only at hSw); go_simp; try with_reducible rfl)
      try simp only [Act.put]
      refine wpAnyH_take (i:=4) (oi:=_) (v:=?_) rfl (by kernel_rfl) (by kernel_rfl) (by kernel_rfl) (fun _ _ _ h=>h) (Or.inl ⟨by rfl,?_⟩) (by assumption) ?_
      rotate_left
      ·(intro w hSw; (try dsimp only at hSw); go_simp; try with_reducible rfl)
      try simp only [Act.put]
      have qd1:Qt wr wd:=Qt.trans (Keeps.drew (Qt.refl wr)) qd
      refine wpAnyH_ready (rs:=[5]) (by kernel_rfl) (by simp) ?_
      refine AllReadyH.cons rfl (fun KQ hKQ=>?_) ?_
      ·go_simp
       go_wp2_with (go_at_call 149; refine (MN _).mono ?_; rintro e wx ⟨rfl,rfl⟩)
       exact ⟨rfl,FINF.out _ qd1⟩
      exact AllReadyH.nil
     exact AllReadyH.nil
    refine AllReadyH.cons rfl (fun KQ hKQ=>?_) ?_
    ·go_simp
     go_wp2_with (go_at_call 150; refine (DEC.out _ (Keeps.drew (Qt.refl wr))).mono ?_; rintro e wd ⟨rfl,qd⟩)
     refine hKQ.out _ _ trivial (fun hH2=>?_)
     clear hKQ KQ
     refine wpAnyH_take (i:=3) (oi:=_) (v:=?_) rfl (by kernel_rfl) (by kernel_rfl) (by kernel_rfl) (fun _ _ _ h=>h) (Or.inl ⟨by rfl,?_⟩) (by assumption) ?_
     rotate_left
     ·(intro w hSw; (try dsimp only at hSw); go_simp; try with_reducible rfl)
     try simp only [Act.put]
     refine wpAnyH_take (i:=4) (oi:=_) (v:=?_) rfl (by kernel_rfl) (by kernel_rfl) (by kernel_rfl) (fun _ _ _ h=>h) (Or.inl ⟨by rfl,?_⟩) (by assumption) ?_
     rotate_left
     ·(intro w hSw; (try dsimp only at hSw); go_simp; try with_reducible rfl)
     try simp only [Act.put]
     have qd1:Qt wr wd:=Qt.trans (Keeps.drew (Qt.refl wr)) qd
     refine wpAnyH_ready (rs:=[0,5]) (by kernel_rfl) (by simp) ?_
     refine AllReadyH.cons rfl (fun KQ hKQ=>?_) ?_
     ·have z0:=(HBK.out.qt (qd1)).cell 0 _ rfl
      have z1:=(HBK.out.qt (qd1)).cell 1 _ rfl
      go_simp
      refine hKQ.out _ _ trivial (fun hH0=>?_)
      clear hKQ KQ
      clear z0 z1
      refine wpAnyH_ready (rs:=[5]) (by kernel_rfl) (by simp) ?_
      refine AllReadyH.cons rfl (fun KQ hKQ=>?_) ?_
      ·go_simp
       go_wp2_with (go_at_call 149; refine (MN _).mono ?_; rintro e wx ⟨rfl,rfl⟩)
       exact ⟨rfl,FINF.out _ qd1⟩
      exact AllReadyH.nil
     refine AllReadyH.cons rfl (fun KQ hKQ=>?_) ?_
     ·go_simp
      go_wp2_with (go_at_call 149; refine (MN _).mono ?_; rintro e wx ⟨rfl,rfl⟩)
      exact ⟨rfl,FINF.out _ qd1⟩
     exact AllReadyH.nil
    exact AllReadyH.nil
   | inr ops =>
    obtain ⟨hnm,hsm,hon⟩:=So.dec_small hD HRS.out
    have DEC:=Lib.hid (fun W (x:Qt wr W)=>decode12_ok ad (s:=rb) W (by have e:rb.size = rb.data.toList.length:=rfl; rw [HRB.out] at e; have:=HRS.out; omega) (ER.out.kept x (OffErrs.none ad)) (os:=ops) (by rw [HRB.out]; exact hD))
    have MO:=fun v W=>mustO_ok v W
    have HBI:=Lib.hid (show (So.rowsB m).length<=1099511627776 from rdBnd_most HBY.out (Nat.le_trans (Nat.le_of_lt HLT.out) HREC.out.2.1))
    have AFF:=Lib.hid (fun W W0 v2 (N:NewO W0 W v2 ops) (x:Qt wr W)=>by
     obtain ⟨g2,hi2,_⟩:=newO_in N (by have:=hsm.len; omega)
     exact after13_any W (after_hyp (HT1.out.qt x) HBI.out hi2 hnm hsm))
    have HBZ:=Lib.hid (show (So.rowsB (Bt.apply m ops)).length<=rdBnd (i + 1) from rdBnd_succ HBY.out (So.apply_rowsB HT1.out.sorted ops) hon)
    have HAZ:=Lib.hid (show So.applyAll (Bt.apply m ops) (recs.drop (i + 1)) = So.applyAll rows recs from by
     have h1:=HAP.out
     rw [HDR.out,So.applyAll_step hD] at h1
     exact h1)
    have FINF:=Lib.hid (fun (W wa:World) (t2:Nat) (A2:Nat->Prop) (x:Qt wr W) (T2:Tbl wa t2 (Bt.apply m ops) A2) (ht2:W.heap.size<=t2) (hA2:∀ k,A2 k->A1 k\/W.heap.size<=k) (y:Qt W wa)=>(show RdAt w9 C w5.heap.size recs rows (.int .i64 ((i:Int) + 1)) ((wa.setCell ⟨C,0,none⟩ (ptrV t2)).setCell ⟨C,1,none⟩ (.int .i64 (((So.rowsB (Bt.apply m ops)).length:Nat):Int))) from by
     have hCW:C < W.heap.size:=(HBK.out.qt x).lt
     have hW5:w5.heap.size<=W.heap.size:=(Qt.trans QW.out x).size
     have hAC:∀ k,A2 k->w5.heap.size<=k/\k ≠ C:=fun k hk=>by
      rcases hA2 k hk with e | e
      ·exact HA1.out k e
      ·exact ⟨by omega,by omega⟩
     exact ⟨i + 1,Bt.apply m ops,t2,A2,HLT.out,by simp,(((HBK.out.qt x).qt y).set 0 _).set 1 _,(T2.kept (keeps_set _ C 0 _) (fun k hk e=>(hAC k hk).2 e)).kept (keeps_set _ C 1 _) (fun k hk e=>(hAC k hk).2 e),hAC,by omega,Keeps.trans (Keeps.trans (HK1.out.qtL (Qt.trans x y)) (keeps_set _ C 0 _) (fun _ _ e=>e)) (keeps_set _ C 1 _) (fun _ _ e=>e),HAZ.out,HBZ.out⟩))
    unfold contV at AFF
    clear hD hnm hsm hon
    go_wp2_with fail
    refine wp_region_held_drew (S:=fun _=>True) (by kernel_rfl) trivial (fun hHeld=>?_)
    refine wpAnyH_take (i:=1) (oi:=_) (v:=?_) rfl (by kernel_rfl) (by kernel_rfl) (by kernel_rfl) (fun _ _ _ h=>h) (Or.inl ⟨by rfl,?_⟩) (by assumption) ?_
    rotate_left
    ·(intro w hSw; (try dsimp only at hSw); go_simp; try with_reducible rfl)
    try simp only [Act.put]
    refine wpAnyH_ready (rs:=[0,2]) (by kernel_rfl) (by simp) ?_
    refine AllReadyH.cons rfl (fun KQ hKQ=>?_) ?_
    ·have z0:=(HBK.out.qt (Keeps.drew (Qt.refl wr))).cell 0 _ rfl
     have z1:=(HBK.out.qt (Keeps.drew (Qt.refl wr))).cell 1 _ rfl
     go_simp
     refine hKQ.out _ _ trivial (fun hH0=>?_)
     clear hKQ KQ
     clear z0 z1
     refine wpAnyH_ready (rs:=[2]) (by kernel_rfl) (by simp) ?_
     refine AllReadyH.cons rfl (fun KQ hKQ=>?_) ?_
     ·go_simp
      go_wp2_with (go_at_call 150; refine (DEC.out _ (Keeps.drew (Qt.refl wr))).mono ?_; rintro e wd ⟨vd,rfl,nd⟩)
      refine hKQ.out _ _ trivial (fun hH2=>?_)
      clear hKQ KQ
      refine wpAnyH_take (i:=3) (oi:=_) (v:=?_) rfl (by kernel_rfl) (by kernel_rfl) (by kernel_rfl) (fun _ _ _ h=>h) (Or.inl ⟨by rfl,?_⟩) (by assumption) ?_
      rotate_left
      ·(intro w hSw; (try dsimp only at hSw); go_simp; try with_reducible rfl)
      try simp only [Act.put]
      refine wpAnyH_take (i:=4) (oi:=_) (v:=?_) rfl (by kernel_rfl) (by kernel_rfl) (by kernel_rfl) (fun _ _ _ h=>h) (Or.inl ⟨by rfl,?_⟩) (by assumption) ?_
      rotate_left
      ·(intro w hSw; (try dsimp only at hSw); go_simp; try with_reducible rfl)
      try simp only [Act.put]
      have qd1:Qt wr wd:=Qt.trans (Keeps.drew (Qt.refl wr)) nd.qt
      refine wpAnyH_ready (rs:=[5]) (by kernel_rfl) (by simp) ?_
      refine AllReadyH.cons rfl (fun KQ hKQ=>?_) ?_
      ·go_simp
       go_wp2_with (go_at_call 149; refine (MO _ _).mono ?_; rintro e wx ⟨rfl,rfl⟩)
       refine hKQ.out _ _ trivial (fun hH5=>?_)
       clear hKQ KQ
       refine wpAnyH_ready (rs:=[6]) (by kernel_rfl) (by simp) ?_
       refine AllReadyH.cons rfl (fun KQ hKQ=>?_) ?_
       ·go_simp
        go_wp2_with (go_at_call 70; refine (AFF.out _ _ _ nd qd1).mono ?_; rintro e wa ⟨t2,A2,rfl,T2,ht2,hA2,qa⟩)
        refine hKQ.out _ _ trivial (fun hH6=>?_)
        clear hKQ KQ
        have bka:=HBK.out.qt (Qt.trans qd1 qa)
        have z0:=bka.cell 0 _ rfl
        have z1:=bka.cell 1 _ rfl
        have z2:=bka.frozen 0
        have z3:=bka.frozen 1
        refine wpAnyH_ready (rs:=[7]) (by kernel_rfl) (by simp) ?_
        refine AllReadyH.cons rfl (fun KQ hKQ=>?_) ?_
        ·go_simp
         refine hKQ.out _ _ trivial (fun hH7=>?_)
         clear hKQ KQ
         refine wpAnyH_done (by kernel_rfl) ?_ _
         have FIN:=Lib.hid (FINF.out wx wa t2 A2 qd1 T2 ht2 hA2 qa)
         clear bka z0 z1 z2 z3 T2 ht2 hA2 qa nd
         go_wp2_with fail
         rw [hw1]
         exact ⟨FIN.out,HM.out⟩
        exact AllReadyH.nil
       exact AllReadyH.nil
      exact AllReadyH.nil
     exact AllReadyH.nil
    refine AllReadyH.cons rfl (fun KQ hKQ=>?_) ?_
    ·go_simp
     go_wp2_with (go_at_call 150; refine (DEC.out _ (Keeps.drew (Qt.refl wr))).mono ?_; rintro e wd ⟨vd,rfl,nd⟩)
     refine hKQ.out _ _ trivial (fun hH2=>?_)
     clear hKQ KQ
     refine wpAnyH_take (i:=3) (oi:=_) (v:=?_) rfl (by kernel_rfl) (by kernel_rfl) (by kernel_rfl) (fun _ _ _ h=>h) (Or.inl ⟨by rfl,?_⟩) (by assumption) ?_
     rotate_left
     ·(intro w hSw; (try dsimp only at hSw); go_simp; try with_reducible rfl)
     try simp only [Act.put]
     refine wpAnyH_take (i:=4) (oi:=_) (v:=?_) rfl (by kernel_rfl) (by kernel_rfl) (by kernel_rfl) (fun _ _ _ h=>h) (Or.inl ⟨by rfl,?_⟩) (by assumption) ?_
     rotate_left
     ·(intro w hSw; (try dsimp only at hSw); go_simp; try with_reducible rfl)
     try simp only [Act.put]
     have qd1:Qt wr wd:=Qt.trans (Keeps.drew (Qt.refl wr)) nd.qt
     refine wpAnyH_ready (rs:=[0,5]) (by kernel_rfl) (by simp) ?_
     refine AllReadyH.cons rfl (fun KQ hKQ=>?_) ?_
     ·have z0:=(HBK.out.qt (qd1)).cell 0 _ rfl
      have z1:=(HBK.out.qt (qd1)).cell 1 _ rfl
      go_simp
      refine hKQ.out _ _ trivial (fun hH0=>?_)
      clear hKQ KQ
      clear z0 z1
      refine wpAnyH_ready (rs:=[5]) (by kernel_rfl) (by simp) ?_
      refine AllReadyH.cons rfl (fun KQ hKQ=>?_) ?_
      ·go_simp
       go_wp2_with (go_at_call 149; refine (MO _ _).mono ?_; rintro e wx ⟨rfl,rfl⟩)
       refine hKQ.out _ _ trivial (fun hH5=>?_)
       clear hKQ KQ
       refine wpAnyH_ready (rs:=[6]) (by kernel_rfl) (by simp) ?_
       refine AllReadyH.cons rfl (fun KQ hKQ=>?_) ?_
       ·go_simp
        go_wp2_with (go_at_call 70; refine (AFF.out _ _ _ nd qd1).mono ?_; rintro e wa ⟨t2,A2,rfl,T2,ht2,hA2,qa⟩)
        refine hKQ.out _ _ trivial (fun hH6=>?_)
        clear hKQ KQ
        have bka:=HBK.out.qt (Qt.trans qd1 qa)
        have z0:=bka.cell 0 _ rfl
        have z1:=bka.cell 1 _ rfl
        have z2:=bka.frozen 0
        have z3:=bka.frozen 1
        refine wpAnyH_ready (rs:=[7]) (by kernel_rfl) (by simp) ?_
        refine AllReadyH.cons rfl (fun KQ hKQ=>?_) ?_
        ·go_simp
         refine hKQ.out _ _ trivial (fun hH7=>?_)
         clear hKQ KQ
         refine wpAnyH_done (by kernel_rfl) ?_ _
         have FIN:=Lib.hid (FINF.out wx wa t2 A2 qd1 T2 ht2 hA2 qa)
         clear bka z0 z1 z2 z3 T2 ht2 hA2 qa nd
         go_wp2_with fail
         rw [hw1]
         exact ⟨FIN.out,HM.out⟩
        exact AllReadyH.nil
       exact AllReadyH.nil
      exact AllReadyH.nil
     refine AllReadyH.cons rfl (fun KQ hKQ=>?_) ?_
     ·go_simp
      go_wp2_with (go_at_call 149; refine (MO _ _).mono ?_; rintro e wx ⟨rfl,rfl⟩)
      refine hKQ.out _ _ trivial (fun hH5=>?_)
      clear hKQ KQ
      refine wpAnyH_ready (rs:=[0]) (by kernel_rfl) (by simp) ?_
      refine AllReadyH.cons rfl (fun KQ hKQ=>?_) ?_
      ·have z0:=(HBK.out.qt (qd1)).cell 0 _ rfl
       have z1:=(HBK.out.qt (qd1)).cell 1 _ rfl
       go_simp
       refine hKQ.out _ _ trivial (fun hH0=>?_)
       clear hKQ KQ
       clear z0 z1
       refine wpAnyH_ready (rs:=[6]) (by kernel_rfl) (by simp) ?_
       refine AllReadyH.cons rfl (fun KQ hKQ=>?_) ?_
       ·go_simp
        go_wp2_with (go_at_call 70; refine (AFF.out _ _ _ nd qd1).mono ?_; rintro e wa ⟨t2,A2,rfl,T2,ht2,hA2,qa⟩)
        refine hKQ.out _ _ trivial (fun hH6=>?_)
        clear hKQ KQ
        have bka:=HBK.out.qt (Qt.trans qd1 qa)
        have z0:=bka.cell 0 _ rfl
        have z1:=bka.cell 1 _ rfl
        have z2:=bka.frozen 0
        have z3:=bka.frozen 1
        refine wpAnyH_ready (rs:=[7]) (by kernel_rfl) (by simp) ?_
        refine AllReadyH.cons rfl (fun KQ hKQ=>?_) ?_
        ·go_simp
         refine hKQ.out _ _ trivial (fun hH7=>?_)
         clear hKQ KQ
         refine wpAnyH_done (by kernel_rfl) ?_ _
         have FIN:=Lib.hid (FINF.out wx wa t2 A2 qd1 T2 ht2 hA2 qa)
         clear bka z0 z1 z2 z3 T2 ht2 hA2 qa nd
         go_wp2_with fail
         rw [hw1]
         exact ⟨FIN.out,HM.out⟩
        exact AllReadyH.nil
       exact AllReadyH.nil
      exact AllReadyH.nil
     exact AllReadyH.nil
    exact AllReadyH.nil
  ·obtain rfl:i = recs.length:=by omega
   have zlt:decide ((recs.length:Int) < (recs.length:Int)) = false:=decide_eq_false (by omega)
   have zlt':decide (recs.length < recs.length) = false:=decide_eq_false (by omega)
   have HAM:=Lib.hid (show So.applyAll rows recs = some m from by have h1:=HAP.out; rw [List.drop_length] at h1; exact h1.symm)
   obtain ⟨kb,hkb⟩:∃ z,(So.rowsB m).length = z:=⟨_,rfl⟩
   have SZ:=Lib.hid (fun W (x:Qt wr W)=>size13_any W (HT1.out.qt x) (Nat.le_trans (rdBnd_most HBY.out HREC.out.2.1) (by decide)))
   have RM:=Lib.hid (fun W=>room13_any b n (by have e:=HL3.out.1; have:=HN6.out; have:=HN.out; unfold So.each; omega) W)
   unfold contV at SZ
   unfold layV layCells at RM
   rw [HL3.out.1,HL3.out.2.1,HL3.out.2.2] at RM
   have HKB:=Lib.hid hkb
   rw [hkb] at SZ
   have KE:=Lib.hid (fun W (x:Qt wr W)=>(show (W.cell? ⟨C,0,none⟩ = some (ptrV t1)/\W.cell? ⟨C,1,none⟩ = some (.int .i64 (kb:Int)))/\_ from ⟨⟨(HBK.out.qt x).cell 0 _ rfl,by rw [<- HKB.out]; exact (HBK.out.qt x).cell 1 _ rfl⟩,KL5.out W (Qt.trans QW.out x)⟩))
   by_cases hrm:So.room n < So.size m
   ·have HNO:=Lib.hid (show So.lies d = .inl 15 from by rw [HREC.out.2.2,HAM.out]; exact if_pos hrm)
    have y:decide (((So.size m:Nat):Int)<=((So.room n:Nat):Int)) = false:=decide_eq_false (by omega)
    have y':decide (So.size m<=So.room n) = false:=decide_eq_false (by omega)
    have NN:=fun W=>need_no W
    unfold brokenE at NN
    clear hrm hi hkb
    go_wp2_with fail
    refine wp_region_held_drew (S:=(fun W'=>(W'.cell? ⟨C,0,none⟩ = some (ptrV t1)/\W'.cell? ⟨C,1,none⟩ = some (.int .i64 (kb:Int)))/\W'.cell? ⟨GL,0,none⟩ = some (.pointer (some ⟨b,0,none⟩))/\W'.cell? ⟨GL,1,none⟩ = some (.int .i64 2)/\W'.cell? ⟨GL,2,none⟩ = some (.int .i64 (2 + (ea:Int)))/\W'.cell? ⟨GL,3,none⟩ = some (.int .i64 (ea:Int))/\W'.cell? ⟨GL,4,none⟩ = some (.int .i64 (lg:Int))/\W'.cell? ⟨GL,5,none⟩ = some (.int .i64 (mn:Int)))) (by kernel_rfl) ?_ (fun hHeld=>?_)
    ·exact KE.out _ (Keeps.drew (Qt.refl wr))
    refine wpAnyH_take (i:=0) (oi:=_) (v:=?_) rfl (by kernel_rfl) (by kernel_rfl) (by kernel_rfl) (fun _ _ _ h=>h) (Or.inl ⟨by rfl,?_⟩) (by assumption) ?_
    rotate_left
    ·(intro w hSw; (try dsimp only at hSw); go_simp; try with_reducible rfl)
    try simp only [Act.put]
    refine wpAnyH_take (i:=2) (oi:=_) (v:=?_) rfl (by kernel_rfl) (by kernel_rfl) (by kernel_rfl) (fun _ _ _ h=>h) (Or.inl ⟨by rfl,?_⟩) (by assumption) ?_
    rotate_left
    ·(intro w hSw; (try dsimp only at hSw); go_simp; try with_reducible rfl)
    try simp only [Act.put]
    refine wpAnyH_ready (rs:=[1]) (by kernel_rfl) (by simp) ?_
    refine AllReadyH.cons rfl (fun KQ hKQ=>?_) AllReadyH.nil
    go_simp
    go_wp2_with (go_at_call 72; refine (SZ.out _ (Keeps.drew (Qt.refl wr))).mono ?_; rintro e ws ⟨rfl,qs'⟩; have qs:Qt wr ws:=Qt.trans (Keeps.drew (Qt.refl wr)) qs')
    refine hKQ.out _ _ ?_ (fun hHeld1=>?_)
    ·(try dsimp only); exact KE.out _ qs
    clear hKQ KQ
    refine wpAnyH_ready (rs:=[3]) (by kernel_rfl) (by simp) ?_
    refine AllReadyH.cons rfl (fun KQ hKQ=>?_) AllReadyH.nil
    go_simp
    go_wp2_with (go_at_call 73; refine (RM.out _).mono ?_; rintro e wt ⟨rfl,hwt⟩; have qt:Qt wr wt:=hwt ▸ qs.alloc _; clear hwt)
    refine hKQ.out _ _ ?_ (fun hHeld3=>?_)
    ·(try dsimp only); exact KE.out _ qt
    clear hKQ KQ
    refine wpAnyH_take (i:=4) (oi:=_) (v:=?_) rfl (by kernel_rfl) (by kernel_rfl) (by kernel_rfl) (fun _ _ _ h=>h) (Or.inl ⟨by rfl,?_⟩) (by assumption) ?_
    rotate_left
    ·(intro w hSw; (try dsimp only at hSw); go_simp; try with_reducible rfl)
    try simp only [Act.put]
    refine wpAnyH_ready (rs:=[5]) (by kernel_rfl) (by simp) ?_
    refine AllReadyH.cons rfl (fun KQ hKQ=>?_) AllReadyH.nil
    have FIN:=Lib.hid (read13_bad HNO.out (HTD.out.qt (Qt.trans QW.out qt)))
    go_simp
    go_wp2_with (go_at_call 151; refine (NN _).mono ?_; rintro e wx ⟨rfl,rfl⟩)
    exact ⟨rfl,FIN.out⟩
   ·have HYE:=Lib.hid (show So.lies d = .inr (m,vr) from by rw [HREC.out.2.2,HAM.out]; exact if_neg hrm)
    have y:decide (((So.size m:Nat):Int)<=((So.room n:Nat):Int)) = true:=decide_eq_true (by omega)
    have y':decide (So.size m<=So.room n) = true:=decide_eq_true (by omega)
    have NN:=fun W=>need_ok W
    have BRr:=Lib.hid (((BR5.out.qt (Qt.trans Q7.out HN8.out.qt)).kept HK1.out (fun e=>by have e:GR = C:=e; have:=BR5.out.lt; have:=HA7.out.2.2.1; omega)))
    have NRC:=Lib.hid (show ¬ GR = C from fun e=>by have:=BR5.out.lt; have:=HA7.out.2.2.1; omega)
    clear hrm hi hkb
    go_wp2_with fail
    refine wp_region_held_drew (S:=(fun W'=>(W'.cell? ⟨C,0,none⟩ = some (ptrV t1)/\W'.cell? ⟨C,1,none⟩ = some (.int .i64 (kb:Int)))/\W'.cell? ⟨GL,0,none⟩ = some (.pointer (some ⟨b,0,none⟩))/\W'.cell? ⟨GL,1,none⟩ = some (.int .i64 2)/\W'.cell? ⟨GL,2,none⟩ = some (.int .i64 (2 + (ea:Int)))/\W'.cell? ⟨GL,3,none⟩ = some (.int .i64 (ea:Int))/\W'.cell? ⟨GL,4,none⟩ = some (.int .i64 (lg:Int))/\W'.cell? ⟨GL,5,none⟩ = some (.int .i64 (mn:Int)))) (by kernel_rfl) ?_ (fun hHeld=>?_)
    ·exact KE.out _ (Keeps.drew (Qt.refl wr))
    refine wpAnyH_take (i:=0) (oi:=_) (v:=?_) rfl (by kernel_rfl) (by kernel_rfl) (by kernel_rfl) (fun _ _ _ h=>h) (Or.inl ⟨by rfl,?_⟩) (by assumption) ?_
    rotate_left
    ·(intro w hSw; (try dsimp only at hSw); go_simp; try with_reducible rfl)
    try simp only [Act.put]
    refine wpAnyH_take (i:=2) (oi:=_) (v:=?_) rfl (by kernel_rfl) (by kernel_rfl) (by kernel_rfl) (fun _ _ _ h=>h) (Or.inl ⟨by rfl,?_⟩) (by assumption) ?_
    rotate_left
    ·(intro w hSw; (try dsimp only at hSw); go_simp; try with_reducible rfl)
    try simp only [Act.put]
    refine wpAnyH_ready (rs:=[1]) (by kernel_rfl) (by simp) ?_
    refine AllReadyH.cons rfl (fun KQ hKQ=>?_) AllReadyH.nil
    go_simp
    go_wp2_with (go_at_call 72; refine (SZ.out _ (Keeps.drew (Qt.refl wr))).mono ?_; rintro e ws ⟨rfl,qs'⟩; have qs:Qt wr ws:=Qt.trans (Keeps.drew (Qt.refl wr)) qs')
    refine hKQ.out _ _ ?_ (fun hHeld1=>?_)
    ·(try dsimp only); exact KE.out _ qs
    clear hKQ KQ
    refine wpAnyH_ready (rs:=[3]) (by kernel_rfl) (by simp) ?_
    refine AllReadyH.cons rfl (fun KQ hKQ=>?_) AllReadyH.nil
    go_simp
    go_wp2_with (go_at_call 73; refine (RM.out _).mono ?_; rintro e wt ⟨rfl,hwt⟩; have qt:Qt wr wt:=hwt ▸ qs.alloc _; clear hwt)
    refine hKQ.out _ _ ?_ (fun hHeld3=>?_)
    ·(try dsimp only); exact KE.out _ qt
    clear hKQ KQ
    refine wpAnyH_take (i:=4) (oi:=_) (v:=?_) rfl (by kernel_rfl) (by kernel_rfl) (by kernel_rfl) (fun _ _ _ h=>h) (Or.inl ⟨by rfl,?_⟩) (by assumption) ?_
    rotate_left
    ·(intro w hSw; (try dsimp only at hSw); go_simp; try with_reducible rfl)
    try simp only [Act.put]
    refine wpAnyH_ready (rs:=[5]) (by kernel_rfl) (by simp) ?_
    refine AllReadyH.cons rfl (fun KQ hKQ=>?_) AllReadyH.nil
    go_simp
    go_wp2_with (go_at_call 151; refine (NN _).mono ?_; rintro e wx ⟨rfl,rfl⟩)
    refine hKQ.out _ _ ?_ (fun hHeld5=>?_)
    ·(try dsimp only); exact KE.out _ qt
    clear hKQ KQ
    refine wpAnyH_done (by kernel_rfl) ?_ _
    have BRx:=Lib.hid (BRr.out.qt qt)
    have r0:=BRx.out.cell 0 _ rfl
    have r1:=BRx.out.cell 1 _ rfl
    have s0:=BRx.out.frozen 0
    have s1:=BRx.out.frozen 1
    have BCx:=Lib.hid (show Bk wx C 132 [ptrV t1,.int .i64 (kb:Int)] from by rw [<- HKB.out]; exact HBK.out.qt qt)
    have KC:=Lib.hid (fun u v'=>(show (((wx.drew).setCell ⟨GR,0,none⟩ u).setCell ⟨GR,1,none⟩ v').cell? ⟨C,0,none⟩ = some (ptrV t1)/\(((wx.drew).setCell ⟨GR,0,none⟩ u).setCell ⟨GR,1,none⟩ v').cell? ⟨C,1,none⟩ = some (.int .i64 (kb:Int)) from ⟨((BCx.out.drew.other NRC.out u).other NRC.out v').cell 0 _ rfl,((BCx.out.drew.other NRC.out u).other NRC.out v').cell 1 _ rfl⟩))
    have KC0:=Lib.hid (show wx.drew.cell? ⟨C,0,none⟩ = some (ptrV t1)/\wx.drew.cell? ⟨C,1,none⟩ = some (.int .i64 (kb:Int)) from ⟨BCx.out.cell 0 _ rfl,BCx.out.cell 1 _ rfl⟩)
    have QX:=Lib.hid (Qt.trans QW.out qt)
    have Tx:=Lib.hid (HT1.out.qt qt)
    clear qs' 
    go_wp2_with fail
    go_region_held3 (fun W'=>W'.cell? ⟨C,0,none⟩ = some (ptrV t1)/\W'.cell? ⟨C,1,none⟩ = some (.int .i64 (kb:Int)))
     (first | exact KC0.out | exact KC.out _ _)
     (fail)
    have FIN:=Lib.hid (show ReadTo n0 ad w b d (So.lies d) S (.returned (.tuple #[.int .i64 (vr:Int),.agg #[ptrV t1,.int .i64 (kb:Int)],.nilIface])) ((wx.drew.setCell ⟨GR,0,none⟩ (ptrV t1)).setCell ⟨GR,1,none⟩ (.int .i64 (kb:Int))) from by
     rw [HYE.out]
     refine ⟨_,((HTD.out.qt (Qt.trans QX.out (Keeps.drew (Qt.refl wx)))).box (by have:=HD.out.base; have:=HG.out; omega) HG.out.2.1 NR5.out 0 _).box (by have:=HD.out.base; have:=HG.out; omega) HG.out.2.1 NR5.out 1 _,t1,A1,by rw [<- HKB.out]; rfl,(Tx.out.kept (Keeps.drew (keeps_set wx GR 0 (ptrV t1))) (fun k hk e=>by have e:k = GR:=e; have:=(HA1.out k hk).1; have:=BR5.out.lt; omega)).kept (keeps_set _ GR 1 _) (fun k hk e=>by have e:k = GR:=e; have:=(HA1.out k hk).1; have:=BR5.out.lt; omega),fun k hk=>⟨by have:=(HA1.out k hk).1; have:=HTD.out.keeps.size; omega,fun e=>by have:=HTD.out.dk.lt k e; have:=(HA1.out k hk).1; omega⟩,by have:=HT.out; have:=HTD.out.keeps.size; omega⟩)
    go_wp2
    exact bodyPost_ret (results_read (u:=2) (p:=3) (v:=4) (by kernel_rfl) _ _ GR _ _ rfl ((BRx.out.drew.set 0 (ptrV t1)).set 1 (.int .i64 (kb:Int)))) rfl FIN.out
end
end Go.Proofs.YthjjfjhajadimaaGreatDoor
