/-
  The landed store: Open, over what reading answers.
-/
import Derived.Test.YthjjfjhajadimaaGreatDoorP35
namespace Go.Proofs.YthjjfjhajadimaaGreatDoor
open Go.RowKit Go.WideShapes
set_option maxRecDepth 100000
def ReadTo (n0:Nat) (ad:Nat->Addr) (w:World) (b:Nat) (d:DS) (r:Nat ⊕ (List Tb.R × Nat)) (S:Nat->Prop) (e:Ending) (w':World):Prop :=
 ∃ S',DkTo n0 ad w b d S w' S'/\match r with
  | .inl er=>if er = 15 then e = .panicked [{ v:=.iface 163 (.agg #[]),recovered:=false }] else e = .returned (.tuple #[.int .i64 0,.agg #[.pointer none,.int .i64 0],errV ad er])
  | .inr (m,v)=>∃ t A,e = .returned (.tuple #[.int .i64 (v:Int),contV t (So.rowsB m).length,.nilIface])/\Tbl w' t m A/\(∀ k,A k->w.heap.size<=k/\¬ S' k)/\w.heap.size<=t
def OpnNo (n0:Nat) (ad:Nat->Addr) (w:World) (b:Nat) (er:Nat) (d:DS) (S:Nat->Prop) (e:Ending) (w':World):Prop :=
 ∃ S',e = .returned (.tuple #[.pointer none,errV ad er])/\DkTo n0 ad w b d S w' S'
def OpnYes (n0:Nat) (ad:Nat->Addr) (w:World) (b n:Nat) (m:List Tb.R) (v:Nat) (d:DS) (S:Nat->Prop) (e:Ending) (w':World):Prop :=
 ∃ p t q A S',e = .returned (.tuple #[.pointer (some ⟨p,0,none⟩),.nilIface])/\DkTo n0 ad w b d S w' S'/\Sm w' p b n d.cr t (So.rowsB m).length v q/\Tbl w' t m A/\CJ w' q b (So.logOf d v)/\w.heap.size<=p/\w.heap.size<=q/\(∀ k,A k->w.heap.size<=k/\¬ S' k/\k ≠ q/\k ≠ p)/\¬ S' p/\¬ S' q/\p ≠ q
theorem errs_gc {n0:Nat} {ad:Nat->Addr} {w:World} {b:Nat} {d:DS} {S:Nat->Prop} (h:Dk n0 ad w b d S):8 < n0:=h.vars _ (by decide)
theorem isAggStore (w:World):(isAgg 34).run Tryz.prog w = .ok false w:=run_isAgg_plain Tryz.underlying34 rfl w
theorem isAggError (w:World):(isAgg 27).run Tryz.prog w = .ok false w:=run_isAgg_plain Tryz.underlying27 rfl w
theorem open_leave {R:Ending->World->Prop} {tmps:Array Value} {W:World} {GS GE:Nat} {x y:Value} (h2:tmps.getD 2 undef = .pointer (some ⟨GS,0,none⟩)) (h3:tmps.getD 3 undef = .pointer (some ⟨GE,0,none⟩)) (hS:Bk W GS 34 [x]) (hE:Bk W GE 27 [y]) (hR:R (.returned (.tuple #[x,y])) W) :
  bodyPostD Tryz.prog Tryz.f38 R Exit.ret { tmps:=tmps,defers:=[{ target:=.fn (.func 86) #[.pointer (some ⟨GS,0,none⟩),.pointer (some ⟨GE,0,none⟩)],args:=#[] }] } W:=by
 show Leaves Tryz.prog Tryz.f38 tmps R _ .returning W
 refine leaves_cons (f:=86) (args:=#[.pointer (some ⟨GS,0,none⟩),.pointer (some ⟨GE,0,none⟩)]) (by simp) (by simp [go_sem]) ?_
 refine (catch_idle13 (w:=W) (gs:=GS) (ge:=GE)).mono ?_
 rintro e u' w'' ⟨rfl,rfl,rfl⟩
 show Leaves Tryz.prog Tryz.f38 tmps R [] .returning w''
 exact ⟨_,resultsR_cell2 (p:=2) (q:=3) rfl _ _ _ h2 h3 (isAggStore _) (isAggError _) (hS.cell 0 _ rfl) (hE.cell 0 _ rfl),hR⟩
theorem open_caught (ad:Nat->Addr) {R:Ending->World->Prop} {tmps:Array Value} {W:World} {GS GE:Nat} {x y:Value} (hE0:Errs ad W) (h2:tmps.getD 2 undef = .pointer (some ⟨GS,0,none⟩)) (h3:tmps.getD 3 undef = .pointer (some ⟨GE,0,none⟩)) (hS:Bk W GS 34 [x]) (hE:Bk W GE 27 [y]) (hne:GS ≠ GE) (hg:¬ GS = 8)
  (hR:R (.returned (.tuple #[.pointer none,.iface 335 (.pointer (some (ad 15)))])) ((W.setCell ⟨GS,0,none⟩ (.pointer none)).setCell ⟨GE,0,none⟩ (.iface 335 (.pointer (some (ad 15)))))) :
  bodyPostD Tryz.prog Tryz.f38 R (Exit.panic [{ v:=.iface 163 (.agg #[]),recovered:=false }]) { tmps:=tmps,defers:=[{ target:=.fn (.func 86) #[.pointer (some ⟨GS,0,none⟩),.pointer (some ⟨GE,0,none⟩)],args:=#[] }] } W:=by
 show Leaves Tryz.prog Tryz.f38 tmps R _ (.panicking [{ v:=.iface 163 (.agg #[]),recovered:=false }]) W
 refine leaves_cons (f:=86) (args:=#[.pointer (some ⟨GS,0,none⟩),.pointer (some ⟨GE,0,none⟩)]) (by simp) (by simp [go_sem]) ?_
 refine (catch_broken ad hE0 hS hE hne hg []).mono ?_
 rintro e u' w'' ⟨rfl,rfl,rfl⟩
 show Leaves Tryz.prog Tryz.f38 tmps R [] .returning _
 exact ⟨_,resultsR_cell2 (p:=2) (q:=3) rfl _ _ _ h2 h3 (isAggStore _) (isAggError _) (((hS.set 0 (.pointer none)).other (fun e=>hne e.symm) _).cell 0 _ rfl) (((hE.other hne (.pointer none)).set 0 _).cell 0 _ rfl),hR⟩
section
variable {n0:Nat} {ad:Nat->Addr} {w:World} {b:Nat} {d:DS} {S:Nat->Prop}
set_option maxHeartbeats 8000000 in
theorem open13_lay (h:Dk n0 ad w b d S) (hz:So.layE d.dur.length ≠ 0) :
  Calls Tryz.prog 38 #[.pointer (some ⟨b,0,none⟩)] w (OpnNo n0 ad w b (So.layE d.dur.length) d S):=by
 have hmf:∀ (fn:Fn) (first cap:Array Value) (w:World),(Instr.makeFunc fn first cap).run Tryz.prog w = .ok (.func fn first cap) w:=fun _ _ _ _=>rfl
 obtain ⟨W,hW,q0,bS,bE,hzW⟩:∃ W,(w.alloc (.cells #[.pointer none] 34)).alloc (.cells #[.nilIface] 27) = W/\Qt w W/\Bk W w.heap.size 34 [.pointer none]/\Bk W (w.heap.size + 1) 27 [.nilIface]/\W.heap.size = w.heap.size + 2 :=
  ⟨_,rfl,((Qt.refl w).alloc _).alloc _,(Bk.new w _ _).alloc _,by have k:=Bk.new (w.alloc (.cells #[.pointer none] 34)) 27 #[.nilIface]; rwa [World.size_alloc] at k,by simp⟩
 have LY:=layoutOf13_any ad W (h.qt q0).errs (h.qt q0).disk
 rw [if_neg hz,errV_pos ad (Nat.pos_of_ne_zero hz)] at LY
 unfold layZ at LY
 have HD:=Lib.hid h
 have Q0:=Lib.hid q0
 have BS:=Lib.hid bS
 have BE:=Lib.hid bE
 obtain ⟨GS,hGS⟩:∃ x,w.heap.size = x:=⟨_,rfl⟩
 obtain ⟨GE,hGE⟩:∃ x,GS + 1 = x:=⟨_,rfl⟩
 rw [hGS] at BS BE
 rw [hGE] at BE
 have HG:=Lib.hid (show w.heap.size<=GS/\w.heap.size<=GE/\¬ GS = GE from ⟨by omega,by omega,by omega⟩)
 obtain ⟨er,her⟩:∃ x,So.layE d.dur.length = x:=⟨_,rfl⟩
 rw [her] at LY hz ⊢
 have EV:=Lib.hid (errV_pos ad (Nat.pos_of_ne_zero hz))
 clear h q0 bS bE hzW her hz
 go_enter_defers Tryz.func38,Tryz.ntmps38
 go_wp2_with fail
 refine LY.mono ?_
 rintro e w1 ⟨rfl,q1⟩
 have E1:=(BE.out.qt q1).alloc (.cells #[.pointer none,.int .i64 0,.int .i64 0,.int .i64 0,.int .i64 0,.int .i64 0] 135)
 have S1:=(BS.out.qt q1).alloc (.cells #[.pointer none,.int .i64 0,.int .i64 0,.int .i64 0,.int .i64 0,.int .i64 0] 135)
 have e0:=E1.cell 0 _ rfl
 have e1:=E1.frozen 0
 have QZ:=Lib.hid (Qt.trans Q0.out (q1.alloc (.cells #[.pointer none,.int .i64 0,.int .i64 0,.int .i64 0,.int .i64 0,.int .i64 0] 135)))
 obtain ⟨W2,hW2,Q2,S2,E2⟩:∃ W2,(w1.alloc (.cells #[.pointer none,.int .i64 0,.int .i64 0,.int .i64 0,.int .i64 0,.int .i64 0] 135)).setCell ⟨GE,0,none⟩ (.iface 335 (.pointer (some (ad er)))) = W2/\Qt w W2/\Bk W2 GS 34 [.pointer none]/\Bk W2 GE 27 [.iface 335 (.pointer (some (ad er)))]:=⟨_,rfl,qt_set QZ.out HG.out.2.1 0 _,S1.other (fun e=>HG.out.2.2 e.symm) _,E1.set 0 _⟩
 have HS2:=Lib.hid S2
 have HE2:=Lib.hid E2
 have HQ2:=Lib.hid Q2
 have t0:=S2.cell 0 _ rfl
 have t1:=S2.frozen 0
 have t2:=E2.cell 0 _ rfl
 have t3:=E2.frozen 0
 clear q1 LY E1 S1 Q2 S2 E2
 have KE:=Lib.hid (show W2.drew.cell? ⟨GE,0,none⟩ = some (.iface 335 (.pointer (some (ad er)))) from t2)
 have KE1:=Lib.hid (fun u=>(show (W2.drew.setCell ⟨GS,0,none⟩ u).cell? ⟨GE,0,none⟩ = some (.iface 335 (.pointer (some (ad er)))) from ((HE2.out.drew).other HG.out.2.2 u).cell 0 _ rfl))
 have KE2:=Lib.hid (fun u=>(show ((W2.drew.setCell ⟨GS,0,none⟩ u).setCell ⟨GE,0,none⟩ (.iface 335 (.pointer (some (ad er))))).cell? ⟨GE,0,none⟩ = some (.iface 335 (.pointer (some (ad er)))) from (((HE2.out.drew).other HG.out.2.2 u).set 0 _).cell 0 _ rfl))
 go_wp2_with fail
 go_region_held3 (fun W'=>W'.cell? ⟨GE,0,none⟩ = some (.iface 335 (.pointer (some (ad er)))))
  (first | exact KE.out | exact KE1.out _ | exact KE2.out _)
  (fail)
 have FIN:=Lib.hid (show OpnNo n0 ad w b er d S (.returned (.tuple #[.pointer none,.iface 335 (.pointer (some (ad er)))])) ((W2.setCell ⟨GS,0,none⟩ (.pointer none)).setCell ⟨GE,0,none⟩ (.iface 335 (.pointer (some (ad er))))).drew from ⟨S,by rw [EV.out],HD.out.quiet (Keeps.drew (qt_set (qt_set HQ2.out HG.out.1 0 _) HG.out.2.1 0 _))⟩)
 go_wp2
 exact open_leave rfl rfl (((HS2.out.set 0 (.pointer none)).other (fun e=>HG.out.2.2 e.symm) _).drew) (((HE2.out.other HG.out.2.2 (.pointer none)).set 0 _).drew) FIN.out
set_option maxHeartbeats 8000000 in
theorem open13_bad (h:Dk n0 ad w b d S) (hz:So.layE d.dur.length = 0) (hRD:∀ W,Qt w W->Calls Tryz.prog 87 #[layV b d.dur.length] W (ReadTo n0 ad W b d (.inl 15) S)) :
  Calls Tryz.prog 38 #[.pointer (some ⟨b,0,none⟩)] w (OpnNo n0 ad w b 15 d S):=by
 have hmf:∀ (fn:Fn) (first cap:Array Value) (w:World),(Instr.makeFunc fn first cap).run Tryz.prog w = .ok (.func fn first cap) w:=fun _ _ _ _=>rfl
 obtain ⟨W,hW,q0,bS,bE,hzW⟩:∃ W,(w.alloc (.cells #[.pointer none] 34)).alloc (.cells #[.nilIface] 27) = W/\Qt w W/\Bk W w.heap.size 34 [.pointer none]/\Bk W (w.heap.size + 1) 27 [.nilIface]/\W.heap.size = w.heap.size + 2 :=
  ⟨_,rfl,((Qt.refl w).alloc _).alloc _,(Bk.new w _ _).alloc _,by have k:=Bk.new (w.alloc (.cells #[.pointer none] 34)) 27 #[.nilIface]; rwa [World.size_alloc] at k,by simp⟩
 have LY:=layoutOf13_any ad W (h.qt q0).errs (h.qt q0).disk
 rw [if_pos hz] at LY
 have HD:=Lib.hid h
 have Q0:=Lib.hid q0
 have BS:=Lib.hid bS
 have BE:=Lib.hid bE
 obtain ⟨GS,hGS⟩:∃ x,w.heap.size = x:=⟨_,rfl⟩
 obtain ⟨GE,hGE⟩:∃ x,GS + 1 = x:=⟨_,rfl⟩
 rw [hGS] at BS BE
 rw [hGE] at BE
 have HG:=Lib.hid (show w.heap.size<=GS/\w.heap.size<=GE/\¬ GS = GE/\GS < W.heap.size/\GE < W.heap.size from ⟨by omega,by omega,by omega,by omega,by omega⟩)
 have RD:=Lib.hid hRD
 obtain ⟨n,hn⟩:∃ n,d.dur.length = n:=⟨_,rfl⟩
 rw [hn] at LY RD
 unfold layV at LY RD
 have HN:=Lib.hid hn
 obtain ⟨ea,hea⟩:∃ x,So.each n = x:=⟨_,rfl⟩
 obtain ⟨lg,hlg⟩:∃ x,So.logAt n = x:=⟨_,rfl⟩
 obtain ⟨mn,hmn⟩:∃ x,So.many n = x:=⟨_,rfl⟩
 rw [hea,hlg,hmn] at LY RD
 have HL3:=Lib.hid (show So.each n = ea/\So.logAt n = lg/\So.many n = mn from ⟨hea,hlg,hmn⟩)
 have GCN:=Lib.hid (show ¬ GS = 8 from fun e=>by have:=errs_gc h; have:=h.base; omega)
 have NSB:=Lib.hid (show ¬ S GS/\¬ S GE from ⟨fun e=>by have:=h.lt _ e; omega,fun e=>by have:=h.lt _ e; omega⟩)
 clear h q0 bS bE hzW hz hRD hn hea hlg hmn
 go_enter_defers Tryz.func38,Tryz.ntmps38
 go_wp2_with fail
 refine LY.mono ?_
 rintro e w1 ⟨rfl,q1⟩
 obtain ⟨WL,hWL,qL,bL,hzL⟩:=box_own w1 135 #[.pointer (some ⟨b,0,none⟩),.int .i64 2,.int .i64 (2 + (ea:Int)),.int .i64 (ea:Int),.int .i64 (lg:Int),.int .i64 (mn:Int)]
 obtain ⟨GL,hGL⟩:∃ x,w1.heap.size = x:=⟨_,rfl⟩
 rw [hGL] at bL
 have HGL:=Lib.hid (show W.heap.size<=GL/\GL < WL.heap.size/\¬ GL = GE/\¬ GL = GS from ⟨by have:=q1.size; omega,by omega,fun e=>by have:=q1.size; have:=HG.out.2.2.2.2; omega,fun e=>by have:=q1.size; have:=HG.out.2.2.2.1; omega⟩)
 have E1:=(BE.out.qt q1).qt qL
 have S1:=(BS.out.qt q1).qt qL
 have e0:=E1.cell 0 _ rfl
 have e1:=E1.frozen 0
 have QL:=Lib.hid (Qt.trans Q0.out (Qt.trans q1 qL))
 obtain ⟨W2,hW2,Q2,S2,E2,L2,z2⟩:∃ W2,WL.setCell ⟨GE,0,none⟩ .nilIface = W2/\Qt w W2/\Bk W2 GS 34 [.pointer none]/\Bk W2 GE 27 [.nilIface]/\Bk W2 GL 135 [.pointer (some ⟨b,0,none⟩),.int .i64 2,.int .i64 (2 + (ea:Int)),.int .i64 (ea:Int),.int .i64 (lg:Int),.int .i64 (mn:Int)]/\W2.heap.size = WL.heap.size:=⟨_,rfl,qt_set QL.out HG.out.2.1 0 _,S1.other (fun e=>HG.out.2.2.1 e.symm) _,E1.set 0 _,bL.other (fun e=>HGL.out.2.2.1 e.symm) _,by simp⟩
 have HS2:=Lib.hid S2
 have HE2:=Lib.hid E2
 have HL2:=Lib.hid L2
 have HQ2:=Lib.hid Q2
 have HZ2:=Lib.hid (show GL < W2.heap.size/\GS < W2.heap.size/\GE < W2.heap.size from ⟨by have:=HGL.out; omega,by have:=HG.out; have:=HGL.out; omega,by have:=HG.out; have:=HGL.out; omega⟩)
 have t2:=E2.cell 0 _ rfl
 have t3:=E2.frozen 0
 have L0:=L2.cell 0 _ rfl
 have L1:=L2.cell 1 _ rfl
 have L3:=L2.cell 2 _ rfl
 have L4:=L2.cell 3 _ rfl
 have L5:=L2.cell 4 _ rfl
 have L6:=L2.cell 5 _ rfl
 have R2:=RD.out W2 Q2
 clear q1 LY E1 S1 Q2 S2 E2 L2 qL bL hzL z2 RD
 have R3:=R2.mono (fun e w' x=>(show e = .panicked [{ v:=.iface 163 (.agg #[]),recovered:=false }]/\∃ S',DkTo n0 ad W2 b d S w' S' from by obtain ⟨S',hd,he⟩:=x; simp only [if_true] at he; exact ⟨he,S',hd⟩))
 clear R2
 go_wp2_with fail
 refine R3.mono ?_
 rintro e w3 ⟨rfl,S',hd⟩
 have S3:=Lib.hid (HS2.out.kept hd.keeps NSB.out.1)
 have E3:=Lib.hid (HE2.out.kept hd.keeps NSB.out.2)
 have TD:=(HD.out.quiet HQ2.out).trans hd
 have hn0:=HD.out.base
 have NS':¬ S' GS/\¬ S' GE:=⟨fun e=>by
  rcases hd.all _ e with x | x
  ·exact NSB.out.1 x
  ·have:=HZ2.out; omega,fun e=>by
  rcases hd.all _ e with x | x
  ·exact NSB.out.2 x
  ·have:=HZ2.out; omega⟩
 have FIN:=Lib.hid (show OpnNo n0 ad w b 15 d S (.returned (.tuple #[.pointer none,.iface 335 (.pointer (some (ad 15)))])) ((w3.setCell ⟨GS,0,none⟩ (.pointer none)).setCell ⟨GE,0,none⟩ (.iface 335 (.pointer (some (ad 15))))) from ⟨S',rfl,(TD.box (by have:=HG.out; omega) HG.out.1 NS'.1 0 _).box (by have:=HG.out; omega) HG.out.2.1 NS'.2 0 _⟩)
 have ER:=Lib.hid TD.dk.errs
 clear hd TD NS' hn0 R3
 go_wp2
 exact open_caught ad ER.out rfl rfl S3.out E3.out HG.out.2.2.1 GCN.out FIN.out
set_option maxHeartbeats 8000000 in
theorem open13_no {er:Nat} (h:Dk n0 ad w b d S) (hz:So.layE d.dur.length = 0) (he0:er ≠ 0) (he15:er ≠ 15) (hRD:∀ W,Qt w W->Calls Tryz.prog 87 #[layV b d.dur.length] W (ReadTo n0 ad W b d (.inl er) S)) :
  Calls Tryz.prog 38 #[.pointer (some ⟨b,0,none⟩)] w (OpnNo n0 ad w b er d S):=by
 have EV:=Lib.hid (errV_pos ad (Nat.pos_of_ne_zero he0))
 have hmf:∀ (fn:Fn) (first cap:Array Value) (w:World),(Instr.makeFunc fn first cap).run Tryz.prog w = .ok (.func fn first cap) w:=fun _ _ _ _=>rfl
 obtain ⟨W,hW,q0,bS,bE,hzW⟩:∃ W,(w.alloc (.cells #[.pointer none] 34)).alloc (.cells #[.nilIface] 27) = W/\Qt w W/\Bk W w.heap.size 34 [.pointer none]/\Bk W (w.heap.size + 1) 27 [.nilIface]/\W.heap.size = w.heap.size + 2 :=
  ⟨_,rfl,((Qt.refl w).alloc _).alloc _,(Bk.new w _ _).alloc _,by have k:=Bk.new (w.alloc (.cells #[.pointer none] 34)) 27 #[.nilIface]; rwa [World.size_alloc] at k,by simp⟩
 have LY:=layoutOf13_any ad W (h.qt q0).errs (h.qt q0).disk
 rw [if_pos hz] at LY
 have HD:=Lib.hid h
 have Q0:=Lib.hid q0
 have BS:=Lib.hid bS
 have BE:=Lib.hid bE
 obtain ⟨GS,hGS⟩:∃ x,w.heap.size = x:=⟨_,rfl⟩
 obtain ⟨GE,hGE⟩:∃ x,GS + 1 = x:=⟨_,rfl⟩
 rw [hGS] at BS BE
 rw [hGE] at BE
 have HG:=Lib.hid (show w.heap.size<=GS/\w.heap.size<=GE/\¬ GS = GE/\GS < W.heap.size/\GE < W.heap.size from ⟨by omega,by omega,by omega,by omega,by omega⟩)
 have RD:=Lib.hid hRD
 obtain ⟨n,hn⟩:∃ n,d.dur.length = n:=⟨_,rfl⟩
 rw [hn] at LY RD
 unfold layV at LY RD
 have HN:=Lib.hid hn
 obtain ⟨ea,hea⟩:∃ x,So.each n = x:=⟨_,rfl⟩
 obtain ⟨lg,hlg⟩:∃ x,So.logAt n = x:=⟨_,rfl⟩
 obtain ⟨mn,hmn⟩:∃ x,So.many n = x:=⟨_,rfl⟩
 rw [hea,hlg,hmn] at LY RD
 have HL3:=Lib.hid (show So.each n = ea/\So.logAt n = lg/\So.many n = mn from ⟨hea,hlg,hmn⟩)
 have GCN:=Lib.hid (show ¬ GS = 8 from fun e=>by have:=errs_gc h; have:=h.base; omega)
 have NSB:=Lib.hid (show ¬ S GS/\¬ S GE from ⟨fun e=>by have:=h.lt _ e; omega,fun e=>by have:=h.lt _ e; omega⟩)
 clear h q0 bS bE hzW hz hRD hn hea hlg hmn
 go_enter_defers Tryz.func38,Tryz.ntmps38
 go_wp2_with fail
 refine LY.mono ?_
 rintro e w1 ⟨rfl,q1⟩
 obtain ⟨WL,hWL,qL,bL,hzL⟩:=box_own w1 135 #[.pointer (some ⟨b,0,none⟩),.int .i64 2,.int .i64 (2 + (ea:Int)),.int .i64 (ea:Int),.int .i64 (lg:Int),.int .i64 (mn:Int)]
 obtain ⟨GL,hGL⟩:∃ x,w1.heap.size = x:=⟨_,rfl⟩
 rw [hGL] at bL
 have HGL:=Lib.hid (show W.heap.size<=GL/\GL < WL.heap.size/\¬ GL = GE/\¬ GL = GS from ⟨by have:=q1.size; omega,by omega,fun e=>by have:=q1.size; have:=HG.out.2.2.2.2; omega,fun e=>by have:=q1.size; have:=HG.out.2.2.2.1; omega⟩)
 have E1:=(BE.out.qt q1).qt qL
 have S1:=(BS.out.qt q1).qt qL
 have e0:=E1.cell 0 _ rfl
 have e1:=E1.frozen 0
 have QL:=Lib.hid (Qt.trans Q0.out (Qt.trans q1 qL))
 obtain ⟨W2,hW2,Q2,S2,E2,L2,z2⟩:∃ W2,WL.setCell ⟨GE,0,none⟩ .nilIface = W2/\Qt w W2/\Bk W2 GS 34 [.pointer none]/\Bk W2 GE 27 [.nilIface]/\Bk W2 GL 135 [.pointer (some ⟨b,0,none⟩),.int .i64 2,.int .i64 (2 + (ea:Int)),.int .i64 (ea:Int),.int .i64 (lg:Int),.int .i64 (mn:Int)]/\W2.heap.size = WL.heap.size:=⟨_,rfl,qt_set QL.out HG.out.2.1 0 _,S1.other (fun e=>HG.out.2.2.1 e.symm) _,E1.set 0 _,bL.other (fun e=>HGL.out.2.2.1 e.symm) _,by simp⟩
 have HS2:=Lib.hid S2
 have HE2:=Lib.hid E2
 have HL2:=Lib.hid L2
 have HQ2:=Lib.hid Q2
 have HZ2:=Lib.hid (show GL < W2.heap.size/\GS < W2.heap.size/\GE < W2.heap.size from ⟨by have:=HGL.out; omega,by have:=HG.out; have:=HGL.out; omega,by have:=HG.out; have:=HGL.out; omega⟩)
 have t2:=E2.cell 0 _ rfl
 have t3:=E2.frozen 0
 have L0:=L2.cell 0 _ rfl
 have L1:=L2.cell 1 _ rfl
 have L3:=L2.cell 2 _ rfl
 have L4:=L2.cell 3 _ rfl
 have L5:=L2.cell 4 _ rfl
 have L6:=L2.cell 5 _ rfl
 have R2:=RD.out W2 Q2
 clear q1 LY E1 S1 Q2 S2 E2 L2 qL bL hzL z2 RD
 have R3:=R2.mono (fun e w' x=>(show e = .returned (.tuple #[.int .i64 0,.agg #[.pointer none,.int .i64 0],.iface 335 (.pointer (some (ad er)))])/\∃ S',DkTo n0 ad W2 b d S w' S' from by obtain ⟨S',hd,he⟩:=x; simp only [he15,if_false,EV.out] at he; exact ⟨he,S',hd⟩))
 clear R2 he0 he15
 go_wp2_with fail
 refine R3.mono ?_
 rintro e w3 ⟨rfl,S',hd⟩
 have E3a:=(HE2.out.kept hd.keeps NSB.out.2).alloc (.cells #[.pointer none,.int .i64 0] 132)
 have S3a:=(HS2.out.kept hd.keeps NSB.out.1).alloc (.cells #[.pointer none,.int .i64 0] 132)
 have v0:=E3a.cell 0 _ rfl
 have v1:=E3a.frozen 0
 have NS':=Lib.hid (show ¬ S' GS/\¬ S' GE from ⟨fun e=>by
  rcases hd.all _ e with x | x
  ·exact NSB.out.1 x
  ·have:=HZ2.out; omega,fun e=>by
  rcases hd.all _ e with x | x
  ·exact NSB.out.2 x
  ·have:=HZ2.out; omega⟩)
 have TD:=(HD.out.quiet HQ2.out).trans hd
 obtain ⟨W4,hW4,TD4',S4',E4'⟩:∃ W4,(w3.alloc (.cells #[.pointer none,.int .i64 0] 132)).setCell ⟨GE,0,none⟩ (.iface 335 (.pointer (some (ad er)))) = W4/\DkTo n0 ad w b d S W4 S'/\Bk W4 GS 34 [.pointer none]/\Bk W4 GE 27 [.iface 335 (.pointer (some (ad er)))]:=⟨_,rfl,(TD.qt ((Qt.refl w3).alloc _)).box (by have:=HD.out.base; have:=HG.out; omega) HG.out.2.1 NS'.out.2 0 _,S3a.other (fun e=>HG.out.2.2.1 e.symm) _,E3a.set 0 _⟩
 have TD4:=Lib.hid TD4'
 have S4:=Lib.hid S4'
 have E4:=Lib.hid E4'
 have u0:=S4'.cell 0 _ rfl
 have u1:=S4'.frozen 0
 have u2:=E4'.cell 0 _ rfl
 have u3:=E4'.frozen 0
 clear hd TD R3 E3a S3a TD4' S4' E4'
 have KE:=Lib.hid (show W4.drew.cell? ⟨GE,0,none⟩ = some (.iface 335 (.pointer (some (ad er)))) from u2)
 have KE1:=Lib.hid (fun u=>(show (W4.drew.setCell ⟨GS,0,none⟩ u).cell? ⟨GE,0,none⟩ = some (.iface 335 (.pointer (some (ad er)))) from ((E4.out.drew).other HG.out.2.2.1 u).cell 0 _ rfl))
 have KE2:=Lib.hid (fun u=>(show ((W4.drew.setCell ⟨GS,0,none⟩ u).setCell ⟨GE,0,none⟩ (.iface 335 (.pointer (some (ad er))))).cell? ⟨GE,0,none⟩ = some (.iface 335 (.pointer (some (ad er)))) from (((E4.out.drew).other HG.out.2.2.1 u).set 0 _).cell 0 _ rfl))
 go_wp2_with fail
 go_region_held3 (fun W'=>W'.cell? ⟨GE,0,none⟩ = some (.iface 335 (.pointer (some (ad er)))))
  (first | exact KE.out | exact KE1.out _ | exact KE2.out _)
  (fail)
 have FIN:=Lib.hid (show OpnNo n0 ad w b er d S (.returned (.tuple #[.pointer none,.iface 335 (.pointer (some (ad er)))])) ((W4.setCell ⟨GS,0,none⟩ (.pointer none)).setCell ⟨GE,0,none⟩ (.iface 335 (.pointer (some (ad er))))).drew from ⟨S',by rw [EV.out],((TD4.out.box (by have:=HD.out.base; have:=HG.out; omega) HG.out.1 NS'.out.1 0 _).box (by have:=HD.out.base; have:=HG.out; omega) HG.out.2.1 NS'.out.2 0 _).qt (Keeps.drew (Qt.refl _))⟩)
 go_wp2
 exact open_leave rfl rfl (((S4.out.set 0 (.pointer none)).other (fun e=>HG.out.2.2.1 e.symm) _).drew) (((E4.out.other HG.out.2.2.1 (.pointer none)).set 0 _).drew) FIN.out
set_option maxHeartbeats 8000000 in
theorem open13_next {m:List Tb.R} {v:Nat} (h:Dk n0 ad w b d S) (hz:So.layE d.dur.length = 0) (hf:d.FewS) (hsz:So.size m<=So.room d.dur.length) (hv:v<=1099511627776) (hRD:∀ W,Qt w W->Calls Tryz.prog 87 #[layV b d.dur.length] W (ReadTo n0 ad W b d (.inr (m,v)) S)) (hne:(So.nextR d m v).1 ≠ 0) :
  Calls Tryz.prog 38 #[.pointer (some ⟨b,0,none⟩)] w (OpnNo n0 ad w b (So.nextR d m v).1 (So.nextR d m v).2 S):=by
 obtain ⟨er,her⟩:∃ x,(So.nextR d m v).1 = x:=⟨_,rfl⟩
 obtain ⟨d2,hd2⟩:∃ x,(So.nextR d m v).2 = x:=⟨_,rfl⟩
 have EV:=Lib.hid (show errV ad er = .iface 335 (.pointer (some (ad er))) from by rw [<- her]; exact errV_pos ad (Nat.pos_of_ne_zero hne))
 have HNE:=Lib.hid hne
 have HER:=Lib.hid her
 have HD2:=Lib.hid hd2
 rw [her,hd2]
 clear her hd2 hne
 have hmf:∀ (fn:Fn) (first cap:Array Value) (w:World),(Instr.makeFunc fn first cap).run Tryz.prog w = .ok (.func fn first cap) w:=fun _ _ _ _=>rfl
 obtain ⟨W,hW,q0,bS,bE,hzW⟩:∃ W,(w.alloc (.cells #[.pointer none] 34)).alloc (.cells #[.nilIface] 27) = W/\Qt w W/\Bk W w.heap.size 34 [.pointer none]/\Bk W (w.heap.size + 1) 27 [.nilIface]/\W.heap.size = w.heap.size + 2 :=
  ⟨_,rfl,((Qt.refl w).alloc _).alloc _,(Bk.new w _ _).alloc _,by have k:=Bk.new (w.alloc (.cells #[.pointer none] 34)) 27 #[.nilIface]; rwa [World.size_alloc] at k,by simp⟩
 have LY:=layoutOf13_any ad W (h.qt q0).errs (h.qt q0).disk
 rw [if_pos hz] at LY
 have HD:=Lib.hid h
 have Q0:=Lib.hid q0
 have BS:=Lib.hid bS
 have BE:=Lib.hid bE
 obtain ⟨GS,hGS⟩:∃ x,w.heap.size = x:=⟨_,rfl⟩
 obtain ⟨GE,hGE⟩:∃ x,GS + 1 = x:=⟨_,rfl⟩
 rw [hGS] at BS BE
 rw [hGE] at BE
 have HG:=Lib.hid (show w.heap.size<=GS/\w.heap.size<=GE/\¬ GS = GE/\GS < W.heap.size/\GE < W.heap.size from ⟨by omega,by omega,by omega,by omega,by omega⟩)
 have RD:=Lib.hid hRD
 have h64:64<=d.dur.length:=by unfold So.layE at hz; split at hz <;> omega
 obtain ⟨n,hn⟩:∃ n,d.dur.length = n:=⟨_,rfl⟩
 rw [hn] at LY RD
 unfold layV at LY RD
 have HN:=Lib.hid hn
 have H64:=Lib.hid (show 64<=n by omega)
 obtain ⟨ea,hea⟩:∃ x,So.each n = x:=⟨_,rfl⟩
 obtain ⟨lg,hlg⟩:∃ x,So.logAt n = x:=⟨_,rfl⟩
 obtain ⟨mn,hmn⟩:∃ x,So.many n = x:=⟨_,rfl⟩
 rw [hea,hlg,hmn] at LY RD
 have HL3:=Lib.hid (show So.each n = ea/\So.logAt n = lg/\So.many n = mn from ⟨hea,hlg,hmn⟩)
 have GCN:=Lib.hid (show ¬ GS = 8 from fun e=>by have:=errs_gc h; have:=h.base; omega)
 have NSB:=Lib.hid (show ¬ S GS/\¬ S GE from ⟨fun e=>by have:=h.lt _ e; omega,fun e=>by have:=h.lt _ e; omega⟩)
 clear h q0 bS bE hzW hz hRD hn hea hlg hmn h64
 go_enter_defers Tryz.func38,Tryz.ntmps38
 go_wp2_with fail
 refine LY.mono ?_
 rintro e w1 ⟨rfl,q1⟩
 obtain ⟨WL,hWL,qL,bL,hzL⟩:=box_own w1 135 #[.pointer (some ⟨b,0,none⟩),.int .i64 2,.int .i64 (2 + (ea:Int)),.int .i64 (ea:Int),.int .i64 (lg:Int),.int .i64 (mn:Int)]
 obtain ⟨GL,hGL⟩:∃ x,w1.heap.size = x:=⟨_,rfl⟩
 rw [hGL] at bL
 have HGL:=Lib.hid (show W.heap.size<=GL/\GL < WL.heap.size/\¬ GL = GE/\¬ GL = GS from ⟨by have:=q1.size; omega,by omega,fun e=>by have:=q1.size; have:=HG.out.2.2.2.2; omega,fun e=>by have:=q1.size; have:=HG.out.2.2.2.1; omega⟩)
 have E1:=(BE.out.qt q1).qt qL
 have S1:=(BS.out.qt q1).qt qL
 have e0:=E1.cell 0 _ rfl
 have e1:=E1.frozen 0
 have QL:=Lib.hid (Qt.trans Q0.out (Qt.trans q1 qL))
 obtain ⟨W2,hW2,Q2,S2,E2,L2,z2⟩:∃ W2,WL.setCell ⟨GE,0,none⟩ .nilIface = W2/\Qt w W2/\Bk W2 GS 34 [.pointer none]/\Bk W2 GE 27 [.nilIface]/\Bk W2 GL 135 [.pointer (some ⟨b,0,none⟩),.int .i64 2,.int .i64 (2 + (ea:Int)),.int .i64 (ea:Int),.int .i64 (lg:Int),.int .i64 (mn:Int)]/\W2.heap.size = WL.heap.size:=⟨_,rfl,qt_set QL.out HG.out.2.1 0 _,S1.other (fun e=>HG.out.2.2.1 e.symm) _,E1.set 0 _,bL.other (fun e=>HGL.out.2.2.1 e.symm) _,by simp⟩
 have HS2:=Lib.hid S2
 have HE2:=Lib.hid E2
 have HL2:=Lib.hid L2
 have HQ2:=Lib.hid Q2
 have HZ2:=Lib.hid (show GL < W2.heap.size/\GS < W2.heap.size/\GE < W2.heap.size from ⟨by have:=HGL.out; omega,by have:=HG.out; have:=HGL.out; omega,by have:=HG.out; have:=HGL.out; omega⟩)
 have t2:=E2.cell 0 _ rfl
 have t3:=E2.frozen 0
 have L0:=L2.cell 0 _ rfl
 have L1:=L2.cell 1 _ rfl
 have L3:=L2.cell 2 _ rfl
 have L4:=L2.cell 3 _ rfl
 have L5:=L2.cell 4 _ rfl
 have L6:=L2.cell 5 _ rfl
 have R2:=RD.out W2 Q2
 clear q1 LY E1 S1 Q2 S2 E2 L2 qL bL hzL z2 RD
 have R3:=R2.mono (fun e w' x=>(show ∃ S' t A,e = .returned (.tuple #[.int .i64 (v:Int),.agg #[ptrV t,.int .i64 (((So.rowsB m).length:Nat):Int)],.nilIface])/\DkTo n0 ad W2 b d S w' S'/\Tbl w' t m A/\(∀ k,A k->W2.heap.size<=k/\¬ S' k)/\W2.heap.size<=t from by obtain ⟨S',hd,t,A,h1,h2,h3,h4⟩:=x; exact ⟨S',t,A,h1,hd,h2,h3,h4⟩))
 clear R2
 obtain ⟨k0,hk0⟩:∃ k,(So.rowsB m).length = k:=⟨_,rfl⟩
 rw [hk0] at R3
 have HK0:=Lib.hid hk0
 clear hk0
 go_wp2_with fail
 refine R3.mono ?_
 rintro e w3 ⟨S',t,A,rfl,hd,hT,hA,ht⟩
 obtain ⟨WC,hWC,qC,bC,hzC⟩:=box_own w3 132 #[ptrV t,.int .i64 (k0:Int)]
 obtain ⟨GC,hGC⟩:∃ x,w3.heap.size = x:=⟨_,rfl⟩
 rw [hGC] at bC
 have SZ3:=Lib.hid (show W2.heap.size<=w3.heap.size from hd.keeps.size)
 have E3a:=(HE2.out.kept hd.keeps NSB.out.2).qt qC
 have S3a:=(HS2.out.kept hd.keeps NSB.out.1).qt qC
 have HGC:=Lib.hid (show ¬ GC = GE/\¬ GC = GS/\¬ GC = GL/\W2.heap.size<=GC/\GC < WC.heap.size from ⟨fun e=>by have:=HZ2.out; have:=SZ3.out; omega,fun e=>by have:=HZ2.out; have:=SZ3.out; omega,fun e=>by have:=HZ2.out; have:=SZ3.out; omega,by have:=SZ3.out; omega,by omega⟩)
 have NSL:=Lib.hid (show ¬ S GL from fun e=>by have:=HD.out.lt GL e; have:=HGL.out; have:=Q0.out.size; omega)
 have L3a:=(HL2.out.kept hd.keeps NSL.out).qt qC
 have v0:=E3a.cell 0 _ rfl
 have v1:=E3a.frozen 0
 have NS':=Lib.hid (show ¬ S' GS/\¬ S' GE/\¬ S' GL/\¬ S' GC from ⟨fun e=>by
  rcases hd.all _ e with x | x
  ·exact NSB.out.1 x
  ·have:=HZ2.out; omega,fun e=>by
  rcases hd.all _ e with x | x
  ·exact NSB.out.2 x
  ·have:=HZ2.out; omega,fun e=>by
  rcases hd.all _ e with x | x
  ·exact NSL.out x
  ·have:=HZ2.out; omega,fun e=>by have:=hd.dk.lt _ e; omega⟩)
 have TD:=((HD.out.quiet HQ2.out).trans hd).qt qC
 have TN:=Lib.hid (show ∀ k,A k->W2.heap.size<=k/\¬ S' k/\k < GC from fun k hk=>⟨(hA k hk).1,(hA k hk).2,by have:=hT.lt k hk; omega⟩)
 obtain ⟨W4,hW4,TD4',S4',E4',L4',C4',T4',z4'⟩:∃ W4,WC.setCell ⟨GE,0,none⟩ .nilIface = W4/\DkTo n0 ad w b d S W4 S'/\Bk W4 GS 34 [.pointer none]/\Bk W4 GE 27 [.nilIface]/\Bk W4 GL 135 [.pointer (some ⟨b,0,none⟩),.int .i64 2,.int .i64 (2 + (ea:Int)),.int .i64 (ea:Int),.int .i64 (lg:Int),.int .i64 (mn:Int)]/\Bk W4 GC 132 [ptrV t,.int .i64 (k0:Int)]/\Tbl W4 t m A/\W4.heap.size = WC.heap.size :=
  ⟨_,rfl,TD.box (by have:=HD.out.base; have:=HG.out; omega) HG.out.2.1 NS'.out.2.1 0 _,S3a.other (fun e=>HG.out.2.2.1 e.symm) _,E3a.set 0 _,L3a.other (fun e=>HGL.out.2.2.1 e.symm) _,bC.other (fun e=>HGC.out.1 e.symm) _,(hT.qt qC).kept (keeps_set _ _ _ _) (fun k hk e=>by have e:k = GE:=e; have:=(TN.out k hk).1; have:=HZ2.out; omega),by simp⟩
 have TD4:=Lib.hid TD4'
 have S4:=Lib.hid S4'
 have E4:=Lib.hid E4'
 have L4:=Lib.hid L4'
 have C4:=Lib.hid C4'
 have T4:=Lib.hid T4'
 have Z4:=Lib.hid (show W4.heap.size = WC.heap.size/\GE < W4.heap.size/\GS < W4.heap.size/\GL < W4.heap.size/\GC < W4.heap.size from ⟨z4',E4'.lt,S4'.lt,L4'.lt,C4'.lt⟩)
 have u2:=E4'.cell 0 _ rfl
 have u3:=E4'.frozen 0
 have M0:=L4'.cell 0 _ rfl
 have M1:=L4'.cell 1 _ rfl
 have M2:=L4'.cell 2 _ rfl
 have M3:=L4'.cell 3 _ rfl
 have M4:=L4'.cell 4 _ rfl
 have M5:=L4'.cell 5 _ rfl
 have D0:=C4'.cell 0 _ rfl
 have D1:=C4'.cell 1 _ rfl
 have BH:=behind13_any (v:=v) TD4'.dk hf (by rw [HN.out]; exact H64.out) T4' hsz hv
 rw [HN.out,HK0.out] at BH
 unfold contV layV at BH
 rw [HL3.out.1,HL3.out.2.1,HL3.out.2.2] at BH
 clear hd TD R3 E3a S3a L3a TD4' S4' E4' L4' C4' T4' z4' qC bC hzC hT hA ht hf hsz hv
 have BH2:=BH.mono (fun e w' x=>x.no HNE.out)
 rw [HER.out,HD2.out] at BH2
 clear BH
 go_wp2_with fail
 refine BH2.mono ?_
 rintro e w5 ⟨S5,rfl,hd⟩
 have E5a:=(E4.out.kept hd.keeps NS'.out.2.1).alloc (.cells #[.int .i64 0,.pointer none] 138)
 have S5a:=(S4.out.kept hd.keeps NS'.out.1).alloc (.cells #[.int .i64 0,.pointer none] 138)
 have v0':=E5a.cell 0 _ rfl
 have v1':=E5a.frozen 0
 have NS5:=Lib.hid (show ¬ S5 GS/\¬ S5 GE from ⟨fun e=>by
  rcases hd.all _ e with x | x
  ·exact NS'.out.1 x
  ·have:=Z4.out; omega,fun e=>by
  rcases hd.all _ e with x | x
  ·exact NS'.out.2.1 x
  ·have:=Z4.out; omega⟩)
 have TD:=TD4.out.trans hd
 clear u2 u3 v0 v1 t2 t3
 obtain ⟨W6,hW6,TD6',S6',E6'⟩:∃ W6,(w5.alloc (.cells #[.int .i64 0,.pointer none] 138)).setCell ⟨GE,0,none⟩ (.iface 335 (.pointer (some (ad er)))) = W6/\DkTo n0 ad w b d2 S W6 S5/\Bk W6 GS 34 [.pointer none]/\Bk W6 GE 27 [.iface 335 (.pointer (some (ad er)))]:=⟨_,rfl,(TD.qt ((Qt.refl w5).alloc _)).box (by have:=HD.out.base; have:=HG.out; omega) HG.out.2.1 NS5.out.2 0 _,S5a.other (fun e=>HG.out.2.2.1 e.symm) _,E5a.set 0 _⟩
 have TD6:=Lib.hid TD6'
 have S6:=Lib.hid S6'
 have E6:=Lib.hid E6'
 have u0:=S6'.cell 0 _ rfl
 have u1:=S6'.frozen 0
 have u2:=E6'.cell 0 _ rfl
 have u3:=E6'.frozen 0
 clear hd TD BH2 E5a S5a TD6' S6' E6'
 have KE:=Lib.hid (show W6.drew.cell? ⟨GE,0,none⟩ = some (.iface 335 (.pointer (some (ad er)))) from u2)
 have KE1:=Lib.hid (fun u=>(show (W6.drew.setCell ⟨GS,0,none⟩ u).cell? ⟨GE,0,none⟩ = some (.iface 335 (.pointer (some (ad er)))) from ((E6.out.drew).other HG.out.2.2.1 u).cell 0 _ rfl))
 have KE2:=Lib.hid (fun u=>(show ((W6.drew.setCell ⟨GS,0,none⟩ u).setCell ⟨GE,0,none⟩ (.iface 335 (.pointer (some (ad er))))).cell? ⟨GE,0,none⟩ = some (.iface 335 (.pointer (some (ad er)))) from (((E6.out.drew).other HG.out.2.2.1 u).set 0 _).cell 0 _ rfl))
 go_wp2_with fail
 go_region_held3 (fun W'=>W'.cell? ⟨GE,0,none⟩ = some (.iface 335 (.pointer (some (ad er)))))
  (first | exact KE.out | exact KE1.out _ | exact KE2.out _)
  (fail)
 have FIN:=Lib.hid (show OpnNo n0 ad w b er d2 S (.returned (.tuple #[.pointer none,.iface 335 (.pointer (some (ad er)))])) ((W6.setCell ⟨GS,0,none⟩ (.pointer none)).setCell ⟨GE,0,none⟩ (.iface 335 (.pointer (some (ad er))))).drew from ⟨S5,by rw [EV.out],((TD6.out.box (by have:=HD.out.base; have:=HG.out; omega) HG.out.1 NS5.out.1 0 _).box (by have:=HD.out.base; have:=HG.out; omega) HG.out.2.1 NS5.out.2 0 _).qt (Keeps.drew (Qt.refl _))⟩)
 go_wp2
 exact open_leave rfl rfl (((S6.out.set 0 (.pointer none)).other (fun e=>HG.out.2.2.1 e.symm) _).drew) (((E6.out.other HG.out.2.2.1 (.pointer none)).set 0 _).drew) FIN.out
set_option maxHeartbeats 8000000 in
theorem open13_ok {m:List Tb.R} {v:Nat} (h:Dk n0 ad w b d S) (hz:So.layE d.dur.length = 0) (hf:d.FewS) (hsz:So.size m<=So.room d.dur.length) (hv:v<=1099511627776) (hRD:∀ W,Qt w W->Calls Tryz.prog 87 #[layV b d.dur.length] W (ReadTo n0 ad W b d (.inr (m,v)) S)) (hz0:(So.nextR d m v).1 = 0) :
  Calls Tryz.prog 38 #[.pointer (some ⟨b,0,none⟩)] w (OpnYes n0 ad w b d.dur.length m (v + 1) (So.nextR d m v).2 S):=by
 obtain ⟨d2,hd2⟩:∃ x,(So.nextR d m v).2 = x:=⟨_,rfl⟩
 obtain ⟨vi,hvi⟩:∃ x:Int,((v + 1:Nat):Int) = x:=⟨_,rfl⟩
 have HZ0:=Lib.hid hz0
 have HVI:=Lib.hid hvi
 have HD2:=Lib.hid hd2
 rw [hd2]
 clear hd2 hz0 hvi
 have hmf:∀ (fn:Fn) (first cap:Array Value) (w:World),(Instr.makeFunc fn first cap).run Tryz.prog w = .ok (.func fn first cap) w:=fun _ _ _ _=>rfl
 obtain ⟨W,hW,q0,bS,bE,hzW⟩:∃ W,(w.alloc (.cells #[.pointer none] 34)).alloc (.cells #[.nilIface] 27) = W/\Qt w W/\Bk W w.heap.size 34 [.pointer none]/\Bk W (w.heap.size + 1) 27 [.nilIface]/\W.heap.size = w.heap.size + 2 :=
  ⟨_,rfl,((Qt.refl w).alloc _).alloc _,(Bk.new w _ _).alloc _,by have k:=Bk.new (w.alloc (.cells #[.pointer none] 34)) 27 #[.nilIface]; rwa [World.size_alloc] at k,by simp⟩
 have LY:=layoutOf13_any ad W (h.qt q0).errs (h.qt q0).disk
 rw [if_pos hz] at LY
 have HD:=Lib.hid h
 have Q0:=Lib.hid q0
 have BS:=Lib.hid bS
 have BE:=Lib.hid bE
 obtain ⟨GS,hGS⟩:∃ x,w.heap.size = x:=⟨_,rfl⟩
 obtain ⟨GE,hGE⟩:∃ x,GS + 1 = x:=⟨_,rfl⟩
 rw [hGS] at BS BE
 rw [hGE] at BE
 have HG:=Lib.hid (show w.heap.size<=GS/\w.heap.size<=GE/\¬ GS = GE/\GS < W.heap.size/\GE < W.heap.size from ⟨by omega,by omega,by omega,by omega,by omega⟩)
 have RD:=Lib.hid hRD
 have h64:64<=d.dur.length:=by unfold So.layE at hz; split at hz <;> omega
 obtain ⟨n,hn⟩:∃ n,d.dur.length = n:=⟨_,rfl⟩
 rw [hn] at LY RD ⊢
 unfold layV at LY RD
 have HN:=Lib.hid hn
 have H64:=Lib.hid (show 64<=n by omega)
 obtain ⟨ea,hea⟩:∃ x,So.each n = x:=⟨_,rfl⟩
 obtain ⟨lg,hlg⟩:∃ x,So.logAt n = x:=⟨_,rfl⟩
 obtain ⟨mn,hmn⟩:∃ x,So.many n = x:=⟨_,rfl⟩
 rw [hea,hlg,hmn] at LY RD
 have HL3:=Lib.hid (show So.each n = ea/\So.logAt n = lg/\So.many n = mn from ⟨hea,hlg,hmn⟩)
 have GCN:=Lib.hid (show ¬ GS = 8 from fun e=>by have:=errs_gc h; have:=h.base; omega)
 have NSB:=Lib.hid (show ¬ S GS/\¬ S GE from ⟨fun e=>by have:=h.lt _ e; omega,fun e=>by have:=h.lt _ e; omega⟩)
 clear h q0 bS bE hzW hz hRD hn hea hlg hmn h64
 go_enter_defers Tryz.func38,Tryz.ntmps38
 go_wp2_with fail
 refine LY.mono ?_
 rintro e w1 ⟨rfl,q1⟩
 obtain ⟨WL,hWL,qL,bL,hzL⟩:=box_own w1 135 #[.pointer (some ⟨b,0,none⟩),.int .i64 2,.int .i64 (2 + (ea:Int)),.int .i64 (ea:Int),.int .i64 (lg:Int),.int .i64 (mn:Int)]
 obtain ⟨GL,hGL⟩:∃ x,w1.heap.size = x:=⟨_,rfl⟩
 rw [hGL] at bL
 have HGL:=Lib.hid (show W.heap.size<=GL/\GL < WL.heap.size/\¬ GL = GE/\¬ GL = GS from ⟨by have:=q1.size; omega,by omega,fun e=>by have:=q1.size; have:=HG.out.2.2.2.2; omega,fun e=>by have:=q1.size; have:=HG.out.2.2.2.1; omega⟩)
 have E1:=(BE.out.qt q1).qt qL
 have S1:=(BS.out.qt q1).qt qL
 have e0:=E1.cell 0 _ rfl
 have e1:=E1.frozen 0
 have QL:=Lib.hid (Qt.trans Q0.out (Qt.trans q1 qL))
 obtain ⟨W2,hW2,Q2,S2,E2,L2,z2⟩:∃ W2,WL.setCell ⟨GE,0,none⟩ .nilIface = W2/\Qt w W2/\Bk W2 GS 34 [.pointer none]/\Bk W2 GE 27 [.nilIface]/\Bk W2 GL 135 [.pointer (some ⟨b,0,none⟩),.int .i64 2,.int .i64 (2 + (ea:Int)),.int .i64 (ea:Int),.int .i64 (lg:Int),.int .i64 (mn:Int)]/\W2.heap.size = WL.heap.size:=⟨_,rfl,qt_set QL.out HG.out.2.1 0 _,S1.other (fun e=>HG.out.2.2.1 e.symm) _,E1.set 0 _,bL.other (fun e=>HGL.out.2.2.1 e.symm) _,by simp⟩
 have HS2:=Lib.hid S2
 have HE2:=Lib.hid E2
 have HL2:=Lib.hid L2
 have HQ2:=Lib.hid Q2
 have HZ2:=Lib.hid (show GL < W2.heap.size/\GS < W2.heap.size/\GE < W2.heap.size from ⟨by have:=HGL.out; omega,by have:=HG.out; have:=HGL.out; omega,by have:=HG.out; have:=HGL.out; omega⟩)
 have t2:=E2.cell 0 _ rfl
 have t3:=E2.frozen 0
 have L0:=L2.cell 0 _ rfl
 have L1:=L2.cell 1 _ rfl
 have L3:=L2.cell 2 _ rfl
 have L4:=L2.cell 3 _ rfl
 have L5:=L2.cell 4 _ rfl
 have L6:=L2.cell 5 _ rfl
 have R2:=RD.out W2 Q2
 clear q1 LY E1 S1 Q2 S2 E2 L2 qL bL hzL z2 RD
 have R3:=R2.mono (fun e w' x=>(show ∃ S' t A,e = .returned (.tuple #[.int .i64 (v:Int),.agg #[ptrV t,.int .i64 (((So.rowsB m).length:Nat):Int)],.nilIface])/\DkTo n0 ad W2 b d S w' S'/\Tbl w' t m A/\(∀ k,A k->W2.heap.size<=k/\¬ S' k)/\W2.heap.size<=t from by obtain ⟨S',hd,t,A,h1,h2,h3,h4⟩:=x; exact ⟨S',t,A,h1,hd,h2,h3,h4⟩))
 clear R2
 obtain ⟨k0,hk0⟩:∃ k,(So.rowsB m).length = k:=⟨_,rfl⟩
 rw [hk0] at R3
 have HK0:=Lib.hid hk0
 clear hk0
 go_wp2_with fail
 refine R3.mono ?_
 rintro e w3 ⟨S',t,A,rfl,hd,hT,hA,ht⟩
 obtain ⟨WC,hWC,qC,bC,hzC⟩:=box_own w3 132 #[ptrV t,.int .i64 (k0:Int)]
 obtain ⟨GC,hGC⟩:∃ x,w3.heap.size = x:=⟨_,rfl⟩
 rw [hGC] at bC
 have SZ3:=Lib.hid (show W2.heap.size<=w3.heap.size from hd.keeps.size)
 have E3a:=(HE2.out.kept hd.keeps NSB.out.2).qt qC
 have S3a:=(HS2.out.kept hd.keeps NSB.out.1).qt qC
 have HGC:=Lib.hid (show ¬ GC = GE/\¬ GC = GS/\¬ GC = GL/\W2.heap.size<=GC/\GC < WC.heap.size from ⟨fun e=>by have:=HZ2.out; have:=SZ3.out; omega,fun e=>by have:=HZ2.out; have:=SZ3.out; omega,fun e=>by have:=HZ2.out; have:=SZ3.out; omega,by have:=SZ3.out; omega,by omega⟩)
 have NSL:=Lib.hid (show ¬ S GL from fun e=>by have:=HD.out.lt GL e; have:=HGL.out; have:=Q0.out.size; omega)
 have L3a:=(HL2.out.kept hd.keeps NSL.out).qt qC
 have v0:=E3a.cell 0 _ rfl
 have v1:=E3a.frozen 0
 have NS':=Lib.hid (show ¬ S' GS/\¬ S' GE/\¬ S' GL/\¬ S' GC from ⟨fun e=>by
  rcases hd.all _ e with x | x
  ·exact NSB.out.1 x
  ·have:=HZ2.out; omega,fun e=>by
  rcases hd.all _ e with x | x
  ·exact NSB.out.2 x
  ·have:=HZ2.out; omega,fun e=>by
  rcases hd.all _ e with x | x
  ·exact NSL.out x
  ·have:=HZ2.out; omega,fun e=>by have:=hd.dk.lt _ e; omega⟩)
 have TD:=((HD.out.quiet HQ2.out).trans hd).qt qC
 have TN:=Lib.hid (show ∀ k,A k->W2.heap.size<=k/\¬ S' k/\k < GC from fun k hk=>⟨(hA k hk).1,(hA k hk).2,by have:=hT.lt k hk; omega⟩)
 obtain ⟨W4,hW4,TD4',S4',E4',L4',C4',T4',z4'⟩:∃ W4,WC.setCell ⟨GE,0,none⟩ .nilIface = W4/\DkTo n0 ad w b d S W4 S'/\Bk W4 GS 34 [.pointer none]/\Bk W4 GE 27 [.nilIface]/\Bk W4 GL 135 [.pointer (some ⟨b,0,none⟩),.int .i64 2,.int .i64 (2 + (ea:Int)),.int .i64 (ea:Int),.int .i64 (lg:Int),.int .i64 (mn:Int)]/\Bk W4 GC 132 [ptrV t,.int .i64 (k0:Int)]/\Tbl W4 t m A/\W4.heap.size = WC.heap.size :=
  ⟨_,rfl,TD.box (by have:=HD.out.base; have:=HG.out; omega) HG.out.2.1 NS'.out.2.1 0 _,S3a.other (fun e=>HG.out.2.2.1 e.symm) _,E3a.set 0 _,L3a.other (fun e=>HGL.out.2.2.1 e.symm) _,bC.other (fun e=>HGC.out.1 e.symm) _,(hT.qt qC).kept (keeps_set _ _ _ _) (fun k hk e=>by have e:k = GE:=e; have:=(TN.out k hk).1; have:=HZ2.out; omega),by simp⟩
 have TD4:=Lib.hid TD4'
 have S4:=Lib.hid S4'
 have E4:=Lib.hid E4'
 have L4:=Lib.hid L4'
 have C4:=Lib.hid C4'
 have T4:=Lib.hid T4'
 have Z4:=Lib.hid (show W4.heap.size = WC.heap.size/\GE < W4.heap.size/\GS < W4.heap.size/\GL < W4.heap.size/\GC < W4.heap.size from ⟨z4',E4'.lt,S4'.lt,L4'.lt,C4'.lt⟩)
 have u2:=E4'.cell 0 _ rfl
 have u3:=E4'.frozen 0
 have M0:=L4'.cell 0 _ rfl
 have M1:=L4'.cell 1 _ rfl
 have M2:=L4'.cell 2 _ rfl
 have M3:=L4'.cell 3 _ rfl
 have M4:=L4'.cell 4 _ rfl
 have M5:=L4'.cell 5 _ rfl
 have D0:=C4'.cell 0 _ rfl
 have D1:=C4'.cell 1 _ rfl
 have BH:=behind13_any (v:=v) TD4'.dk hf (by rw [HN.out]; exact H64.out) T4' hsz hv
 rw [HN.out,HK0.out] at BH
 unfold contV layV at BH
 rw [HL3.out.1,HL3.out.2.1,HL3.out.2.2] at BH
 clear hd TD R3 E3a S3a L3a TD4' S4' E4' L4' C4' T4' z4' qC bC hzC hT hA ht hf hsz hv
 have BH2:=BH.mono (fun e w' x=>x.okV HZ0.out HVI.out)
 rw [HD2.out] at BH2
 clear BH
 go_wp2_with fail
 refine BH2.mono ?_
 rintro e w5 ⟨S5,q',rfl,hd,hc,hq,hqs⟩
 obtain ⟨WG,hWG,qG,bG,hzG⟩:=box_own w5 138 #[.int .i64 vi,.pointer (some ⟨q',0,none⟩)]
 obtain ⟨GG,hGG⟩:∃ x,w5.heap.size = x:=⟨_,rfl⟩
 rw [hGG] at bG
 have SZ5:=Lib.hid (show W4.heap.size<=w5.heap.size from hd.keeps.size)
 have E5a:=(E4.out.kept hd.keeps NS'.out.2.1).qt qG
 have S5a:=(S4.out.kept hd.keeps NS'.out.1).qt qG
 have L5a:=(L4.out.kept hd.keeps NS'.out.2.2.1).qt qG
 have C5a:=(C4.out.kept hd.keeps NS'.out.2.2.2).qt qG
 have T5a:=(T4.out.kept hd.keeps (fun k hk=>(TN.out k hk).2.1)).qt qG
 have c5a:=CJ.kept hc qG (fun e=>e)
 have HGG:=Lib.hid (show ¬ GG = GE/\¬ GG = GS/\¬ GG = GC/\¬ GG = GL/\q' < GG/\W4.heap.size<=q' from ⟨fun e=>by have:=Z4.out; have:=SZ5.out; omega,fun e=>by have:=Z4.out; have:=SZ5.out; omega,fun e=>by have:=Z4.out; have:=SZ5.out; omega,fun e=>by have:=Z4.out; have:=SZ5.out; omega,by have:=hc.lt; omega,hq⟩)
 have NS5:=Lib.hid (show ∀ k,k < W4.heap.size->¬ S' k->¬ S5 k from fun k hk hn e=>by
  rcases hd.all k e with x | x
  ·exact hn x
  ·omega)
 have LT5:=Lib.hid (show ∀ k,S5 k->k < GG from fun k e=>by have:=hd.dk.lt k e; omega)
 have HQS:=Lib.hid hqs
 have TD:=(TD4.out.trans hd).qt qG
 have v0':=E5a.cell 0 _ rfl
 have v1':=E5a.frozen 0
 clear u2 u3 v0 v1 t2 t3
 obtain ⟨W6,hW6,TD6',S6',E6',L6',C6',G6',T6',c6'⟩:∃ W6,WG.setCell ⟨GE,0,none⟩ .nilIface = W6/\DkTo n0 ad w b d2 S W6 S5/\Bk W6 GS 34 [.pointer none]/\Bk W6 GE 27 [.nilIface]/\Bk W6 GL 135 [.pointer (some ⟨b,0,none⟩),.int .i64 2,.int .i64 (2 + (ea:Int)),.int .i64 (ea:Int),.int .i64 (lg:Int),.int .i64 (mn:Int)]/\Bk W6 GC 132 [ptrV t,.int .i64 (k0:Int)]/\Bk W6 GG 138 [.int .i64 vi,.pointer (some ⟨q',0,none⟩)]/\Tbl W6 t m A/\CJ W6 q' b (So.logOf d2 (v + 1)) :=
  ⟨_,rfl,TD.box (by have:=HD.out.base; have:=HG.out; omega) HG.out.2.1 (NS5.out _ Z4.out.2.1 NS'.out.2.1) 0 _,S5a.other (fun e=>HG.out.2.2.1 e.symm) _,E5a.set 0 _,L5a.other (fun e=>HGL.out.2.2.1 e.symm) _,C5a.other (fun e=>HGC.out.1 e.symm) _,bG.other (fun e=>HGG.out.1 e.symm) _,T5a.kept (keeps_set _ _ _ _) (fun k hk e=>by have e:k = GE:=e; have:=(TN.out k hk).1; have:=HZ2.out; omega),CJ.kept c5a (keeps_set _ _ _ _) (fun e=>by have e:q' = GE:=e; have:=HGG.out; have:=Z4.out; omega)⟩
 obtain ⟨P,hP⟩:∃ x,W6.heap.size = x:=⟨_,rfl⟩
 obtain ⟨W7,hW7,q7,b7,hz7⟩:=box_own W6.drew 140 #[.pointer (some ⟨b,0,none⟩),.int .i64 2,.int .i64 (2 + (ea:Int)),.int .i64 (ea:Int),.int .i64 (lg:Int),.int .i64 (mn:Int),.int .i64 (d2.cr:Int),ptrV t,.int .i64 (k0:Int),.int .i64 vi,.pointer (some ⟨q',0,none⟩)]
 rw [show W6.drew.heap.size = P from hP] at b7
 have q67:Qt W6 W7:=Qt.trans (Keeps.drew (Qt.refl W6)) q7
 have LF:=Lib.hid (fun W' (x:Qt W6 W')=>life_same (DiskAt.qt TD6'.dk.disk x))
 have TD7:=Lib.hid (TD6'.qt q67)
 have S7':=S6'.qt q67
 have E7':=E6'.qt q67
 have S7:=Lib.hid S7'
 have E7:=Lib.hid E7'
 have B7:=Lib.hid b7
 have T7:=Lib.hid (T6'.qt q67)
 have C7:=Lib.hid (c6'.kept q67 (fun e=>e))
 have HP:=Lib.hid (show GS < P/\GE < P/\GG < P from ⟨by have:=S6'.lt; omega,by have:=E6'.lt; omega,by have:=G6'.lt; omega⟩)
 have KS:=Lib.hid (fun W' (x:Keeps (fun k=>k = GS\/k = GE) W6 W')=>(show (W'.cell? ⟨GC,0,none⟩ = some (ptrV t)/\W'.cell? ⟨GC,1,none⟩ = some (.int .i64 (k0:Int)))/\(W'.cell? ⟨GG,0,none⟩ = some (.int .i64 vi)/\W'.cell? ⟨GG,1,none⟩ = some (.pointer (some ⟨q',0,none⟩)))/\W'.cell? ⟨GL,0,none⟩ = some (.pointer (some ⟨b,0,none⟩))/\W'.cell? ⟨GL,1,none⟩ = some (.int .i64 2)/\W'.cell? ⟨GL,2,none⟩ = some (.int .i64 (2 + (ea:Int)))/\W'.cell? ⟨GL,3,none⟩ = some (.int .i64 (ea:Int))/\W'.cell? ⟨GL,4,none⟩ = some (.int .i64 (lg:Int))/\W'.cell? ⟨GL,5,none⟩ = some (.int .i64 (mn:Int)) from by
  have kc:=C6'.kept x (fun e=>e.elim HGC.out.2.1 HGC.out.1)
  have kg:=G6'.kept x (fun e=>e.elim HGG.out.2.1 HGG.out.1)
  have kl:=L6'.kept x (fun e=>e.elim HGL.out.2.2.2 HGL.out.2.2.1)
  exact ⟨⟨kc.cell 0 _ rfl,kc.cell 1 _ rfl⟩,⟨kg.cell 0 _ rfl,kg.cell 1 _ rfl⟩,kl.cell 0 _ rfl,kl.cell 1 _ rfl,kl.cell 2 _ rfl,kl.cell 3 _ rfl,kl.cell 4 _ rfl,kl.cell 5 _ rfl⟩))
 have K7:=Lib.hid (show Keeps (fun k=>k = GS\/k = GE) W6 W7 from q67.mono (fun _ _ e=>e.elim))
 have K8:=Lib.hid (fun u=>(show Keeps (fun k=>k = GS\/k = GE) W6 (W7.setCell ⟨GS,0,none⟩ u) from Keeps.trans K7.out (keeps_set W7 GS 0 u) (fun _ _ e=>.inl e)))
 have K9:=Lib.hid (fun u v'=>(show Keeps (fun k=>k = GS\/k = GE) W6 ((W7.setCell ⟨GS,0,none⟩ u).setCell ⟨GE,0,none⟩ v') from Keeps.trans (K8.out u) (keeps_set _ GE 0 v') (fun _ _ e=>.inr e)))
 have u0:=S7'.cell 0 _ rfl
 have u1:=S7'.frozen 0
 have u2:=E7'.cell 0 _ rfl
 have u3:=E7'.frozen 0
 have x2:=E6'.cell 0 _ rfl
 clear hd TD BH2 E5a S5a L5a C5a T5a c5a TD6' S6' E6' L6' C6' G6' T6' c6' S7' E7' q67 q7 b7 hz7 hq hqs hc qG bG hzG
 go_wp2_with fail
 go_region_held3 (fun W'=>(W'.cell? ⟨GC,0,none⟩ = some (ptrV t)/\W'.cell? ⟨GC,1,none⟩ = some (.int .i64 (k0:Int)))/\(W'.cell? ⟨GG,0,none⟩ = some (.int .i64 vi)/\W'.cell? ⟨GG,1,none⟩ = some (.pointer (some ⟨q',0,none⟩)))/\W'.cell? ⟨GL,0,none⟩ = some (.pointer (some ⟨b,0,none⟩))/\W'.cell? ⟨GL,1,none⟩ = some (.int .i64 2)/\W'.cell? ⟨GL,2,none⟩ = some (.int .i64 (2 + (ea:Int)))/\W'.cell? ⟨GL,3,none⟩ = some (.int .i64 (ea:Int))/\W'.cell? ⟨GL,4,none⟩ = some (.int .i64 (lg:Int))/\W'.cell? ⟨GL,5,none⟩ = some (.int .i64 (mn:Int)))
  (first | exact KS.out _ (Keeps.drew (Keeps.refl _ W6)) | exact KS.out _ K7.out | exact KS.out _ (K8.out _) | exact KS.out _ (K9.out _ _))
  (first
   | (go_at_call 88; refine (LF.out _ (Keeps.drew (Qt.refl W6))).mono ?_; rintro e w8 ⟨rfl,rfl⟩))
 have NSP:¬ S5 P:=fun e=>by have:=LT5.out P e; have:=HP.out; omega
 have FIN:=Lib.hid (show OpnYes n0 ad w b n m (v + 1) d2 S (.returned (.tuple #[.pointer (some ⟨P,0,none⟩),.nilIface])) ((W7.setCell ⟨GS,0,none⟩ (.pointer (some ⟨P,0,none⟩))).setCell ⟨GE,0,none⟩ .nilIface) from
  ⟨P,t,q',A,S5,rfl,(TD7.out.box (by have:=HD.out.base; have:=HG.out; omega) HG.out.1 (NS5.out _ Z4.out.2.2.1 NS'.out.1) 0 _).box (by have:=HD.out.base; have:=HG.out; omega) HG.out.2.1 (NS5.out _ Z4.out.2.1 NS'.out.2.1) 0 _,
   by
    rw [HK0.out]
    have k:=(B7.out.other (g:=GS) (i:=0) (fun e=>by have:=HP.out; omega) (.pointer (some ⟨P,0,none⟩))).other (g:=GE) (i:=0) (fun e=>by have:=HP.out; omega) .nilIface
    unfold Sm smCells
    rw [HL3.out.1,HL3.out.2.1,HL3.out.2.2,HVI.out]
    exact k,
   (T7.out.kept (keeps_set _ GS 0 _) (fun k hk e=>by have e:k = GS:=e; have:=(TN.out k hk).1; have:=HZ2.out; omega)).kept (keeps_set _ GE 0 _) (fun k hk e=>by have e:k = GE:=e; have:=(TN.out k hk).1; have:=HZ2.out; omega),
   CJ.kept (CJ.kept C7.out (keeps_set _ GS 0 _) (fun e=>by have e:q' = GS:=e; have:=HGG.out; have:=Z4.out; omega)) (keeps_set _ GE 0 _) (fun e=>by have e:q' = GE:=e; have:=HGG.out; have:=Z4.out; omega),
   by have:=HP.out; have:=HG.out; omega,by have:=HGG.out; have:=Z4.out; have:=HG.out; omega,
   fun k hk=>⟨by have:=(TN.out k hk).1; have:=HZ2.out; have:=HG.out; omega,NS5.out k (by have:=(TN.out k hk).2.2; have:=Z4.out; omega) (TN.out k hk).2.1,by have:=(TN.out k hk).2.2; have:=HGG.out; have:=Z4.out; omega,by have:=(TN.out k hk).2.2; have:=HP.out; have:=HGG.out; have:=Z4.out; omega⟩,
   NSP,HQS.out,fun e=>by have:=HGG.out; have:=HP.out; omega⟩)
 have SF:=Lib.hid ((S7.out.set 0 (.pointer (some ⟨P,0,none⟩))).other (fun e=>HG.out.2.2.1 e.symm) (g:=GE) (i:=0) .nilIface)
 have EF:=Lib.hid ((E7.out.other (g:=GS) (i:=0) HG.out.2.2.1 (.pointer (some ⟨P,0,none⟩))).set 0 .nilIface)
 clear NSP
 go_wp2
 exact open_leave rfl rfl SF.out EF.out FIN.out
end
end Go.Proofs.YthjjfjhajadimaaGreatDoor
