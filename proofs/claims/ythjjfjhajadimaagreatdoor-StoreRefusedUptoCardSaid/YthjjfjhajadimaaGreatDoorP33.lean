/-
  Joined: OSt, OAdd, OLogFor.
-/
import Derived.Test.YthjjfjhajadimaaGreatDoorP32
namespace Go.Proofs.YthjjfjhajadimaaGreatDoor
open Go.RowKit Go.WideShapes
set_option maxRecDepth 100000
def smCells (b n life t k v q:Nat):List Value:=[.pointer (some ⟨b,0,none⟩),.int .i64 2,.int .i64 (2 + ((So.each n:Nat):Int)),.int .i64 ((So.each n:Nat):Int),.int .i64 ((So.logAt n:Nat):Int),.int .i64 ((So.many n:Nat):Int),.int .i64 (life:Int),ptrV t,.int .i64 (k:Int),.int .i64 (v:Int),.pointer (some ⟨q,0,none⟩)]
def Sm (w:World) (p b n life t k v q:Nat):Prop:=Bk w p 140 (smCells b n life t k v q)
section
variable {w:World} {p b n life t k v q:Nat}
theorem Sm.qt {W:World} (h:Sm w p b n life t k v q) (x:Qt w W):Sm W p b n life t k v q:=Bk.qt h x
theorem Sm.kept {S:Nat->Prop} {W:World} (h:Sm w p b n life t k v q) (x:Keeps S w W) (hS:¬ S p):Sm W p b n life t k v q:=Bk.kept h x hS
theorem Sm.lt (h:Sm w p b n life t k v q):p < w.heap.size:=Bk.lt h
theorem version_st (h:Sm w p b n life t k v q):Calls Tryz.prog 25 #[.pointer (some ⟨p,0,none⟩)] w fun e w'=>e = .returned (.int .i64 (v:Int))/\w' = w:=by
 have c9:=Bk.cell h 9 _ rfl
 go_enter Tryz.func25,Tryz.ntmps25
 go_wp2
 exact bodyPost_ret (results_tmp (t:=2) rfl _ _ _) rfl ⟨rfl,rfl⟩
theorem room_st (hn:n<=65536) (h:Sm w p b n life t k v q):Calls Tryz.prog 41 #[.pointer (some ⟨p,0,none⟩)] w fun e w'=>e = .returned (.int .i64 ((So.room n:Nat):Int))/\Qt w w':=by
 have RM:=room13_any b n (by unfold So.each; omega) w
 unfold layV at RM
 have c0:=Bk.cell h 0 _ rfl
 have c1:=Bk.cell h 1 _ rfl
 have c2:=Bk.cell h 2 _ rfl
 have c3:=Bk.cell h 3 _ rfl
 have c4:=Bk.cell h 4 _ rfl
 have c5:=Bk.cell h 5 _ rfl
 clear h
 go_enter Tryz.func41,Tryz.ntmps41
 go_wp2_with fail
 refine RM.mono ?_
 rintro e w1 ⟨rfl,hw1⟩
 have FIN:=Lib.hid (show Qt w w1 from hw1 ▸ (Qt.refl w).alloc _)
 clear hw1
 go_wp2
 exact bodyPost_ret (results_tmp (t:=2) rfl _ _ _) rfl ⟨rfl,FIN.out⟩
theorem largest_st (hn:n<=65536) (h:Sm w p b n life t k v q):Calls Tryz.prog 59 #[.pointer (some ⟨p,0,none⟩)] w fun e w'=>e = .returned (.int .i64 (largestZ ((So.many n:Nat):Int)))/\w' = w:=by
 have LG:=jlargest_any ((So.many n:Nat):Int) (by unfold So.many So.each; omega) w
 have c5:=Bk.cell h 5 _ rfl
 clear h
 go_enter Tryz.func59,Tryz.ntmps59
 go_wp2_with fail
 refine LG.mono ?_
 rintro e w1 ⟨rfl,rfl⟩
 go_wp2
 exact bodyPost_ret (results_tmp (t:=2) rfl _ _ _) rfl ⟨rfl,rfl⟩
theorem size_st {l:List Tb.R} {A:Nat->Prop} (hT:Tbl w t l A) (hk:(So.rowsB l).length<=4611686018427387904) (h:Sm w p b n life t (So.rowsB l).length v q):Calls Tryz.prog 40 #[.pointer (some ⟨p,0,none⟩)] w fun e w'=>e = .returned (.int .i64 ((So.size l:Nat):Int))/\Qt w w':=by
 have SZ:=size13_any w hT hk
 unfold contV at SZ
 have c7:=Bk.cell h 7 _ rfl
 have c8:=Bk.cell h 8 _ rfl
 clear h
 go_enter Tryz.func40,Tryz.ntmps40
 go_wp2_with fail
 refine SZ.mono ?_
 rintro e w1 ⟨rfl,q1⟩
 have FIN:=Lib.hid q1
 clear q1
 go_wp2
 exact bodyPost_ret (results_tmp (t:=2) rfl _ _ _) rfl ⟨rfl,FIN.out⟩
theorem get_st {l:List Tb.R} {A:Nat->Prop} (hT:Tbl w t l A) (h:Sm w p b n life t k v q) (key:ByteArray):Calls Tryz.prog 47 #[.pointer (some ⟨p,0,none⟩),.string key] w fun e w'=>e = .returned (GotV (Tb.get l key.data.toList))/\w' = w:=by
 have GT:=get11_any hT key
 have c7:=Bk.cell h 7 _ rfl
 obtain ⟨x,y,hxy⟩:∃ x y,GotV (Tb.get l key.data.toList) = .tuple #[x,y]:=⟨_,_,rfl⟩
 rw [hxy] at GT ⊢
 clear h
 go_enter Tryz.func47,Tryz.ntmps47
 go_wp2_with fail
 refine GT.mono ?_
 rintro e w1 ⟨rfl,rfl⟩
 go_wp2
 exact bodyPost_ret (results_tmp2 (t:=4) (u:=5) rfl _ _ _) rfl ⟨rfl,rfl⟩
theorem rows_st {l:List Tb.R} {A:Nat->Prop} (hT:Tbl w t l A) (h:Sm w p b n life t k v q):Calls Tryz.prog 24 #[.pointer (some ⟨p,0,none⟩)] w fun e w'=>∃ v,e = .returned v/\NewR w w' v l:=by
 have RW:=rows11_any hT (fun w q=>by
  have f:=from11_any (hT.qt q) ⟨#[]⟩
  rwa [show Tb.fromL l (⟨#[]⟩:ByteArray).data.toList = l from Tb.from_nil l] at f)
 have c7:=Bk.cell h 7 _ rfl
 clear h
 go_enter Tryz.func24,Tryz.ntmps24
 go_wp2_with fail
 refine RW.mono ?_
 rintro e w1 ⟨rv,rfl,hN⟩
 have FIN:=Lib.hid hN
 clear hN
 go_wp2
 go_ret
 exact ⟨_,rfl,FIN.out⟩
set_option maxHeartbeats 1600000 in
theorem after_st {l:List Tb.R} {A:Nat->Prop} {ov:Value} {g o:Nat} {ops:List Bt.O} (hT:Tbl w t l A) (hl:(So.rowsB l).length<=1099511627776) (hi:OpsIn w ov g o ops) (hs:Bt.Small ops) (h:Sm w p b n life t (So.rowsB l).length v q):Calls Tryz.prog 39 #[.pointer (some ⟨p,0,none⟩),ov] w fun e w'=>e = .returned (.int .i64 ((So.size (Bt.apply l ops):Nat):Int))/\Qt w w':=by
 have HT:=Lib.hid hT
 have HS:=Lib.hid hs
 have H:=Lib.hid h
 have NM:=Lib.hid (fun W (x:Qt w W)=>normal12_any W (recs_turn hi x) (by have:=hs.len; omega) (fun o ho=>by have:=(hs.txt o ho).1; unfold maxLen; omega))
 have APN:=Lib.hid (show Bt.apply l (Bt.normal ops) = Bt.apply l ops from Bt.apply_normal hT.sorted ops)
 have AF:=Lib.hid (fun W (x:Qt w W) W2 v2 (N:NewO W W2 v2 (Bt.normal ops))=>by
  obtain ⟨g2,hi2,_⟩:=newO_in N (by have:=Bt.normal_length ops; have:=hs.len; omega)
  exact after13_any W2 (after_hyp (hT.qt (Qt.trans x N.qt)) hl hi2 (Bt.normal_norm ops) hs.normal))
 have SB:=Lib.hid (show (So.rowsB (Bt.apply l (Bt.normal ops))).length<=4611686018427387904 from by
  have h1:=So.apply_rowsB hT.sorted (Bt.normal ops)
  have h2:=hs.normal.opsN
  omega)
 have SZ:=Lib.hid (fun W2 t2 A2 (T:Tbl W2 t2 (Bt.apply l (Bt.normal ops)) A2)=>size13_any W2 T SB.out)
 have c7:=Bk.cell h 7 _ rfl
 have c8:=Bk.cell h 8 _ rfl
 have KP:=Lib.hid (fun W (x:Qt w W)=>(show W.cell? ⟨p,7,none⟩ = some (ptrV t)/\W.cell? ⟨p,8,none⟩ = some (.int .i64 (((So.rowsB l).length:Nat):Int)) from ⟨(Bk.qt h x).cell 7 _ rfl,(Bk.qt h x).cell 8 _ rfl⟩))
 unfold contV at AF SZ
 rw [APN.out] at AF SZ
 generalize (So.rowsB l).length = k0 at *
 generalize (So.rowsB (Bt.apply l ops)).length = k1 at *
 clear hT hi hs h hl SB
 go_enter Tryz.func39,Tryz.ntmps39
 go_wp2_with fail
 go_region_held3 (fun W=>W.cell? ⟨p,7,none⟩ = some (ptrV t)/\W.cell? ⟨p,8,none⟩ = some (.int .i64 (k0:Int)))
  (first | exact KP.out _ (Keeps.drew (Qt.refl w)) | exact KP.out _ q3 | exact KP.out _ q2 | exact KP.out _ q1)
  (first
   | (go_at_call 71; refine (NM.out _ (Keeps.drew (Qt.refl w))).mono ?_; rintro e w1 ⟨v1,rfl,n1⟩; have q1:Qt w w1:=Qt.trans (Keeps.drew (Qt.refl w)) n1.qt)
   | (go_at_call 70; refine (AF.out _ (Keeps.drew (Qt.refl w)) _ _ n1).mono ?_; rintro e w2 ⟨t2,A2,rfl,T2,ht2,hA2,q2'⟩; have q2:Qt w w2:=Qt.trans q1 q2')
   | (go_at_call 72; refine (SZ.out _ _ _ T2).mono ?_; rintro e w3 ⟨rfl,q3'⟩; have q3:Qt w w3:=Qt.trans q2 q3'))
 have FIN:=Lib.hid q3
 go_wp2
 exact bodyPost_ret (results_tmp (t:=4) rfl _ _ _) rfl ⟨rfl,FIN.out⟩
theorem down_st {d:DS} {S:Nat->Prop} (hD:DiskAt w b d S) (h:Sm w p b n life t k v q):Calls Tryz.prog 81 #[.pointer (some ⟨p,0,none⟩)] w fun e w'=>e = .returned (.bool (d.off || decide (d.cr ≠ life)))/\Qt w w':=by
 have OF:=Lib.hid (fun W (x:Qt w W)=>off_same (DiskAt.qt hD x))
 have LF:=Lib.hid (fun W (x:Qt w W)=>life_same (DiskAt.qt hD x))
 have d0:=Bk.cell h 0 _ rfl
 have d6:=Bk.cell h 6 _ rfl
 clear h hD
 cases ho:d.off with
 | true =>
  rw [ho] at OF
  clear ho LF d6
  go_enter Tryz.func81,Tryz.ntmps81
  go_wp2
  go_quiet ((go_at_call 43; with_reducible exact Calls.quiet_of_same (OF.out _ (Keeps.drewN (Qt.refl w) _))))
  go_wp2
  go_ret
  exact ⟨rfl,Keeps.drewN (Qt.refl w) _⟩
 | false =>
  obtain ⟨B,hB⟩:∃ B,((d.cr:Int) != (life:Int)) = B:=⟨_,rfl⟩
  have FIN:=Lib.hid (show (false || decide (d.cr ≠ life)) = B by
   rw [<- hB,Bool.false_or]
   by_cases hc:d.cr = life
   ·rw [decide_eq_false (fun k=>k hc),hc]; simp
   ·rw [decide_eq_true hc]
    exact (bne_iff_ne.2 (by omega)).symm)
  rw [ho] at OF
  clear ho
  go_enter Tryz.func81,Tryz.ntmps81
  go_wp2
  go_quiet ((first | (go_at_call 43; with_reducible exact Calls.quiet_of_same (OF.out _ (Keeps.drewN (Qt.refl w) _))) | (go_at_call 88; with_reducible exact Calls.quiet_of_same (LF.out _ (Keeps.drewN (Qt.refl w) _)))))
  go_wp2
  go_ret
  exact ⟨by rw [FIN.out]; rfl,Keeps.drewN (Qt.refl w) _⟩
end
noncomputable def So.addJ (j:J.JS) (d:DS) (t:Tb.Txt):Nat × J.JS × DS:=if (j.append d t).1 ≠ 0 then j.append d t else (j.append d t).2.1.sync (j.append d t).2.2
def AddTo (n0:Nat) (ad:Nat->Addr) (w:World) (b q:Nat) (r:Nat × J.JS × DS) (S:Nat->Prop) (e:Ending) (w':World):Prop :=
 ∃ S',e = .returned (errV ad r.1)/\Dk n0 ad w' b r.2.2 S'/\(∀ k,S' k->S k\/w.heap.size<=k)/\¬ S' q/\CJ w' q b r.2.1/\Keeps (fun k=>S k\/k = q) w w'
section
variable {n0:Nat} {ad:Nat->Addr} {w w1 w2:World} {b q:Nat} {d:DS} {S:Nat->Prop} {j:J.JS} {r:Nat × J.JS × DS}
theorem JTo.add {e:Ending} (h:JTo n0 ad w b q r S e w1) (hq:q < w.heap.size) (hS:¬ S q):AddTo n0 ad w b q r S e w1:=by
 obtain ⟨h1,h2,h3,h4⟩:=h
 exact ⟨Grow S w w1,h1,h2,fun k e=>by rcases e with e | e; exact .inl e; exact .inr e.1,fun e=>by rcases e with e | e; exact hS e; omega,h3,h4⟩
theorem AddTo.from {w0:World} {e:Ending} (q0:Qt w0 w) (h:AddTo n0 ad w b q r S e w1):AddTo n0 ad w0 b q r S e w1:=by
 obtain ⟨S',h1,h2,h3,h4,h5,h6⟩:=h
 have hz:=q0.size
 exact ⟨S',h1,h2,fun k e=>by rcases h3 k e with e | e; exact .inl e; exact .inr (by omega),h4,h5,Keeps.trans (q0.mono (fun _ _ e=>e.elim)) h6 (fun i hi e=>e)⟩
theorem AddTo.then {r2:Nat × J.JS × DS} {S1:Nat->Prop} {e:Ending} (hD:∀ k,S1 k->S k\/w.heap.size<=k) (hK:Keeps (fun k=>S k\/k = q) w w1) (h:AddTo n0 ad w1 b q r2 S1 e w2):AddTo n0 ad w b q r2 S e w2:=by
 obtain ⟨S',h1,h2,h3,h4,h5,h6⟩:=h
 have hz:=hK.size
 refine ⟨S',h1,h2,fun k e=>?_,h4,h5,Keeps.trans hK h6 (fun i hi e=>?_)⟩
 ·rcases h3 k e with e | e
  ·exact hD k e
  ·exact .inr (by omega)
 ·rcases e with e | e
  ·rcases hD i e with e | e
   ·exact .inl e
   ·omega
  ·exact .inr e
set_option maxHeartbeats 4000000 in
theorem add13_any {v:Nat} (h:Dk n0 ad w b d S) (hq0:n0<=q) (hqS:¬ S q) (hf:d.FewS) (hC:CJ w q b j) (hF:J.Fine j d) (s:ByteArray) (hs:s.size<=1099511627776) :
  Calls Tryz.prog 84 #[.agg #[.int .i64 (v:Int),.pointer (some ⟨q,0,none⟩)],.string s] w (AddTo n0 ad w b q (So.addJ j d s.data.toList) S):=by
 have hqw:=hC.lt
 have hnj:j.n<=65536:=by have:=hF.fit; have:=h.len; omega
 obtain ⟨W,hW,q0,bG,hz⟩:=box_own w 138 #[.int .i64 (v:Int),.pointer (some ⟨q,0,none⟩)]
 have Q0:=Lib.hid q0
 have BG:=Lib.hid bG
 have HO:=Lib.hid (show ¬ (S w.heap.size\/w.heap.size = q) from fun e=>by rcases e with e | e; exact absurd (h.lt _ e) (Nat.lt_irrefl _); omega)
 have g1:=bG.cell 1 _ rfl
 have HQW:=Lib.hid (show q < W.heap.size by omega)
 have HQS:=Lib.hid hqS
 have HQ0:=Lib.hid hq0
 have AP:=dk_append (h.qt q0) hq0 hqS hf (hC.kept q0 (fun e=>e)) hF s hs
 have FA:=Lib.hid (hF.append s.data.toList)
 have FEW:=Lib.hid (((So.Ran.append j d s.data.toList).fewA hf (by omega) (by decide)).few)
 have AJ:=Lib.hid (show So.addJ j d s.data.toList = if (j.append d s.data.toList).1 ≠ 0 then j.append d s.data.toList else (j.append d s.data.toList).2.1.sync (j.append d s.data.toList).2.2 from rfl)
 generalize So.addJ j d s.data.toList = rr at *
 generalize j.append d s.data.toList = r at *
 clear h hq0 hqS hf hC hF hs hqw hnj bG q0 hz
 go_enter Tryz.func84,Tryz.ntmps84
 go_wp2_with fail
 refine AP.mono ?_
 rintro e w1 J1
 have A1:=Lib.hid (J1.add HQW.out HQS.out)
 obtain ⟨rfl,D1,C1,K1⟩:=J1
 have BG1:=Lib.hid (BG.out.kept K1 HO.out)
 by_cases hz:r.1 = 0
 ·have AJ2:=Lib.hid (show rr = r.2.1.sync r.2.2 from by rw [AJ.out,if_neg (fun e=>e hz)])
  have HS1:¬ Grow S W w1 q:=fun e=>by rcases e with e | e; exact HQS.out e; have:=HQW.out; omega
  have SY:=dk_sync D1 HQ0.out HS1 FEW.out C1 FA.out.1
  have HQ1:=Lib.hid (show q < w1.heap.size from C1.lt)
  have HS1':=Lib.hid HS1
  have KK:=Lib.hid K1
  have g1':=BG1.out.cell 1 _ rfl
  rw [hz,errV_zero]
  clear hz AP D1 C1 K1 HS1 g1
  go_wp2_with fail
  refine SY.mono ?_
  rintro e w2 J2
  have A2:=Lib.hid (AddTo.from Q0.out (AddTo.then (S:=S) (fun k e=>by rcases e with e | e; exact .inl e; exact .inr e.1) KK.out (J2.add HQ1.out HS1'.out)))
  obtain ⟨rfl,_⟩:=J2
  rw [<- AJ2.out] at A2 ⊢
  clear SY
  go_wp2
  exact bodyPost_ret (results_tmp (t:=4) rfl _ _ _) rfl A2.out
 ·have AJ2:=Lib.hid (show rr = r from by rw [AJ.out,if_pos hz])
  have A2:=Lib.hid (AddTo.from Q0.out A1.out)
  rw [<- AJ2.out] at A2
  rw [errV_pos ad (Nat.pos_of_ne_zero hz)]
  have EV:=Lib.hid (show errV ad rr.1 = .iface 335 (.pointer (some (ad r.1))) from by rw [AJ2.out]; exact errV_pos ad (Nat.pos_of_ne_zero hz))
  clear AP D1 C1 K1 hz
  have A3:=A2.out
  rw [EV.out] at A3
  have A4:=Lib.hid A3
  clear A3
  go_wp2
  exact bodyPost_ret (results_tmp (t:=4) rfl _ _ _) rfl A4.out
end
def LogTo (n0:Nat) (ad:Nat->Addr) (w:World) (b v q:Nat) (fits:Bool) (r:Nat × DS) (S:Nat->Prop) (e:Ending) (w':World):Prop :=
 if fits = true then e = .returned (.tuple #[.agg #[.int .i64 (v:Int),.pointer (some ⟨q,0,none⟩)],.nilIface])/\Qt w w' else BegTo n0 ad w b (v + 1) r S e w'
def SmS (p b ea lg mn t k v:Nat) (W:World):Prop:=W.cell? ⟨p,0,none⟩ = some (.pointer (some ⟨b,0,none⟩))/\W.cell? ⟨p,1,none⟩ = some (.int .i64 2)/\W.cell? ⟨p,2,none⟩ = some (.int .i64 (2 + (ea:Int)))/\W.cell? ⟨p,3,none⟩ = some (.int .i64 (ea:Int))/\W.cell? ⟨p,4,none⟩ = some (.int .i64 (lg:Int))/\W.cell? ⟨p,5,none⟩ = some (.int .i64 (mn:Int))/\W.cell? ⟨p,7,none⟩ = some (ptrV t)/\W.cell? ⟨p,8,none⟩ = some (.int .i64 (k:Int))/\W.cell? ⟨p,9,none⟩ = some (.int .i64 (v:Int))
theorem Sm.cells {W:World} {p b n life t k v q:Nat} (h:Sm W p b n life t k v q):SmS p b (So.each n) (So.logAt n) (So.many n) t k v W :=
 ⟨Bk.cell h 0 _ rfl,Bk.cell h 1 _ rfl,Bk.cell h 2 _ rfl,Bk.cell h 3 _ rfl,Bk.cell h 4 _ rfl,Bk.cell h 5 _ rfl,Bk.cell h 7 _ rfl,Bk.cell h 8 _ rfl,Bk.cell h 9 _ rfl⟩
theorem BegTo.ok {n0:Nat} {ad:Nat->Addr} {w w':World} {b v:Nat} {r:Nat × DS} {S:Nat->Prop} {e:Ending} (h:BegTo n0 ad w b v r S e w') (hz:r.1 = 0):∃ S' q,e = .returned (.tuple #[.agg #[.int .i64 (v:Int),.pointer (some ⟨q,0,none⟩)],.nilIface])/\DkTo n0 ad w b r.2 S w' S'/\CJ w' q b (So.logOf r.2 v)/\w.heap.size<=q/\¬ S' q:=by
 obtain ⟨S',hd,hif⟩:=h
 rw [if_pos hz] at hif
 obtain ⟨q,e1,e2,e3,e4⟩:=hif
 exact ⟨S',q,e1,hd,e2,e3,e4⟩
theorem BegTo.no {n0:Nat} {ad:Nat->Addr} {w w':World} {b v:Nat} {r:Nat × DS} {S:Nat->Prop} {e:Ending} (h:BegTo n0 ad w b v r S e w') (hz:r.1 ≠ 0):∃ S',e = .returned (.tuple #[.agg #[.int .i64 0,.pointer none],.iface 335 (.pointer (some (ad r.1)))])/\DkTo n0 ad w b r.2 S w' S':=by
 obtain ⟨S',hd,hif⟩:=h
 rw [if_neg hz,errV_pos ad (Nat.pos_of_ne_zero hz)] at hif
 exact ⟨S',hif,hd⟩
section
variable {n0:Nat} {ad:Nat->Addr} {w:World} {b p q t v life:Nat} {d:DS} {S A:Nat->Prop} {l:List Tb.R} {j:J.JS}
set_option maxHeartbeats 8000000 in
theorem logFor13_any (h:Dk n0 ad w b d S) (hf:d.FewS) (h64:64<=d.dur.length) (hT:Tbl w t l A) (hs:So.size l<=So.room d.dur.length) (hv:v<=1099511627776) (hM:Sm w p b d.dur.length life t (So.rowsB l).length v q) (hpS:¬ S p) (hC:CJ w q b j) (hu:j.used<=j.n) (hn:j.n<=65536) (z:Int) (hz:z<=9223372036854775807) :
  Calls Tryz.prog 83 #[.pointer (some ⟨p,0,none⟩),.int .i64 z] w (LogTo n0 ad w b v q (j.fits z) (So.nextR d l v) S):=by
 have hpw:=hM.lt
 obtain ⟨W,hW,q0,bR,hzW⟩:=box_own w 138 #[.int .i64 0,.pointer none]
 have FT:=jfits_any (hC.kept q0 (fun e=>e)) hu hn z hz
 have BH:=Lib.hid (fun W2 (x:Qt w W2)=>behind13_any (h.qt x) hf h64 (hT.qt x) hs hv)
 have HD:=Lib.hid h
 have MM:=Lib.hid (fun W2 (x:Qt w W2)=>hM.qt x)
 have HM:=Lib.hid hM
 have HPS:=Lib.hid hpS
 have HPW:=Lib.hid hpw
 have Q0:=Lib.hid q0
 have BR:=Lib.hid bR
 have HZ:=Lib.hid hzW
 obtain ⟨R,hR⟩:∃ R,w.heap.size = R:=⟨_,rfl⟩
 have HR:=Lib.hid hR
 rw [hR] at BR
 have HNS:=Lib.hid (show ¬ S R from fun e=>by have:=h.lt R e; omega)
 have HN0:=Lib.hid (show n0<=R from by have:=h.base; omega)
 have c10:=Bk.cell (hM.qt q0) 10 _ rfl
 clear h hf h64 hT hs hC hu hn hz hpw hpS hM q0 bR hzW hv
 obtain ⟨k0,hk0⟩:∃ k,(So.rowsB l).length = k:=⟨_,rfl⟩
 rw [hk0] at BH MM HM
 clear hk0
 unfold contV layV at BH
 generalize d.dur.length = n at *
 cases hfit:j.fits z with
 | true =>
  rw [hfit] at FT
  go_enter Tryz.func83,Tryz.ntmps83
  go_wp2_with fail
  refine FT.mono ?_
  rintro e w1 ⟨rfl,q1⟩
  have M1:=MM.out _ (Qt.trans Q0.out q1)
  have c9:=Bk.cell M1 9 _ rfl
  have c10:=Bk.cell M1 10 _ rfl
  have B1:=Lib.hid (BR.out.qt q1)
  have r0:=B1.out.cell 0 _ rfl
  have r1:=B1.out.cell 1 _ rfl
  have s0:=B1.out.frozen 0
  have s1:=B1.out.frozen 1
  have FIN:=Lib.hid (qt_set (qt_set (Qt.trans Q0.out q1) (Nat.le_of_eq HR.out) 0 (.int .i64 (v:Int))) (Nat.le_of_eq HR.out) 1 (.pointer (some ⟨q,0,none⟩)))
  clear FT q1 M1
  go_wp2
  exact bodyPost_ret (results_log (p:=4) (u:=5) (by kernel_rfl) _ _ R _ _ rfl ((B1.out.set 0 (.int .i64 (v:Int))).set 1 (.pointer (some ⟨q,0,none⟩)))) rfl (show LogTo n0 ad w b v q true _ S _ _ from ⟨rfl,FIN.out⟩)
 | false =>
  rw [hfit] at FT
  have TO:=Lib.hid (fun (e:Ending) (w':World) (x:BegTo n0 ad w b (v + 1) (So.nextR d l v) S e w')=>(show LogTo n0 ad w b v q false (So.nextR d l v) S e w' from x))
  clear hfit
  generalize So.nextR d l v = r at *
  generalize hE1:So.each n = ea at *
  generalize hE2:So.logAt n = lg at *
  generalize hE3:So.many n = mn at *
  have KP:=Lib.hid (fun W' (x:Qt w W')=>(show SmS p b ea lg mn t k0 v W' from by have k:=(HM.out.qt x).cells; rwa [hE1,hE2,hE3] at k))
  have KD:=Lib.hid (fun W1 W' d' S' (x:Qt w W1) (y:DkTo n0 ad W1 b d' S W' S')=>(show SmS p b ea lg mn t k0 v W' from by have k:=((HM.out.qt x).kept y.keeps HPS.out).cells; rwa [hE1,hE2,hE3] at k))
  have KW:=Lib.hid (fun W1 W' d' S' (x:Qt w W1) (y:DkTo n0 ad W1 b d' S W' S') u0 u1=>(show SmS p b ea lg mn t k0 v ((W'.setCell ⟨R,0,none⟩ u0).setCell ⟨R,1,none⟩ u1) from by
   have hne:¬ p = R:=fun e=>by have:=HPW.out; have:=HR.out; omega
   have k:=((((HM.out.qt x).kept y.keeps HPS.out).kept (keeps_set W' R 0 u0) hne).kept (keeps_set _ R 1 u1) hne).cells
   rwa [hE1,hE2,hE3] at k))
  unfold SmS at KP KD KW
  clear hE1 hE2 hE3
  by_cases hz:r.1 = 0
  ·have BH2:=Lib.hid (fun W2 (x:Qt w W2)=>(BH.out W2 x).mono fun e w' y=>y.ok hz)
   have HZ0:=Lib.hid hz
   clear hz BH
   go_enter Tryz.func83,Tryz.ntmps83
   go_wp2_with fail
   refine FT.mono ?_
   rintro e w1 ⟨rfl,q1⟩
   have QW1:=Lib.hid (Qt.trans Q0.out q1)
   have B1:=Lib.hid (BR.out.qt q1)
   clear FT q1 c10
   go_wp2_with fail
   go_region_held3 (fun W'=>W'.cell? ⟨p,0,none⟩ = some (.pointer (some ⟨b,0,none⟩))/\W'.cell? ⟨p,1,none⟩ = some (.int .i64 2)/\W'.cell? ⟨p,2,none⟩ = some (.int .i64 (2 + (ea:Int)))/\W'.cell? ⟨p,3,none⟩ = some (.int .i64 (ea:Int))/\W'.cell? ⟨p,4,none⟩ = some (.int .i64 (lg:Int))/\W'.cell? ⟨p,5,none⟩ = some (.int .i64 (mn:Int))/\W'.cell? ⟨p,7,none⟩ = some (ptrV t)/\W'.cell? ⟨p,8,none⟩ = some (.int .i64 (k0:Int))/\W'.cell? ⟨p,9,none⟩ = some (.int .i64 (v:Int)))
    (first | exact KP.out _ (Keeps.drew QW1.out) | exact KD.out _ _ _ _ (Keeps.drew QW1.out) hd | exact KW.out _ _ _ _ (Keeps.drew QW1.out) hd _ _)
    (first
     | (go_at_call 85; refine (BH2.out _ (Keeps.drew QW1.out)).mono ?_; rintro e w2 ⟨S',q',rfl,hd,hc,hq,hqs⟩; have B2:=(B1.out.drew).kept hd.keeps HNS.out; have r0:=B2.cell 0 _ rfl; have r1:=B2.cell 1 _ rfl; have s0:=B2.frozen 0; have s1:=B2.frozen 1))
   have NR:¬ S' R:=fun e=>by
    rcases hd.all R e with x | x
    ·exact HNS.out x
    ·have:=B1.out.lt
     have e3:w1.drew.heap.size = w1.heap.size:=rfl
     omega
   have HN0':=HN0.out
   have HRw:w.heap.size<=R:=Nat.le_of_eq HR.out
   have TD:=(HD.out.quiet (Keeps.drew QW1.out)).trans hd
   have hqR:¬ q' = R:=fun e=>by
    have:=B1.out.lt
    have e3:w1.drew.heap.size = w1.heap.size:=rfl
    omega
   have hqw:w.heap.size<=q':=by
    have:=QW1.out.size
    have e3:w1.drew.heap.size = w1.heap.size:=rfl
    omega
   have FIN:=Lib.hid (TO.out _ _ (beg_ok (v:=v + 1) (r0:=r) (d5:=r.2) (show r = (0,r.2) by rw [<- HZ0.out]) ((TD.box HN0' HRw NR 0 (.int .i64 ((v + 1:Nat):Int))).box HN0' HRw NR 1 (.pointer (some ⟨q',0,none⟩))) (CJ.kept (CJ.kept hc (keeps_set w2 R 0 (.int .i64 ((v + 1:Nat):Int))) hqR) (keeps_set _ R 1 (.pointer (some ⟨q',0,none⟩))) hqR) hqw hqs))
   have BF:=Lib.hid ((B2.set 0 (.int .i64 ((v + 1:Nat):Int))).set 1 (.pointer (some ⟨q',0,none⟩)))
   clear hd hc hq hqs NR TD B2 hqR hqw
   go_wp2
   exact bodyPost_ret (results_log (p:=4) (u:=5) (by kernel_rfl) _ _ R _ _ rfl BF.out) rfl FIN.out
  ·have BH2:=Lib.hid (fun W2 (x:Qt w W2)=>(BH.out W2 x).mono fun e w' y=>y.no hz)
   have HZ0:=Lib.hid hz
   clear hz BH
   go_enter Tryz.func83,Tryz.ntmps83
   go_wp2_with fail
   refine FT.mono ?_
   rintro e w1 ⟨rfl,q1⟩
   have QW1:=Lib.hid (Qt.trans Q0.out q1)
   have B1:=Lib.hid (BR.out.qt q1)
   clear FT q1 c10
   go_wp2_with fail
   go_region_held3 (fun W'=>W'.cell? ⟨p,0,none⟩ = some (.pointer (some ⟨b,0,none⟩))/\W'.cell? ⟨p,1,none⟩ = some (.int .i64 2)/\W'.cell? ⟨p,2,none⟩ = some (.int .i64 (2 + (ea:Int)))/\W'.cell? ⟨p,3,none⟩ = some (.int .i64 (ea:Int))/\W'.cell? ⟨p,4,none⟩ = some (.int .i64 (lg:Int))/\W'.cell? ⟨p,5,none⟩ = some (.int .i64 (mn:Int))/\W'.cell? ⟨p,7,none⟩ = some (ptrV t)/\W'.cell? ⟨p,8,none⟩ = some (.int .i64 (k0:Int))/\W'.cell? ⟨p,9,none⟩ = some (.int .i64 (v:Int)))
    (first | exact KP.out _ (Keeps.drew QW1.out) | exact KD.out _ _ _ _ (Keeps.drew QW1.out) hd | exact KW.out _ _ _ _ (Keeps.drew QW1.out) hd _ _)
    (first
     | (go_at_call 85; refine (BH2.out _ (Keeps.drew QW1.out)).mono ?_; rintro e w2 ⟨S',rfl,hd⟩; have B2:=(B1.out.drew).kept hd.keeps HNS.out; have r0:=B2.cell 0 _ rfl; have r1:=B2.cell 1 _ rfl; have s0:=B2.frozen 0; have s1:=B2.frozen 1))
   have NR:¬ S' R:=fun e=>by
    rcases hd.all R e with x | x
    ·exact HNS.out x
    ·have:=B1.out.lt
     have e3:w1.drew.heap.size = w1.heap.size:=rfl
     omega
   have HN0':=HN0.out
   have HRw:w.heap.size<=R:=Nat.le_of_eq HR.out
   have TD:=(HD.out.quiet (Keeps.drew QW1.out)).trans hd
   have FIN:=Lib.hid (TO.out _ _ (beg_err (v:=v + 1) (r0:=r) (r:=r) rfl HZ0.out (errV_pos ad (Nat.pos_of_ne_zero HZ0.out)) ((TD.box HN0' HRw NR 0 (.int .i64 0)).box HN0' HRw NR 1 (.pointer none))))
   have BF:=Lib.hid ((B2.set 0 (.int .i64 0)).set 1 (.pointer none))
   clear hd NR TD B2
   go_wp2
   exact bodyPost_ret (results_log (p:=4) (u:=5) (by kernel_rfl) _ _ R _ _ rfl BF.out) rfl FIN.out
end
end Go.Proofs.YthjjfjhajadimaaGreatDoor
