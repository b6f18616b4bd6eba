/-
  Joined: OFormat, BDecC, BRefDc, BDecU.
-/
import Derived.Test.YthjjfjhajadimaaGreatDoorP30
import Derived.WalkLawsBesides
import Derived.BigQuiet
namespace Go.Proofs.YthjjfjhajadimaaGreatDoor
open Go.RowKit Go.WideShapes
set_option maxRecDepth 100000
def FmtTo (n0:Nat) (ad:Nat->Addr) (w:World) (b:Nat) (r:Nat × DS) (S:Nat->Prop) (e:Ending) (w':World):Prop:=∃ S',e = .returned (errV ad r.1)/\DkTo n0 ad w b r.2 S w' S'
theorem slots_tell {d:DS} (h:2<=d.dur.length):((d.slotsR 0).2.2 = 12/\d.off = true)\/((d.slotsR 0).2.2 = 0/\d.off = false)\/((d.slotsR 0).2.2 = 14/\d.off = false):=by
 have hf:d.fitS 0:=⟨by omega,by omega⟩
 unfold DS.slotsR
 rw [if_neg (fun e=>e hf)]
 cases ho:d.off with
 | true=>exact .inl ⟨by simp,rfl⟩
 | false =>
  refine .inr ?_
  rw [if_neg (by simp)]
  cases G.best (G.slotV (d.read (0:Int).toNat) 0) (G.slotV (d.read ((0:Int).toNat + 1)) 1) with
  | none=>exact .inr ⟨rfl,rfl⟩
  | some p=>exact .inl ⟨rfl,rfl⟩
theorem apply_normal_nil (ops:List Bt.O):Bt.apply [] (Bt.normal ops) = Bt.apply [] ops:=Bt.apply_normal List.Pairwise.nil ops
set_option maxHeartbeats 8000000 in
theorem format13_any {n0:Nat} {ad:Nat->Addr} {w:World} {b g o:Nat} {v:Value} {d:DS} {S:Nat->Prop} {ops:List Bt.O} (h:Dk n0 ad w b d S) (hf:d.FewS) (hi:OpsIn w v g o ops) (hs:Bt.Small ops) :
  Calls Tryz.prog 26 #[.pointer (some ⟨b,0,none⟩),v] w (FmtTo n0 ad w b (So.format d ops) S):=by
 have HD:=Lib.hid h
 have HF:=Lib.hid hf
 have HI:=Lib.hid hi
 have HS:=Lib.hid hs
 have LY:=layoutOf13_any ad w h.errs h.disk
 by_cases hz:So.layE d.dur.length = 0
 ·have h64:64<=d.dur.length:=by
   unfold So.layE at hz
   split at hz <;> omega
  rw [if_pos hz] at LY
  have FM:=Lib.hid (show So.format d ops = if d.off = true then (12,d) else if (d.slotsR 0).2.2 = 0 then (21,d) else if So.room d.dur.length < So.size (Bt.apply [] ops) then (17,d) else So.make d (Bt.apply [] ops) 1 from if_neg (fun e=>e hz))
  have ST:=slots_tell (d:=d) (by omega)
  have SR:=Lib.hid (fun W (q:Qt w W)=>dk_sread (h.qt q) 0)
  have H64:=Lib.hid h64
  clear h hf hi hs h64 hz
  obtain ⟨n,hn⟩:∃ n,d.dur.length = n:=⟨_,rfl⟩
  have HN:=Lib.hid hn
  rw [hn] at LY
  unfold layV at LY
  unfold readT at SR
  have EA:=Lib.hid (show So.each n = So.each n from rfl)
  obtain ⟨ea,hea⟩:∃ x,So.each n = x:=⟨_,rfl⟩
  obtain ⟨lg,hlg⟩:∃ x,So.logAt n = x:=⟨_,rfl⟩
  obtain ⟨mn,hmn⟩:∃ x,So.many n = x:=⟨_,rfl⟩
  rw [hea,hlg,hmn] at LY
  have HEA:=Lib.hid hea
  have HLG:=Lib.hid hlg
  have HMN:=Lib.hid hmn
  clear hea hlg hmn hn EA
  go_enter Tryz.func26,Tryz.ntmps26
  go_wp2_with fail
  refine LY.mono ?_
  rintro e w1 ⟨rfl,q1⟩
  have Q1:=Lib.hid q1
  obtain ⟨W2,hW2,q2,bL,hz2⟩:=box_own w1 135 #[.pointer (some ⟨b,0,none⟩),.int .i64 2,.int .i64 (2 + (ea:Int)),.int .i64 (ea:Int),.int .i64 (lg:Int),.int .i64 (mn:Int)]
  have Q2:=Lib.hid (show Qt w W2 from Keeps.trans q1 q2 (fun _ _ e=>e))
  have BL:=Lib.hid bL
  obtain ⟨L,hL⟩:∃ L,w1.heap.size = L:=⟨_,rfl⟩
  have HL:=Lib.hid hL
  rw [hL] at BL
  have HZ2:=Lib.hid hz2
  have SR2:=SR.out W2 Q2.out
  obtain ⟨st,hst⟩:∃ s,(ByteArray.mk (d.slotsR 0).1.toArray) = s:=⟨_,rfl⟩
  obtain ⟨sv,hsv⟩:∃ s,((d.slotsR 0).2.1:Int) = s:=⟨_,rfl⟩
  rw [hst,hsv] at SR2
  clear q1 q2 bL hz2 SR LY hst hsv
  rcases ST with ⟨he,ho⟩ | ⟨he,ho⟩ | ⟨he,ho⟩
  ·rw [he,errV_pos ad (by decide)] at SR2
   rw [if_pos ho] at FM
   clear he ho
   go_wp2_with fail
   refine SR2.mono ?_
   rintro e w3 ⟨rfl,q3⟩
   have E3:=(HD.out.qt (Keeps.trans Q2.out q3 (fun _ _ e=>e))).errs
   have EQ:=eq_otherO E3 (i:=11) (j:=13) (by decide) (by decide) (by decide)
   have c14:w3.cell? ⟨3,0,none⟩ = some (.iface 335 (.pointer (some (ad 14)))):=E3.cells 13 _ rfl
   have FIN:=Lib.hid (show FmtTo n0 ad w b (So.format d ops) S (.returned (.iface 335 (.pointer (some (ad 12))))) w3 from ⟨S,by rw [FM.out]; rfl,by rw [FM.out]; exact HD.out.quiet (Keeps.trans Q2.out q3 (fun _ _ e=>e))⟩)
   clear E3 q3
   go_wp2
   exact bodyPost_ret (results_tmp (t:=4) rfl _ _ _) rfl FIN.out
  ·rw [he,errV_zero] at SR2
   rw [if_neg (show ¬ d.off = true by rw [ho]; simp),if_pos he] at FM
   clear he ho
   go_wp2_with fail
   refine SR2.mono ?_
   rintro e w3 ⟨rfl,q3⟩
   have E3:=(HD.out.qt (Keeps.trans Q2.out q3 (fun _ _ e=>e))).errs
   have c21:w3.cell? ⟨2,0,none⟩ = some (.iface 335 (.pointer (some (ad 21)))):=E3.cells 20 _ rfl
   have FIN:=Lib.hid (show FmtTo n0 ad w b (So.format d ops) S (.returned (.iface 335 (.pointer (some (ad 21))))) w3 from ⟨S,by rw [FM.out]; rfl,by rw [FM.out]; exact HD.out.quiet (Keeps.trans Q2.out q3 (fun _ _ e=>e))⟩)
   clear E3 q3
   go_wp2
   exact bodyPost_ret (results_tmp (t:=4) rfl _ _ _) rfl FIN.out
  ·rw [he,errV_pos ad (by decide)] at SR2
   rw [if_neg (show ¬ d.off = true by rw [ho]; simp),if_neg (show ¬ (d.slotsR 0).2.2 = 0 by rw [he]; decide)] at FM
   clear he ho
   go_wp2_with fail
   refine SR2.mono ?_
   rintro e w3 ⟨rfl,q3⟩
   have Q3:=Lib.hid (show Qt w w3 from Keeps.trans Q2.out q3 (fun _ _ e=>e))
   have BL3:=Lib.hid (BL.out.qt q3)
   have E3:=(HD.out.qt Q3.out).errs
   have EQ:=eq_sameO (ad 14) w3
   have c14:w3.cell? ⟨3,0,none⟩ = some (.iface 335 (.pointer (some (ad 14)))):=E3.cells 13 _ rfl
   have NC:=noCont_any w3
   unfold contV at NC
   clear E3 q3 SR2
   go_wp2_with fail
   refine NC.mono ?_
   rintro e w4 ⟨t,rfl,T4,ht4,q4⟩
   have NM:=normal12_any w4 (recs_turn HI.out (Qt.trans Q3.out q4)) (by have:=HS.out.len; omega) (fun o ho=>by have:=(HS.out.txt o ho).1; unfold maxLen; omega)
   have T4:=Lib.hid T4
   have BL4:=Lib.hid (BL3.out.qt q4)
   have Q4:=Lib.hid (Qt.trans Q3.out q4)
   clear NC q4 c14 EQ
   go_wp2_with fail
   refine NM.mono ?_
   rintro e w5 ⟨v5,rfl,N5⟩
   obtain ⟨g5,hi5,hg5⟩:=newO_in N5 (by have:=Bt.normal_length ops; have:=HS.out.len; omega)
   have q5:Qt w4 w5:=N5.qt
   have sm:=HS.out.normal
   have AH:=after_hyp (T4.out.qt q5) (by show (0:Nat)<=_; omega) hi5 (Bt.normal_norm ops) sm
   have AF:=after13_any w5 AH
   have BL5:=Lib.hid (BL4.out.qt q5)
   have Q5:=Lib.hid (Qt.trans Q4.out q5)
   have SM:=Lib.hid (show (So.rowsB (Bt.apply [] (Bt.normal ops))).length<=9007199380570112 from by
    have h1:=So.apply_rowsB List.Pairwise.nil (Bt.normal ops)
    have h2:=sm.opsN
    have h3:(So.rowsB []).length = 0:=rfl
    omega)
   rw [apply_normal_nil] at AF SM
   rw [show (So.rowsB []).length = 0 from rfl] at AF
   unfold contV at AF
   obtain ⟨k,hk⟩:∃ k,(So.rowsB (Bt.apply [] ops)).length = k:=⟨_,rfl⟩
   rw [hk] at AF
   clear N5 hi5 hg5 q5 sm AH T4 NM
   go_wp2_with fail
   refine AF.mono ?_
   rintro e w6 ⟨t6,A6,rfl,T6,ht6,hA6,q6⟩
   obtain ⟨W7,hW7,q7,bC,hz7⟩:=box_own w6 132 #[ptrV t6,.int .i64 (k:Int)]
   obtain ⟨C,hC⟩:∃ C,w6.heap.size = C:=⟨_,rfl⟩
   have Q7:=Lib.hid (Qt.trans Q5.out (Qt.trans q6 q7))
   have BL7:=Lib.hid (BL5.out.qt (Qt.trans q6 q7))
   have T7:=Lib.hid (T6.qt q7)
   rw [hC] at bC
   have BC:=Lib.hid bC
   have SZ:=Lib.hid (fun W (q:Qt W7 W)=>size13_any W (T7.out.qt q) (by have:=SM.out; omega))
   have RM:=Lib.hid (fun W=>room13_any b n (by have:=HD.out.len; have:=HN.out; unfold So.each; omega) W)
   have BG:=Lib.hid (fun W (q:Qt w W) (A:Nat->Prop) (T:Tbl W t6 (Bt.apply [] ops) A) (hs:So.size (Bt.apply [] ops)<=So.room d.dur.length)=>begin13_any (v:=1) (HD.out.qt q) HF.out H64.out T hs (by decide) (by decide))
   rw [HN.out] at BG FM
   unfold layV at RM BG
   unfold contV at SZ BG
   rw [HEA.out,HLG.out,HMN.out] at RM BG
   rw [show ((1:Nat):Int) = 1 from rfl] at BG
   rw [hk] at SZ BG
   clear hk q6 q7 bC hz7 T6 ht6 hA6 AF
   have KP7:=Lib.hid (fun W' (q:Qt W7 W')=>(show (W'.cell? ⟨C,0,none⟩ = some (ptrV t6)/\W'.cell? ⟨C,1,none⟩ = some (.int .i64 (k:Int)))/\W'.cell? ⟨L,0,none⟩ = some (.pointer (some ⟨b,0,none⟩))/\W'.cell? ⟨L,1,none⟩ = some (.int .i64 2)/\W'.cell? ⟨L,2,none⟩ = some (.int .i64 (2 + (ea:Int)))/\W'.cell? ⟨L,3,none⟩ = some (.int .i64 (ea:Int))/\W'.cell? ⟨L,4,none⟩ = some (.int .i64 (lg:Int))/\W'.cell? ⟨L,5,none⟩ = some (.int .i64 (mn:Int)) from ⟨⟨(BC.out.qt q).cell 0 _ rfl,(BC.out.qt q).cell 1 _ rfl⟩,(BL7.out.qt q).cell 0 _ rfl,(BL7.out.qt q).cell 1 _ rfl,(BL7.out.qt q).cell 2 _ rfl,(BL7.out.qt q).cell 3 _ rfl,(BL7.out.qt q).cell 4 _ rfl,(BL7.out.qt q).cell 5 _ rfl⟩))
   obtain ⟨rm,hrm⟩:∃ x,So.room n = x:=⟨_,rfl⟩
   obtain ⟨sz,hsz⟩:∃ x,So.size (Bt.apply [] ops) = x:=⟨_,rfl⟩
   rw [hrm] at RM FM BG
   rw [hsz] at SZ FM BG
   clear hrm hsz
   by_cases hfull:rm < sz
   ·have y:decide ((rm:Int) < (sz:Int)) = true:=decide_eq_true (by omega)
    have y':decide (rm < sz) = true:=decide_eq_true hfull
    rw [if_pos hfull] at FM
    clear hfull BG
    go_wp2_with fail
    go_region_held3 (fun W'=>(W'.cell? ⟨C,0,none⟩ = some (ptrV t6)/\W'.cell? ⟨C,1,none⟩ = some (.int .i64 (k:Int)))/\W'.cell? ⟨L,0,none⟩ = some (.pointer (some ⟨b,0,none⟩))/\W'.cell? ⟨L,1,none⟩ = some (.int .i64 2)/\W'.cell? ⟨L,2,none⟩ = some (.int .i64 (2 + (ea:Int)))/\W'.cell? ⟨L,3,none⟩ = some (.int .i64 (ea:Int))/\W'.cell? ⟨L,4,none⟩ = some (.int .i64 (lg:Int))/\W'.cell? ⟨L,5,none⟩ = some (.int .i64 (mn:Int)))
     (first | exact KP7.out _ (Keeps.drew (Qt.refl W7)) | exact KP7.out _ qk | exact KP7.out _ qr)
     (first
      | (go_at_call 72; refine (SZ.out _ (Keeps.drew (Qt.refl W7))).mono ?_; rintro e wk ⟨rfl,qk'⟩; have qk:Qt W7 wk:=Qt.trans (Keeps.drew (Qt.refl W7)) qk'; clear qk')
      | (go_at_call 73; refine (RM.out _).mono ?_; rintro e wr ⟨rfl,hwr⟩; have qr:Qt W7 wr:=hwr ▸ qk.alloc _; clear hwr))
    have E7:=(HD.out.qt (Qt.trans Q7.out qr)).errs
    have c17:wr.cell? ⟨4,0,none⟩ = some (.iface 335 (.pointer (some (ad 17)))):=E7.cells 16 _ rfl
    have FIN:=Lib.hid (show FmtTo n0 ad w b (So.format d ops) S (.returned (.iface 335 (.pointer (some (ad 17))))) wr from ⟨S,by rw [FM.out]; rfl,by rw [FM.out]; exact HD.out.quiet (Qt.trans Q7.out qr)⟩)
    clear E7 qk qr
    go_wp2
    exact bodyPost_ret (results_tmp (t:=4) rfl _ _ _) rfl FIN.out
   ·have y:decide ((rm:Int) < (sz:Int)) = false:=decide_eq_false (by omega)
    have y':decide (rm < sz) = false:=decide_eq_false hfull
    have HLE:=Lib.hid (show sz<=rm by omega)
    rw [if_neg hfull] at FM
    clear hfull
    go_wp2_with fail
    go_region_held3 (fun W'=>(W'.cell? ⟨C,0,none⟩ = some (ptrV t6)/\W'.cell? ⟨C,1,none⟩ = some (.int .i64 (k:Int)))/\W'.cell? ⟨L,0,none⟩ = some (.pointer (some ⟨b,0,none⟩))/\W'.cell? ⟨L,1,none⟩ = some (.int .i64 2)/\W'.cell? ⟨L,2,none⟩ = some (.int .i64 (2 + (ea:Int)))/\W'.cell? ⟨L,3,none⟩ = some (.int .i64 (ea:Int))/\W'.cell? ⟨L,4,none⟩ = some (.int .i64 (lg:Int))/\W'.cell? ⟨L,5,none⟩ = some (.int .i64 (mn:Int)))
     (first | exact KP7.out _ (Keeps.drew (Qt.refl W7)) | exact KP7.out _ qk | exact KP7.out _ qr)
     (first
      | (go_at_call 72; refine (SZ.out _ (Keeps.drew (Qt.refl W7))).mono ?_; rintro e wk ⟨rfl,qk'⟩; have qk:Qt W7 wk:=Qt.trans (Keeps.drew (Qt.refl W7)) qk'; clear qk')
      | (go_at_call 73; refine (RM.out _).mono ?_; rintro e wr ⟨rfl,hwr⟩; have qr:Qt W7 wr:=hwr ▸ qk.alloc _; clear hwr))
    have BG1:=BG.out wr (Qt.trans Q7.out qr) A6 (T7.out.qt qr) HLE.out
    have kc:=(KP7.out _ qr)
    obtain ⟨⟨k1,k2⟩,k3,k4,k5,k6,k7,k8⟩:=kc
    have QR:=Lib.hid (Qt.trans Q7.out qr)
    clear BG qk qr
    generalize So.make d (Bt.apply [] ops) 1 = r at *
    go_wp2_with fail
    refine BG1.mono ?_
    rintro e w9 ⟨S',hd,hif⟩
    by_cases hz:r.1 = 0
    ·rw [if_pos hz] at hif
     obtain ⟨q,rfl,cj,hq,hqs⟩:=hif
     have FIN:=Lib.hid (show FmtTo n0 ad w b (So.format d ops) S (.returned .nilIface) w9 from ⟨S',by rw [FM.out,hz]; rfl,by rw [FM.out]; exact (HD.out.quiet QR.out).trans hd⟩)
     clear cj hq hqs hd hz BG1
     go_wp2
     exact bodyPost_ret (results_tmp (t:=4) rfl _ _ _) rfl FIN.out
    ·rw [if_neg hz] at hif
     subst hif
     have FIN:=Lib.hid (show FmtTo n0 ad w b (So.format d ops) S (.returned (.iface 335 (.pointer (some (ad r.1))))) w9 from ⟨S',by rw [FM.out,errV_pos ad (Nat.pos_of_ne_zero hz)],by rw [FM.out]; exact (HD.out.quiet QR.out).trans hd⟩)
     rw [errV_pos ad (Nat.pos_of_ne_zero hz)]
     clear hd hz BG1
     go_wp2
     exact bodyPost_ret (results_tmp (t:=4) rfl _ _ _) rfl FIN.out
 ·have FM:=Lib.hid (show So.format d ops = (So.layE d.dur.length,d) from if_pos hz)
  rw [if_neg hz,errV_pos ad (Nat.pos_of_ne_zero hz)] at LY
  unfold layZ at LY
  clear h hf hi hs HS HI HF
  obtain ⟨er,her⟩:∃ x,So.layE d.dur.length = x:=⟨_,rfl⟩
  rw [her] at LY FM hz
  clear her
  go_enter Tryz.func26,Tryz.ntmps26
  go_wp2_with fail
  refine LY.mono ?_
  rintro e w1 ⟨rfl,q1⟩
  have FIN:=Lib.hid (show FmtTo n0 ad w b (So.format d ops) S (.returned (.iface 335 (.pointer (some (ad er))))) (w1.alloc (.cells #[.pointer none,.int .i64 0,.int .i64 0,.int .i64 0,.int .i64 0,.int .i64 0] 135)) from ⟨S,by rw [FM.out,errV_pos ad (Nat.pos_of_ne_zero hz)],by rw [FM.out]; exact HD.out.quiet (q1.alloc _)⟩)
  clear q1 LY hz
  go_wp2
  exact bodyPost_ret (results_tmp (t:=4) rfl _ _ _) rfl FIN.out
theorem offErrs_new {ad:Nat->Addr} {w:World} {b:Nat} (h:Errs ad w) (hb:w.heap.size<=b):OffErrs ad (fun k=>k = b):=by
 refine ⟨fun g hg e=>?_,fun i hi e=>?_⟩
 ·obtain ⟨i,hi⟩:=List.mem_iff_getElem?.1 hg
  have:=World.block_lt_of_cell? w _ (h.cells i g hi)
  simp only at this
  omega
 ·obtain ⟨c,t,hb2⟩:=h.blk i hi
  have:=lt_of_block hb2
  omega
def DecP (ad:Nat->Addr) (w:World) (D:Nat ⊕ List Bt.O) (e:Ending) (w':World):Prop :=
 match D with
 | .inl er=>e = .returned (.tuple #[.slice none 0 0,errV ad er])/\Qt w w'
 | .inr ops=>∃ v,e = .returned (.tuple #[v,.nilIface])/\NewO w w' v ops
def DcAt (w:World) (b:Nat) (s:ByteArray) (x n:Nat) (ov iv:Value) (wr:World):Prop :=
 ∃ (k d:Nat) (us:List Bt.O) (fst:Bool) (before:Tb.Txt),k<=x/\iv = .int .u64 (k:Int)/\us.length = k/\k<=d/\NewO w wr ov us/\ov.ownBlock ≠ some b/\Rd b s (n + d) wr/\(∀ K,Bt.risesB us K = (fst || Tb.lt before K)) /\
  Bt.onto us d (Bt.opsD (x - k) fst before (rest s (n + d))) = Bt.opsD x true [] (rest s n)
theorem risesB_snoc (us:List Bt.O) (o:Bt.O) (K:Tb.Txt):Bt.risesB (us ++ [o]) K = (false || Tb.lt o.key K):=by
 unfold Bt.risesB
 rw [List.getLast?_concat,Bool.false_or]
set_option maxHeartbeats 6400000 in
theorem decode12_any (ad:Nat->Addr) (s:ByteArray) (w:World) (hs:s.size<=1099511627776) (hE:Errs ad w) :
  Calls Tryz.prog 150 #[.string s] w (DecP ad w (Bt.decD s.data.toList)):=by
 have RR:=rread_any s w (by omega)
 obtain ⟨i0,hi0,hz0,hz1,hz2⟩:=info_parts infoOp12
 have HE:=Lib.hid hE
 have HS:=Lib.hid hs
 obtain ⟨b,hb⟩:∃ b,w.heap.size = b:=⟨_,rfl⟩
 have HO:=Lib.hid (offErrs_new hE (Nat.le_of_eq hb))
 have HB:=Lib.hid hb
 rw [hb] at RR
 clear hE hs hb
 go_enter Tryz.func150,Tryz.ntmps150
 go_wp2_with fail
 refine RR.mono ?_
 rintro e w1 ⟨rfl,h1,q1⟩
 have Q1:=Lib.hid q1
 have R1:=Lib.hid h1
 have E1:=Lib.hid (HE.out.kept q1 (OffErrs.none ad))
 clear RR h1 q1
 cases hD:varintD (rest s 0) with
 | inl er =>
  have UI:=ruint_err ad b s 0 er w1 R1.out E1.out hD
  have FD:=Lib.hid (show Bt.decD s.data.toList = .inl er from by
   unfold Bt.decD
   rw [show varintD s.data.toList = .inl er from hD])
  have EV:=Lib.hid (show errV ad er = .iface 335 (.pointer (some (ad er))) from errV_pos ad (by rcases vd_err _ _ _ _ hD with rfl | rfl <;> decide))
  clear hD
  go_wp2_with fail
  refine UI.mono ?_
  rintro e w2 ⟨rfl,m2⟩
  have Q2:=Lib.hid (Keeps.trans Q1.out m2.keeps (fun i hi e=>by have:=HB.out; omega))
  clear UI m2
  go_wp2
  go_ret2
  rw [FD.out]
  exact ⟨by rw [EV.out]; rfl,Q2.out⟩
 | inr xn =>
  obtain ⟨x,n⟩:=xn
  have UI:=ruint_ok ad b s 0 x n w1 R1.out E1.out hD
  obtain ⟨hx64,hn0,hn10⟩:=varintD_len (Nat.zero_le _) hD
  rw [Nat.zero_add] at UI hn0
  have HD:=Lib.hid (show varintD s.data.toList = .inr (x,n) from hD)
  have HX:=Lib.hid hx64
  clear hD hx64
  go_wp2_with fail
  refine UI.mono ?_
  rintro e w2 ⟨rfl,m2⟩
  have Q2:=Lib.hid (show Qt w w2 from Keeps.trans Q1.out m2.keeps (fun i hi e=>by have:=HB.out; omega))
  have START:=Lib.hid (show DcAt w b s x n (.slice none 0 0) (.int .u64 0) w2 from
   ⟨0,0,[],true,[],Nat.zero_le _,rfl,rfl,Nat.le_refl _,⟨⟨rfl,.inl ⟨rfl,rfl⟩⟩,fun g e=>(by cases e),Q2.out⟩,(by intro e; cases e),m2.rd,fun K=>rfl,by rw [Bt.onto_nil]; rfl⟩)
  clear UI m2
  go_wp2
  go_loopw [7,22] (fun ov iv wr=>DcAt w b s x n ov iv wr) (fun _ iv _=>x - (intOf iv).toNat)
  case atStart=>exact START.out
  case round =>
   obtain ⟨k,d,us,fst,before,hk,rfl,hus,hkd,N,hnb,R,hfb,hon⟩:=hrel
   have HN:=Lib.hid N
   have HNB:=Lib.hid hnb
   have HR:=Lib.hid R
   have HFB:=Lib.hid hfb
   have HON:=Lib.hid hon
   have HUS:=Lib.hid hus
   have HKD:=Lib.hid hkd
   have HQ:=Lib.hid N.qt
   have ER:=Lib.hid (HE.out.kept N.qt (OffErrs.none ad))
   have HDS:=Lib.hid (show d<=s.size from by have:=R.le; omega)
   obtain ⟨oa,oc,rfl⟩:=ownG_shape N.own
   clear START N hnb R hfb hon
   by_cases hlt:k < x
   ·have zlt:decide ((k:Int) < (x:Int)) = true:=decide_eq_true (by omega)
    have zlt':decide (k < x) = true:=decide_eq_true hlt
    have hw1:IntKind.u64.wrap ((k:Int) + 1) = (k:Int) + 1:=by have:=HX.out; rw [IntKind.wrap_u64]; omega
    have HM:=Lib.hid (show x - (intOf (.int .u64 ((k:Int) + 1))).toNat < x - (intOf (.int .u64 (k:Int))).toNat by simp [intOf]; omega)
    have HLT:=Lib.hid hlt
    obtain ⟨g,hin,hg⟩:=ownG_in opC_len HN.out.own (by have:=HDS.out; have:=HS.out; omega)
    have hgb:us ≠ []->g ≠ b:=fun hne e=>by
     obtain ⟨g2,e2⟩:=ownG_some HN.out.own (by rw [List.length_pos_iff]; exact hne)
     subst e2
     have:=hg g2 rfl
     exact HNB.out (by rw [<- e,<- this]; rfl)
    have RB:=readBehind_any ad b s (n + d) fst before wr hin hgb HR.out ER.out HO.out HFB.out
    have hxk:x - k = (x - (k + 1)) + 1:=by omega
    clear hin hg hgb hlt hk hus hkd
    cases hod:Bt.opD fst before (rest s (n + d)) with
    | inl er =>
     have FD:=Lib.hid (show Bt.decD s.data.toList = .inl er from by
      have h1:=HON.out
      rw [hxk,Bt.onto_err hod] at h1
      unfold Bt.decD
      rw [HD.out]
      simp only
      rw [show s.data.toList.drop n = rest s n from rfl,<- h1])
     have EV:=Lib.hid (show errV ad er = .iface 335 (.pointer (some (ad er))) from errV_pos ad (by rcases Bt.opD_err hod with r | r | r | r | r | r <;> omega))
     rw [hod] at RB
     clear hod hxk
     go_wp2_with fail
     refine RB.mono ?_
     rintro e w3 ⟨⟨rfl,q,r3⟩,k3⟩
     rw [EV.out,show opV (⟨false,[],[]⟩:Bt.O) = .agg #[.bool false,.string ⟨#[]⟩,.string ⟨#[]⟩] from rfl]
     have Q3:=Lib.hid (Keeps.trans HQ.out k3 (fun i hi e=>by have:=HB.out; omega))
     clear RB r3 k3
     go_wp2
     go_ret2
     rw [FD.out]
     exact ⟨by rw [EV.out]; rfl,Q3.out.alloc _⟩
    | inr om =>
     obtain ⟨op,m⟩:=om
     have HON2:=Lib.hid (show Bt.onto (us ++ [op]) (d + m) (Bt.opsD (x - (k + 1)) false op.key (rest s (n + (d + m)))) = Bt.opsD x true [] (rest s n) from by
      have h1:=HON.out
      rw [hxk,Bt.onto_ok hod,rest_drop,Nat.add_assoc] at h1
      exact h1)
     obtain ⟨hm2,hml⟩:=Bt.opD_pos hod
     have HM2:=Lib.hid hm2
     rw [hod] at RB
     obtain ⟨K,hK⟩:∃ K:ByteArray,strV op.key = .string K:=⟨_,rfl⟩
     obtain ⟨V,hV⟩:∃ V:ByteArray,strV op.val = .string V:=⟨_,rfl⟩
     have OPV:=Lib.hid (show opV op = .agg #[.bool op.del,.string K,.string V] by unfold opV; rw [hK,hV])
     have HCV:=Lib.hid (show opC op = [.bool op.del,.string K,.string V] by unfold opC; rw [hK,hV])
     clear hod hxk hm2 hml hK hV
     go_wp2_with fail
     refine RB.mono ?_
     rintro e w3 ⟨⟨rfl,r3⟩,k3⟩
     rw [OPV.out]
     have OWN3:=Lib.hid (show w3.ownsRow 0 87 3 (.slice oa us.length oc) us.length (opsC us) from ownsRow_kept HN.out.own k3 (fun z e1 e2=>HNB.out (by rw [e1,e2])))
     have OW:=Lib.hid (fun o1 o2=>(show ((w3.alloc o1).alloc o2).ownsRow 0 87 3 (.slice oa us.length oc) us.length (opsC us) from ownsRow_kept OWN3.out (((Keeps.refl (fun _=>False) w3).alloc o1).alloc o2) (fun _ _ e=>e)))
     have Q3:=Lib.hid (show Qt w w3 from Keeps.trans HQ.out k3 (fun i hi e=>by have:=HB.out; omega))
     have R3:=Lib.hid r3
     have hb1:us.length + 1<=maxLen:=by have:=HS.out; have:=HDS.out; have:=HUS.out; have:=HKD.out; unfold maxLen; omega
     have hb2:(us.length + 1) * 40<=140737488355328:=by have:=HS.out; have:=HDS.out; have:=HUS.out; have:=HKD.out; omega
     clear RB r3 k3
     go_wp2_with (at_builtin; refine wpList_append_rows _ rfl _ _ 38 rfl 87 i0 (.agg #[.bool false,.string ⟨#[]⟩,.string ⟨#[]⟩]) 3 40 Tryz.underlying38 hi0 hz0 hz1 hz2 rfl (by decide) _ us.length (opsC us) rfl (OW.out _ _) (some ⟨w3.heap.size + 1,0,none⟩) 1 1 [.bool op.del,.string K,.string V] rfl rfl (fun _=>⟨_,rfl,fun j u h=>by have:=newsG (w3.alloc (.cells #[.bool op.del,.string K,.string V] 87)) [.bool op.del,.string K,.string V] 87 j u h; rw [show (w3.alloc (.cells #[.bool op.del,.string K,.string V] 87)).heap.size = w3.heap.size + 1 by simp] at this; exact this⟩) (by intro y hy; simp at hy; rcases hy with rfl | rfl | rfl <;> rfl) hb1 hb2 ?_)
     intro v5 w5 own5 gr5 la5
     have N5:=Lib.hid (ownG_more (f:=opC) (W:=w) (l:=us) (k:=[op]) HN.out.new ((Q3.out.alloc _).alloc _) (by simp) (by rw [cellsG_append,cellsG_one,HCV.out]) own5 gr5 la5)
     have FIN:=Lib.hid (show DcAt w b s x n v5 (.int .u64 ((k:Int) + 1)) w5 from
      ⟨k + 1,d + m,us ++ [op],false,op.key,HLT.out,by simp,by rw [List.length_append,List.length_singleton,HUS.out],by have:=HKD.out; have:=HM2.out; omega,N5.out,
       fun e=>by
        rcases la5 with e2 | ⟨z,e2,hz⟩
        ·exact HNB.out (e2 ▸ e)
        ·rw [e2] at e; have e3:=Option.some.inj e; have:=R3.out.lt; simp at hz; omega,
       by
        have h1:=(R3.out.alloc (.cells #[.bool op.del,.string K,.string V] 87)).alloc (.cells #[.bool op.del,.string K,.string V] 87)
        have h2:Keeps (fun z=>(Value.slice oa us.length oc).ownBlock = some z) _ w5:=Keeps.grown (S:=fun z=>(Value.slice oa us.length oc).ownBlock = some z) (Keeps.refl _ _) gr5 (fun z _ e=>e.symm)
        have h3:=h1.kept h2 HNB.out
        rw [Nat.add_assoc] at h3
        exact h3,
       fun K2=>risesB_snoc us op K2,HON2.out⟩)
     clear own5 gr5 la5
     obtain ⟨a5,c5,rfl⟩:=ownG_shape N5.out.own
     go_wp2
     exact ⟨FIN.out,HM.out⟩
   ·obtain rfl:k = x:=by omega
    have zlt:decide ((k:Int) < (k:Int)) = false:=decide_eq_false (by omega)
    have zlt':decide (k < k) = false:=decide_eq_false (by omega)
    have DN:=rdone_any ad b s (n + d) wr HR.out ER.out
    have HOS:=Lib.hid (show Bt.opsD k true [] (rest s n) = .inr (us,d) from by
     have h1:=HON.out
     rw [Nat.sub_self] at h1
     rw [<- h1]
     show Sum.inr (us ++ [],d + 0) = _
     simp)
    clear hlt hk hus hkd
    by_cases ht:n + d < s.size
    ·rw [if_pos ht,errV_pos ad (by decide)] at DN
     have FD:=Lib.hid (show Bt.decD s.data.toList = .inl 5 from by
      unfold Bt.decD
      rw [HD.out]
      simp only
      rw [show s.data.toList.drop n = rest s n from rfl,HOS.out]
      simp only
      rw [if_pos (by simpa using ht)])
     clear ht
     go_wp2_with fail
     refine DN.mono ?_
     rintro e w6 ⟨rfl,n6,rfl⟩
     go_wp2
     go_ret2
     rw [FD.out]
     exact ⟨rfl,HQ.out.drewN _⟩
    ·rw [if_neg ht,errV_zero] at DN
     have FD:=Lib.hid (show Bt.decD s.data.toList = .inr us from by
      unfold Bt.decD
      rw [HD.out]
      simp only
      rw [show s.data.toList.drop n = rest s n from rfl,HOS.out]
      simp only
      rw [if_neg (by simpa using ht)])
     clear ht
     go_wp2_with fail
     refine DN.mono ?_
     rintro e w6 ⟨rfl,n6,rfl⟩
     go_wp2
     go_ret2
     rw [FD.out]
     exact ⟨_,rfl,HN.out.quiet ((Qt.refl wr).drewN _)⟩
theorem decode12_ok (ad:Nat->Addr) {s:ByteArray} {os:List Bt.O} (w:World) (hs:s.size<=1099511627776) (hE:Errs ad w) (hD:Bt.decD s.data.toList = .inr os) :
  Calls Tryz.prog 150 #[.string s] w fun e w'=>∃ v,e = .returned (.tuple #[v,.nilIface])/\NewO w w' v os:=by
 have h:=decode12_any ad s w hs hE
 rw [hD] at h
 exact h
theorem decode12_err (ad:Nat->Addr) {s:ByteArray} {er:Nat} (w:World) (hs:s.size<=1099511627776) (hE:Errs ad w) (hD:Bt.decD s.data.toList = .inl er) :
  Calls Tryz.prog 150 #[.string s] w fun e w'=>e = .returned (.tuple #[.slice none 0 0,.iface 335 (.pointer (some (ad er)))])/\Qt w w':=by
 have h:=decode12_any ad s w hs hE
 rw [hD] at h
 have hx:=Bt.decD_err hD
 have he:errV ad er = .iface 335 (.pointer (some (ad er))):=errV_pos ad (by unfold Bt.ErrN at hx; omega)
 rw [<- he]
 exact h
theorem Errs.qt {ad:Nat->Addr} {w w':World} (h:Errs ad w) (q:Qt w w'):Errs ad w':=h.kept q (OffErrs.none ad)
end Go.Proofs.YthjjfjhajadimaaGreatDoor
