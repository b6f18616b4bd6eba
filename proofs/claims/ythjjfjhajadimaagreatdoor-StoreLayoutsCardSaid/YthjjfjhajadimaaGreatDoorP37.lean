/-
  Joined: OLogFor, OComp, BWt.
-/
import Derived.Test.YthjjfjhajadimaaGreatDoorP36
namespace Go.Proofs.YthjjfjhajadimaaGreatDoor
open Go.RowKit Go.WideShapes
set_option maxRecDepth 100000
def LogTo (n0 : Nat) (ad : Nat -> Addr) (w : World) (b v q : Nat) (fits : Bool) (r : Nat × DS) (S : Nat -> Prop) (e : Ending) (w' : World) : Prop :=
 if fits = true then e = .returned (.tuple #[.agg #[.int .i64 (v : Int), .pointer (some ⟨q, 0, none⟩)], .nilIface]) /\ Qt w w' else BegTo n0 ad w b (v + 1) r S e w'
def SmS (p b ea lg mn t k v : Nat) (W : World) : Prop := W.cell? ⟨p, 0, none⟩ = some (.pointer (some ⟨b, 0, none⟩)) /\ W.cell? ⟨p, 1, none⟩ = some (.int .i64 2) /\ W.cell? ⟨p, 2, none⟩ = some (.int .i64 (2 + (ea : Int))) /\ W.cell? ⟨p, 3, none⟩ = some (.int .i64 (ea : Int)) /\ W.cell? ⟨p, 4, none⟩ = some (.int .i64 (lg : Int)) /\ W.cell? ⟨p, 5, none⟩ = some (.int .i64 (mn : Int)) /\ W.cell? ⟨p, 7, none⟩ = some (ptrV t) /\ W.cell? ⟨p, 8, none⟩ = some (.int .i64 (k : Int)) /\ W.cell? ⟨p, 9, none⟩ = some (.int .i64 (v : Int))
theorem Sm.cells {W : World} {p b n life t k v q : Nat} (h : Sm W p b n life t k v q) : SmS p b (So.each n) (So.logAt n) (So.many n) t k v W :=
 ⟨Bk.cell h 0 _ rfl, Bk.cell h 1 _ rfl, Bk.cell h 2 _ rfl, Bk.cell h 3 _ rfl, Bk.cell h 4 _ rfl, Bk.cell h 5 _ rfl, Bk.cell h 7 _ rfl, Bk.cell h 8 _ rfl, Bk.cell h 9 _ rfl⟩
theorem BegTo.ok {n0 : Nat} {ad : Nat -> Addr} {w w' : World} {b v : Nat} {r : Nat × DS} {S : Nat -> Prop} {e : Ending} (h : BegTo n0 ad w b v r S e w') (hz : r.1 = 0) : ∃ S' q, e = .returned (.tuple #[.agg #[.int .i64 (v : Int), .pointer (some ⟨q, 0, none⟩)], .nilIface]) /\ DkTo n0 ad w b r.2 S w' S' /\ CJ w' q b (So.logOf r.2 v) /\ w.heap.size <= q /\ ¬ S' q := by
 obtain ⟨S', hd, hif⟩ := h
 rw [if_pos hz] at hif
 obtain ⟨q, e1, e2, e3, e4⟩ := hif
 exact ⟨S', q, e1, hd, e2, e3, e4⟩
theorem BegTo.no {n0 : Nat} {ad : Nat -> Addr} {w w' : World} {b v : Nat} {r : Nat × DS} {S : Nat -> Prop} {e : Ending} (h : BegTo n0 ad w b v r S e w') (hz : r.1 ≠ 0) : ∃ S', e = .returned (.tuple #[.agg #[.int .i64 0, .pointer none], .iface 335 (.pointer (some (ad r.1)))]) /\ DkTo n0 ad w b r.2 S w' S' := by
 obtain ⟨S', hd, hif⟩ := h
 rw [if_neg hz, errV_pos ad (Nat.pos_of_ne_zero hz)] at hif
 exact ⟨S', hif, hd⟩
section
variable {n0 : Nat} {ad : Nat -> Addr} {w : World} {b p q t v life : Nat} {d : DS} {S A : Nat -> Prop} {l : List Tb.R} {j : J.JS}
set_option maxHeartbeats 8000000 in
theorem logFor13_any (h : Dk n0 ad w b d S) (hf : d.FewS) (h64 : 64 <= d.dur.length) (hT : Tbl w t l A) (hs : So.size l <= So.room d.dur.length) (hv : v <= 1099511627776) (hM : Sm w p b d.dur.length life t (So.rowsB l).length v q) (hpS : ¬ S p) (hC : CJ w q b j) (hu : j.used <= j.n) (hn : j.n <= 65536) (z : Int) (hz : z <= 9223372036854775807) :
  Calls Tryz.prog 83 #[.pointer (some ⟨p, 0, none⟩), .int .i64 z] w (LogTo n0 ad w b v q (j.fits z) (So.nextR d l v) S) := by
 have hpw := hM.lt
 obtain ⟨W, hW, q0, bR, hzW⟩ := box_own w 138 #[.int .i64 0, .pointer none]
 have FT := jfits_any (hC.kept q0 (fun e => e)) hu hn z hz
 have BH := Lib.hid (fun W2 (x : Qt w W2) => behind13_any (h.qt x) hf h64 (hT.qt x) hs hv)
 have HD := Lib.hid h
 have MM := Lib.hid (fun W2 (x : Qt w W2) => hM.qt x)
 have HM := Lib.hid hM
 have HPS := Lib.hid hpS
 have HPW := Lib.hid hpw
 have Q0 := Lib.hid q0
 have BR := Lib.hid bR
 have HZ := Lib.hid hzW
 obtain ⟨R, hR⟩ : ∃ R, w.heap.size = R := ⟨_, rfl⟩
 have HR := Lib.hid hR
 rw [hR] at BR
 have HNS := Lib.hid (show ¬ S R from fun e => by have := h.lt R e; omega)
 have HN0 := Lib.hid (show n0 <= R from by have := h.base; omega)
 have c10 := Bk.cell (hM.qt q0) 10 _ rfl
 clear h hf h64 hT hs hC hu hn hz hpw hpS hM q0 bR hzW hv
 obtain ⟨k0, hk0⟩ : ∃ k, (So.rowsB l).length = k := ⟨_, rfl⟩
 rw [hk0] at BH MM HM
 clear hk0
 unfold contV layV at BH
 generalize d.dur.length = n at *
 cases hfit : j.fits z with
 | true =>
  rw [hfit] at FT
  go_enter Tryz.func83, Tryz.ntmps83
  go_wp2_with fail
  refine FT.mono ?_
  rintro e w1 ⟨rfl, q1⟩
  have M1 := MM.out _ (Qt.trans Q0.out q1)
  have c9 := Bk.cell M1 9 _ rfl
  have c10 := Bk.cell M1 10 _ rfl
  have B1 := Lib.hid (BR.out.qt q1)
  have r0 := B1.out.cell 0 _ rfl
  have r1 := B1.out.cell 1 _ rfl
  have s0 := B1.out.frozen 0
  have s1 := B1.out.frozen 1
  have FIN := Lib.hid (qt_set (qt_set (Qt.trans Q0.out q1) (Nat.le_of_eq HR.out) 0 (.int .i64 (v : Int))) (Nat.le_of_eq HR.out) 1 (.pointer (some ⟨q, 0, none⟩)))
  clear FT q1 M1
  go_wp2
  exact bodyPost_ret (results_log (p := 4) (u := 5) (by kernel_rfl) _ _ R _ _ rfl ((B1.out.set 0 (.int .i64 (v : Int))).set 1 (.pointer (some ⟨q, 0, none⟩)))) rfl (show LogTo n0 ad w b v q true _ S _ _ from ⟨rfl, FIN.out⟩)
 | false =>
  rw [hfit] at FT
  have TO := Lib.hid (fun (e : Ending) (w' : World) (x : BegTo n0 ad w b (v + 1) (So.nextR d l v) S e w') => (show LogTo n0 ad w b v q false (So.nextR d l v) S e w' from x))
  clear hfit
  generalize So.nextR d l v = r at *
  generalize hE1 : So.each n = ea at *
  generalize hE2 : So.logAt n = lg at *
  generalize hE3 : So.many n = mn at *
  have KP := Lib.hid (fun W' (x : Qt w W') => (show SmS p b ea lg mn t k0 v W' from by have k := (HM.out.qt x).cells; rwa [hE1, hE2, hE3] at k))
  have KD := Lib.hid (fun W1 W' d' S' (x : Qt w W1) (y : DkTo n0 ad W1 b d' S W' S') => (show SmS p b ea lg mn t k0 v W' from by have k := ((HM.out.qt x).kept y.keeps HPS.out).cells; rwa [hE1, hE2, hE3] at k))
  have KW := Lib.hid (fun W1 W' d' S' (x : Qt w W1) (y : DkTo n0 ad W1 b d' S W' S') u0 u1 => (show SmS p b ea lg mn t k0 v ((W'.setCell ⟨R, 0, none⟩ u0).setCell ⟨R, 1, none⟩ u1) from by
   have hne : ¬ p = R := fun e => by have := HPW.out; have := HR.out; omega
   have k := ((((HM.out.qt x).kept y.keeps HPS.out).kept (keeps_set W' R 0 u0) hne).kept (keeps_set _ R 1 u1) hne).cells
   rwa [hE1, hE2, hE3] at k))
  unfold SmS at KP KD KW
  clear hE1 hE2 hE3
  by_cases hz : r.1 = 0
  ·have BH2 := Lib.hid (fun W2 (x : Qt w W2) => (BH.out W2 x).mono fun e w' y => y.ok hz)
   have HZ0 := Lib.hid hz
   clear hz BH
   go_enter Tryz.func83, Tryz.ntmps83
   go_wp2_with fail
   refine FT.mono ?_
   rintro e w1 ⟨rfl, q1⟩
   have QW1 := Lib.hid (Qt.trans Q0.out q1)
   have B1 := Lib.hid (BR.out.qt q1)
   clear FT q1 c10
   go_wp2_with fail
   go_region_held3 (fun W' => W'.cell? ⟨p, 0, none⟩ = some (.pointer (some ⟨b, 0, none⟩)) /\ W'.cell? ⟨p, 1, none⟩ = some (.int .i64 2) /\ W'.cell? ⟨p, 2, none⟩ = some (.int .i64 (2 + (ea : Int))) /\ W'.cell? ⟨p, 3, none⟩ = some (.int .i64 (ea : Int)) /\ W'.cell? ⟨p, 4, none⟩ = some (.int .i64 (lg : Int)) /\ W'.cell? ⟨p, 5, none⟩ = some (.int .i64 (mn : Int)) /\ W'.cell? ⟨p, 7, none⟩ = some (ptrV t) /\ W'.cell? ⟨p, 8, none⟩ = some (.int .i64 (k0 : Int)) /\ W'.cell? ⟨p, 9, none⟩ = some (.int .i64 (v : Int)))
    (first | exact KP.out _ (Keeps.drew QW1.out) | exact KD.out _ _ _ _ (Keeps.drew QW1.out) hd | exact KW.out _ _ _ _ (Keeps.drew QW1.out) hd _ _)
    (first
     | (go_at_call 85; refine (BH2.out _ (Keeps.drew QW1.out)).mono ?_; rintro e w2 ⟨S', q', rfl, hd, hc, hq, hqs⟩; have B2 := (B1.out.drew).kept hd.keeps HNS.out; have r0 := B2.cell 0 _ rfl; have r1 := B2.cell 1 _ rfl; have s0 := B2.frozen 0; have s1 := B2.frozen 1))
   have NR : ¬ S' R := fun e => by
    rcases hd.all R e with x | x
    ·exact HNS.out x
    ·have := B1.out.lt
     have e3 : w1.drew.heap.size = w1.heap.size := rfl
     omega
   have HN0' := HN0.out
   have HRw : w.heap.size <= R := Nat.le_of_eq HR.out
   have TD := (HD.out.quiet (Keeps.drew QW1.out)).trans hd
   have hqR : ¬ q' = R := fun e => by
    have := B1.out.lt
    have e3 : w1.drew.heap.size = w1.heap.size := rfl
    omega
   have hqw : w.heap.size <= q' := by
    have := QW1.out.size
    have e3 : w1.drew.heap.size = w1.heap.size := rfl
    omega
   have FIN := Lib.hid (TO.out _ _ (beg_ok (v := v + 1) (r0 := r) (d5 := r.2) (show r = (0, r.2) by rw [<- HZ0.out]) ((TD.box HN0' HRw NR 0 (.int .i64 ((v + 1 : Nat) : Int))).box HN0' HRw NR 1 (.pointer (some ⟨q', 0, none⟩))) (CJ.kept (CJ.kept hc (keeps_set w2 R 0 (.int .i64 ((v + 1 : Nat) : Int))) hqR) (keeps_set _ R 1 (.pointer (some ⟨q', 0, none⟩))) hqR) hqw hqs))
   have BF := Lib.hid ((B2.set 0 (.int .i64 ((v + 1 : Nat) : Int))).set 1 (.pointer (some ⟨q', 0, none⟩)))
   clear hd hc hq hqs NR TD B2 hqR hqw
   go_wp2
   exact bodyPost_ret (results_log (p := 4) (u := 5) (by kernel_rfl) _ _ R _ _ rfl BF.out) rfl FIN.out
  ·have BH2 := Lib.hid (fun W2 (x : Qt w W2) => (BH.out W2 x).mono fun e w' y => y.no hz)
   have HZ0 := Lib.hid hz
   clear hz BH
   go_enter Tryz.func83, Tryz.ntmps83
   go_wp2_with fail
   refine FT.mono ?_
   rintro e w1 ⟨rfl, q1⟩
   have QW1 := Lib.hid (Qt.trans Q0.out q1)
   have B1 := Lib.hid (BR.out.qt q1)
   clear FT q1 c10
   go_wp2_with fail
   go_region_held3 (fun W' => W'.cell? ⟨p, 0, none⟩ = some (.pointer (some ⟨b, 0, none⟩)) /\ W'.cell? ⟨p, 1, none⟩ = some (.int .i64 2) /\ W'.cell? ⟨p, 2, none⟩ = some (.int .i64 (2 + (ea : Int))) /\ W'.cell? ⟨p, 3, none⟩ = some (.int .i64 (ea : Int)) /\ W'.cell? ⟨p, 4, none⟩ = some (.int .i64 (lg : Int)) /\ W'.cell? ⟨p, 5, none⟩ = some (.int .i64 (mn : Int)) /\ W'.cell? ⟨p, 7, none⟩ = some (ptrV t) /\ W'.cell? ⟨p, 8, none⟩ = some (.int .i64 (k0 : Int)) /\ W'.cell? ⟨p, 9, none⟩ = some (.int .i64 (v : Int)))
    (first | exact KP.out _ (Keeps.drew QW1.out) | exact KD.out _ _ _ _ (Keeps.drew QW1.out) hd | exact KW.out _ _ _ _ (Keeps.drew QW1.out) hd _ _)
    (first
     | (go_at_call 85; refine (BH2.out _ (Keeps.drew QW1.out)).mono ?_; rintro e w2 ⟨S', rfl, hd⟩; have B2 := (B1.out.drew).kept hd.keeps HNS.out; have r0 := B2.cell 0 _ rfl; have r1 := B2.cell 1 _ rfl; have s0 := B2.frozen 0; have s1 := B2.frozen 1))
   have NR : ¬ S' R := fun e => by
    rcases hd.all R e with x | x
    ·exact HNS.out x
    ·have := B1.out.lt
     have e3 : w1.drew.heap.size = w1.heap.size := rfl
     omega
   have HN0' := HN0.out
   have HRw : w.heap.size <= R := Nat.le_of_eq HR.out
   have TD := (HD.out.quiet (Keeps.drew QW1.out)).trans hd
   have FIN := Lib.hid (TO.out _ _ (beg_err (v := v + 1) (r0 := r) (r := r) rfl HZ0.out (errV_pos ad (Nat.pos_of_ne_zero HZ0.out)) ((TD.box HN0' HRw NR 0 (.int .i64 0)).box HN0' HRw NR 1 (.pointer none))))
   have BF := Lib.hid ((B2.set 0 (.int .i64 0)).set 1 (.pointer none))
   clear hd NR TD B2
   go_wp2
   exact bodyPost_ret (results_log (p := 4) (u := 5) (by kernel_rfl) _ _ R _ _ rfl BF.out) rfl FIN.out
end
theorem BegTo.okV {n0 : Nat} {ad : Nat -> Addr} {w w' : World} {b v : Nat} {r : Nat × DS} {S : Nat -> Prop} {e : Ending} {vi : Int} (h : BegTo n0 ad w b v r S e w') (hz : r.1 = 0) (hv : ((v : Nat) : Int) = vi) : ∃ S' q, e = .returned (.tuple #[.agg #[.int .i64 vi, .pointer (some ⟨q, 0, none⟩)], .nilIface]) /\ DkTo n0 ad w b r.2 S w' S' /\ CJ w' q b (So.logOf r.2 v) /\ w.heap.size <= q /\ ¬ S' q := by
 subst hv
 exact h.ok hz
def CmpTo (n0 : Nat) (ad : Nat -> Addr) (w : World) (b p n life t k v : Nat) (dn : Bool) (r : Nat × DS) (S : Nat -> Prop) (e : Ending) (w' : World) : Prop :=
 if dn = true then e = .returned (errV ad 12) /\ Qt w w'
 else if r.1 = 0 then ∃ S' q', e = .returned .nilIface /\ Dk n0 ad w' b r.2 S' /\ (∀ k, S' k -> S k \/ w.heap.size <= k) /\ Keeps (fun k => S k \/ k = p) w w' /\ Sm w' p b n life t k (v + 1) q' /\ CJ w' q' b (So.logOf r.2 (v + 1)) /\ w.heap.size <= q' /\ ¬ S' q' /\ ¬ S' p
 else ∃ S', e = .returned (errV ad r.1) /\ DkTo n0 ad w b r.2 S w' S'
section
variable {n0 : Nat} {ad : Nat -> Addr} {w : World} {b p q t v life : Nat} {d : DS} {S A : Nat -> Prop} {l : List Tb.R}
set_option maxHeartbeats 8000000 in
theorem compact13_any (h : Dk n0 ad w b d S) (hf : d.FewS) (h64 : 64 <= d.dur.length) (hT : Tbl w t l A) (hs : So.size l <= So.room d.dur.length) (hv : v <= 1099511627776) (hM : Sm w p b d.dur.length life t (So.rowsB l).length v q) (hpS : ¬ S p) (hp0 : n0 <= p) :
  Calls Tryz.prog 37 #[.pointer (some ⟨p, 0, none⟩)] w (CmpTo n0 ad w b p d.dur.length life t (So.rowsB l).length v (d.off || decide (d.cr ≠ life)) (So.nextR d l v) S) := by
 have hpw := hM.lt
 have DN := down_st h.disk hM
 have BH := Lib.hid (fun W2 (x : Qt w W2) => behind13_any (h.qt x) hf h64 (hT.qt x) hs hv)
 have HD := Lib.hid h
 have HM := Lib.hid hM
 have HPS := Lib.hid hpS
 have HPW := Lib.hid hpw
 have HP0 := Lib.hid hp0
 clear h hf h64 hT hs hpw hpS hM hv hp0
 obtain ⟨k0, hk0⟩ : ∃ k, (So.rowsB l).length = k := ⟨_, rfl⟩
 rw [hk0] at BH HM ⊢
 clear hk0
 unfold contV layV at BH
 obtain ⟨dn, hdn⟩ : ∃ x, (d.off || decide (d.cr ≠ life)) = x := ⟨_, rfl⟩
 rw [hdn] at DN ⊢
 clear hdn
 generalize d.dur.length = n at *
 cases dn with
 | true =>
  go_enter Tryz.func37, Tryz.ntmps37
  go_wp2_with fail
  refine DN.mono ?_
  rintro e w1 ⟨rfl, q1⟩
  have c12 : w1.cell? ⟨6, 0, none⟩ = some (.iface 335 (.pointer (some (ad 12)))) := (HD.out.qt q1).errs.cells 11 _ rfl
  have FIN := Lib.hid q1
  clear DN q1
  go_wp2
  exact bodyPost_ret (results_tmp (t := 2) rfl _ _ _) rfl (show CmpTo n0 ad w b p n life t k0 v true _ S _ _ from ⟨rfl, FIN.out⟩)
 | false =>
  have TO := Lib.hid (fun (e : Ending) (w' : World) (x : if (So.nextR d l v).1 = 0 then ∃ S' q', e = .returned .nilIface /\ Dk n0 ad w' b (So.nextR d l v).2 S' /\ (∀ k, S' k -> S k \/ w.heap.size <= k) /\ Keeps (fun k => S k \/ k = p) w w' /\ Sm w' p b n life t k0 (v + 1) q' /\ CJ w' q' b (So.logOf (So.nextR d l v).2 (v + 1)) /\ w.heap.size <= q' /\ ¬ S' q' /\ ¬ S' p else ∃ S', e = .returned (errV ad (So.nextR d l v).1) /\ DkTo n0 ad w b (So.nextR d l v).2 S w' S') => (show CmpTo n0 ad w b p n life t k0 v false (So.nextR d l v) S e w' from x))
  generalize So.nextR d l v = r at *
  generalize hE1 : So.each n = ea at *
  generalize hE2 : So.logAt n = lg at *
  generalize hE3 : So.many n = mn at *
  have KP := Lib.hid (fun W' (x : Qt w W') => (show SmS p b ea lg mn t k0 v W' from by have k := (HM.out.qt x).cells; rwa [hE1, hE2, hE3] at k))
  have KD := Lib.hid (fun W1 W' d' S' (x : Qt w W1) (y : DkTo n0 ad W1 b d' S W' S') => (show SmS p b ea lg mn t k0 v W' from by have k := ((HM.out.qt x).kept y.keeps HPS.out).cells; rwa [hE1, hE2, hE3] at k))
  have KA := Lib.hid (fun W1 W' d' S' (x : Qt w W1) (y : DkTo n0 ad W1 b d' S W' S') o => (show SmS p b ea lg mn t k0 v (W'.alloc o) from by have k := (((HM.out.qt x).kept y.keeps HPS.out).qt ((Qt.refl W').alloc o)).cells; rwa [hE1, hE2, hE3] at k))
  have KW := Lib.hid (fun W1 W' d' S' (x : Qt w W1) (y : DkTo n0 ad W1 b d' S W' S') o u0 u1 => (show SmS p b ea lg mn t k0 v (((W'.alloc o).setCell ⟨W'.heap.size, 0, none⟩ u0).setCell ⟨W'.heap.size, 1, none⟩ u1) from by
   have k := (((HM.out.qt x).kept y.keeps HPS.out).qt (qt_set (qt_set ((Qt.refl W').alloc o) (Nat.le_refl _) 0 u0) (Nat.le_refl _) 1 u1)).cells
   rwa [hE1, hE2, hE3] at k))
  have KV := Lib.hid (fun W1 W' d' S' R (x : Qt w W1) (y : DkTo n0 ad W1 b d' S W' S') (hR : w.heap.size <= R) u0 u1 => (show SmS p b ea lg mn t k0 v ((W'.setCell ⟨R, 0, none⟩ u0).setCell ⟨R, 1, none⟩ u1) from by
   have hne : ¬ p = R := fun e => by have := HPW.out; omega
   have k := ((((HM.out.qt x).kept y.keeps HPS.out).kept (keeps_set W' R 0 u0) hne).kept (keeps_set _ R 1 u1) hne).cells
   rwa [hE1, hE2, hE3] at k))
  unfold SmS at KP KD KA KW KV
  clear hE1 hE2 hE3
  by_cases hz : r.1 = 0
  ·obtain ⟨vi, hvi⟩ : ∃ x : Int, ((v + 1 : Nat) : Int) = x := ⟨_, rfl⟩
   have HVI := Lib.hid hvi
   clear hvi
   have BH2 := Lib.hid (fun W2 (x : Qt w W2) => (BH.out W2 x).mono fun e w' y => y.okV hz HVI.out)
   have TO2 := Lib.hid (fun e w' y => TO.out e w' (by rw [if_pos hz]; exact y))
   clear hz BH TO
   go_enter Tryz.func37, Tryz.ntmps37
   go_wp2_with fail
   refine DN.mono ?_
   rintro e w1 ⟨rfl, q1⟩
   have QW1 := Lib.hid q1
   have HW1 := Lib.hid (show w.heap.size <= w1.heap.size from q1.size)
   have HNR := Lib.hid (show ¬ S w1.heap.size from fun e => by have := HD.out.lt _ e; have := HW1.out; omega)
   clear DN q1
   go_wp2_with fail
   go_region_held3 (fun W' => W'.cell? ⟨p, 0, none⟩ = some (.pointer (some ⟨b, 0, none⟩)) /\ W'.cell? ⟨p, 1, none⟩ = some (.int .i64 2) /\ W'.cell? ⟨p, 2, none⟩ = some (.int .i64 (2 + (ea : Int))) /\ W'.cell? ⟨p, 3, none⟩ = some (.int .i64 (ea : Int)) /\ W'.cell? ⟨p, 4, none⟩ = some (.int .i64 (lg : Int)) /\ W'.cell? ⟨p, 5, none⟩ = some (.int .i64 (mn : Int)) /\ W'.cell? ⟨p, 7, none⟩ = some (ptrV t) /\ W'.cell? ⟨p, 8, none⟩ = some (.int .i64 (k0 : Int)) /\ W'.cell? ⟨p, 9, none⟩ = some (.int .i64 (v : Int)))
    (first | exact KP.out _ (Keeps.drew QW1.out) | exact KD.out _ _ _ _ (Keeps.drew QW1.out) hd | exact KA.out _ _ _ _ (Keeps.drew QW1.out) hd _ | exact KW.out _ _ _ _ (Keeps.drew QW1.out) hd _ _ _ | exact KP.out _ (Keeps.drew (QW1.out.alloc _)) | exact KD.out _ _ _ _ (Keeps.drew (QW1.out.alloc _)) hd | exact KV.out _ _ _ _ _ (Keeps.drew (QW1.out.alloc _)) hd HW1.out _ _)
    (first
     | (go_at_call 85; refine (BH2.out _ (Keeps.drew QW1.out)).mono ?_; rintro e w2 ⟨S', q', rfl, hd, hc, hq, hqs⟩)
     | (go_at_call 85; refine (BH2.out _ (Keeps.drew (QW1.out.alloc _))).mono ?_; rintro e w2 ⟨S', q', rfl, hd, hc, hq, hqs⟩; have B2 := ((Bk.new w1 138 #[.int .i64 0, .pointer none]).drew).kept hd.keeps HNR.out; have r0 := B2.cell 0 _ rfl; have r1 := B2.cell 1 _ rfl; have s0 := B2.frozen 0; have s1 := B2.frozen 1))
   ·have Q2 := Keeps.drew QW1.out
    have TD0 := (HD.out.quiet Q2).trans hd
    obtain ⟨W3, hW3, TD, B3, M3, GR⟩ : ∃ W3, w2.alloc (.cells #[.int .i64 vi, .pointer (some ⟨q', 0, none⟩)] 138) = W3 /\ DkTo n0 ad w b r.2 S W3 S' /\ Bk W3 w2.heap.size 138 [.int .i64 vi, .pointer (some ⟨q', 0, none⟩)] /\ Sm W3 p b n life t k0 v q /\ Keeps (fun k => k = w2.heap.size) w2 W3 :=
     ⟨_, rfl, TD0.qt ((Qt.refl _).alloc _), Bk.new w2 _ _, ((HM.out.qt Q2).kept hd.keeps HPS.out).qt ((Qt.refl _).alloc _), ((Qt.refl w2).alloc _).mono (fun _ _ e => e.elim)⟩
    obtain ⟨R, hR⟩ : ∃ R, w2.heap.size = R := ⟨_, rfl⟩
    have HRn := Lib.hid (show w.heap.size <= R from by have := TD0.keeps.size; omega)
    rw [hR] at B3 GR
    have hqR : ¬ q' = R := fun e => by have := hc.lt; omega
    have hqw : w.heap.size <= q' := by
     have e3 : w1.drew.heap.size = w1.heap.size := rfl
     have := HW1.out
     omega
    have HTD := Lib.hid TD
    have HM3 := Lib.hid M3
    have CQ3 := Lib.hid (CJ.kept hc GR hqR)
    have HQN := Lib.hid (show w.heap.size <= q' from hqw)
    have HQS := Lib.hid hqs
    have HPS' := Lib.hid (show ¬ S' p from fun e => by rcases TD.all _ e with x | x; exact HPS.out x; have := HPW.out; omega)
    have z0 := B3.cell 0 _ rfl
    have z1 := B3.cell 1 _ rfl
    have x9 := Bk.cell M3 9 _ rfl
    have x10 := Bk.cell M3 10 _ rfl
    have y9 := Bk.frozen M3 9
    have y10 := Bk.frozen M3 10
    have FIN := Lib.hid (TO2.out (.returned .nilIface) ((W3.setCell ⟨p, 9, none⟩ (.int .i64 vi)).setCell ⟨p, 10, none⟩ (.pointer (some ⟨q', 0, none⟩))) ⟨S', q', rfl, (HTD.out.dk.kept (keeps_set _ p 9 _) (fun k e => by have := HP0.out; omega) (fun k e e2 => HPS'.out (by have e2 : k = p := e2; rw [<- e2]; exact e))).kept (keeps_set _ p 10 _) (fun k e => by have := HP0.out; omega) (fun k e e2 => HPS'.out (by have e2 : k = p := e2; rw [<- e2]; exact e)), HTD.out.all, Keeps.trans (HTD.out.keeps.mono (fun _ _ e => .inl e)) (Keeps.trans (keeps_set _ p 9 _) (keeps_set _ p 10 _) (fun _ _ e => e)) (fun _ _ e => .inr e), (show Sm _ p b n life t k0 (v + 1) q' from by have k := Bk.set (Bk.set HM3.out 9 (.int .i64 vi)) 10 (.pointer (some ⟨q', 0, none⟩)); rw [<- HVI.out] at k ⊢; exact k), CJ.kept (CJ.kept CQ3.out (keeps_set _ p 9 _) (fun e => by have e : q' = p := e; have := HPW.out; have := HQN.out; omega)) (keeps_set _ p 10 _) (fun e => by have e : q' = p := e; have := HPW.out; have := HQN.out; omega), HQN.out, HQS.out, HPS'.out⟩)
    clear TD B3 M3 GR TD0 Q2 hd hc hq hqs hqR hqw
    go_wp2
    exact bodyPost_ret (results_tmp (t := 2) rfl _ _ _) rfl FIN.out
   ·have Q2 := Keeps.drew (QW1.out.alloc (.cells #[.int .i64 0, .pointer none] 138))
    have TD0 := (HD.out.quiet Q2).trans hd
    have hRS : ¬ S' w1.heap.size := fun e => by
     rcases hd.all _ e with x | x
     ·exact HNR.out x
     ·have e3 : (w1.alloc (.cells #[.int .i64 0, .pointer none] 138)).drew.heap.size = w1.heap.size + 1 := by show (w1.alloc _).heap.size = _; simp
      omega
    have hn0R : n0 <= w1.heap.size := by have := HD.out.base; have := HW1.out; omega
    obtain ⟨W3, hW3, TD, B3, M3, GR⟩ : ∃ W3, (w2.setCell ⟨w1.heap.size, 0, none⟩ (.int .i64 vi)).setCell ⟨w1.heap.size, 1, none⟩ (.pointer (some ⟨q', 0, none⟩)) = W3 /\ DkTo n0 ad w b r.2 S W3 S' /\ Bk W3 w1.heap.size 138 [.int .i64 vi, .pointer (some ⟨q', 0, none⟩)] /\ Sm W3 p b n life t k0 v q /\ Keeps (fun k => k = w1.heap.size) w2 W3 :=
     ⟨_, rfl, (TD0.box hn0R HW1.out hRS 0 _).box hn0R HW1.out hRS 1 _, (B2.set 0 _).set 1 _, (((HM.out.qt Q2).kept hd.keeps HPS.out).kept (keeps_set _ _ _ _) (fun e => by have := HPW.out; have := HW1.out; omega)).kept (keeps_set _ _ _ _) (fun e => by have := HPW.out; have := HW1.out; omega), Keeps.trans (keeps_set _ _ _ _) (keeps_set _ _ _ _) (fun _ _ e => e)⟩
    obtain ⟨R, hR⟩ : ∃ R, w1.heap.size = R := ⟨_, rfl⟩
    have HRn := Lib.hid (show w.heap.size <= R from by have := HW1.out; omega)
    rw [hR] at B3 GR hW3
    have hqR : ¬ q' = R := fun e => by
     have e3 : (w1.alloc (.cells #[.int .i64 0, .pointer none] 138)).drew.heap.size = w1.heap.size + 1 := by show (w1.alloc _).heap.size = _; simp
     omega
    have hqw : w.heap.size <= q' := by
     have e3 : (w1.alloc (.cells #[.int .i64 0, .pointer none] 138)).drew.heap.size = w1.heap.size + 1 := by show (w1.alloc _).heap.size = _; simp
     have := HW1.out
     omega
    have HTD := Lib.hid TD
    have HM3 := Lib.hid M3
    have CQ3 := Lib.hid (CJ.kept hc GR hqR)
    have HQN := Lib.hid (show w.heap.size <= q' from hqw)
    have HQS := Lib.hid hqs
    have HPS' := Lib.hid (show ¬ S' p from fun e => by rcases TD.all _ e with x | x; exact HPS.out x; have := HPW.out; omega)
    have z0 := B3.cell 0 _ rfl
    have z1 := B3.cell 1 _ rfl
    have x9 := Bk.cell M3 9 _ rfl
    have x10 := Bk.cell M3 10 _ rfl
    have y9 := Bk.frozen M3 9
    have y10 := Bk.frozen M3 10
    have FIN := Lib.hid (TO2.out (.returned .nilIface) ((W3.setCell ⟨p, 9, none⟩ (.int .i64 vi)).setCell ⟨p, 10, none⟩ (.pointer (some ⟨q', 0, none⟩))) ⟨S', q', rfl, (HTD.out.dk.kept (keeps_set _ p 9 _) (fun k e => by have := HP0.out; omega) (fun k e e2 => HPS'.out (by have e2 : k = p := e2; rw [<- e2]; exact e))).kept (keeps_set _ p 10 _) (fun k e => by have := HP0.out; omega) (fun k e e2 => HPS'.out (by have e2 : k = p := e2; rw [<- e2]; exact e)), HTD.out.all, Keeps.trans (HTD.out.keeps.mono (fun _ _ e => .inl e)) (Keeps.trans (keeps_set _ p 9 _) (keeps_set _ p 10 _) (fun _ _ e => e)) (fun _ _ e => .inr e), (show Sm _ p b n life t k0 (v + 1) q' from by have k := Bk.set (Bk.set HM3.out 9 (.int .i64 vi)) 10 (.pointer (some ⟨q', 0, none⟩)); rw [<- HVI.out] at k ⊢; exact k), CJ.kept (CJ.kept CQ3.out (keeps_set _ p 9 _) (fun e => by have e : q' = p := e; have := HPW.out; have := HQN.out; omega)) (keeps_set _ p 10 _) (fun e => by have e : q' = p := e; have := HPW.out; have := HQN.out; omega), HQN.out, HQS.out, HPS'.out⟩)
    clear TD B3 M3 GR TD0 Q2 hd hc hq hqs hqR hqw
    go_wp2
    exact bodyPost_ret (results_tmp (t := 2) rfl _ _ _) rfl FIN.out
  ·have BH2 := Lib.hid (fun W2 (x : Qt w W2) => (BH.out W2 x).mono fun e w' y => y.no hz)
   have TO2 := Lib.hid (fun e w' y => TO.out e w' (by rw [if_neg hz]; exact y))
   have HZ0 := Lib.hid (errV_pos ad (Nat.pos_of_ne_zero hz))
   clear hz BH TO
   go_enter Tryz.func37, Tryz.ntmps37
   go_wp2_with fail
   refine DN.mono ?_
   rintro e w1 ⟨rfl, q1⟩
   have QW1 := Lib.hid q1
   have HW1 := Lib.hid (show w.heap.size <= w1.heap.size from q1.size)
   have HNR := Lib.hid (show ¬ S w1.heap.size from fun e => by have := HD.out.lt _ e; have := HW1.out; omega)
   clear DN q1
   go_wp2_with fail
   go_region_held3 (fun W' => W'.cell? ⟨p, 0, none⟩ = some (.pointer (some ⟨b, 0, none⟩)) /\ W'.cell? ⟨p, 1, none⟩ = some (.int .i64 2) /\ W'.cell? ⟨p, 2, none⟩ = some (.int .i64 (2 + (ea : Int))) /\ W'.cell? ⟨p, 3, none⟩ = some (.int .i64 (ea : Int)) /\ W'.cell? ⟨p, 4, none⟩ = some (.int .i64 (lg : Int)) /\ W'.cell? ⟨p, 5, none⟩ = some (.int .i64 (mn : Int)) /\ W'.cell? ⟨p, 7, none⟩ = some (ptrV t) /\ W'.cell? ⟨p, 8, none⟩ = some (.int .i64 (k0 : Int)) /\ W'.cell? ⟨p, 9, none⟩ = some (.int .i64 (v : Int)))
    (first | exact KP.out _ (Keeps.drew QW1.out) | exact KD.out _ _ _ _ (Keeps.drew QW1.out) hd | exact KA.out _ _ _ _ (Keeps.drew QW1.out) hd _ | exact KW.out _ _ _ _ (Keeps.drew QW1.out) hd _ _ _ | exact KP.out _ (Keeps.drew (QW1.out.alloc _)) | exact KD.out _ _ _ _ (Keeps.drew (QW1.out.alloc _)) hd | exact KV.out _ _ _ _ _ (Keeps.drew (QW1.out.alloc _)) hd HW1.out _ _)
    (first
     | (go_at_call 85; refine (BH2.out _ (Keeps.drew QW1.out)).mono ?_; rintro e w2 ⟨S', rfl, hd⟩)
     | (go_at_call 85; refine (BH2.out _ (Keeps.drew (QW1.out.alloc _))).mono ?_; rintro e w2 ⟨S', rfl, hd⟩; have B2 := ((Bk.new w1 138 #[.int .i64 0, .pointer none]).drew).kept hd.keeps HNR.out; have r0 := B2.cell 0 _ rfl; have r1 := B2.cell 1 _ rfl; have s0 := B2.frozen 0; have s1 := B2.frozen 1))
   ·have Q2 := Keeps.drew QW1.out
    have TD0 := (HD.out.quiet Q2).trans hd
    obtain ⟨W3, hW3, TD, B3, M3, GR⟩ : ∃ W3, w2.alloc (.cells #[.int .i64 0, .pointer none] 138) = W3 /\ DkTo n0 ad w b r.2 S W3 S' /\ Bk W3 w2.heap.size 138 [.int .i64 0, .pointer none] /\ Sm W3 p b n life t k0 v q /\ Keeps (fun k => k = w2.heap.size) w2 W3 :=
     ⟨_, rfl, TD0.qt ((Qt.refl _).alloc _), Bk.new w2 _ _, ((HM.out.qt Q2).kept hd.keeps HPS.out).qt ((Qt.refl _).alloc _), ((Qt.refl w2).alloc _).mono (fun _ _ e => e.elim)⟩
    obtain ⟨R, hR⟩ : ∃ R, w2.heap.size = R := ⟨_, rfl⟩
    have HRn := Lib.hid (show w.heap.size <= R from by have := TD0.keeps.size; omega)
    rw [hR] at B3 GR
    have HTD := Lib.hid TD
    have z0 := B3.cell 0 _ rfl
    have z1 := B3.cell 1 _ rfl
    have FIN := Lib.hid (TO2.out (.returned (.iface 335 (.pointer (some (ad r.1))))) W3 ⟨S', by rw [HZ0.out], HTD.out⟩)
    clear TD B3 M3 GR TD0 Q2 hd
    go_wp2
    exact bodyPost_ret (results_tmp (t := 2) rfl _ _ _) rfl FIN.out
   ·have Q2 := Keeps.drew (QW1.out.alloc (.cells #[.int .i64 0, .pointer none] 138))
    have TD0 := (HD.out.quiet Q2).trans hd
    have hRS : ¬ S' w1.heap.size := fun e => by
     rcases hd.all _ e with x | x
     ·exact HNR.out x
     ·have e3 : (w1.alloc (.cells #[.int .i64 0, .pointer none] 138)).drew.heap.size = w1.heap.size + 1 := by show (w1.alloc _).heap.size = _; simp
      omega
    have hn0R : n0 <= w1.heap.size := by have := HD.out.base; have := HW1.out; omega
    obtain ⟨W3, hW3, TD, B3, M3, GR⟩ : ∃ W3, (w2.setCell ⟨w1.heap.size, 0, none⟩ (.int .i64 0)).setCell ⟨w1.heap.size, 1, none⟩ (.pointer none) = W3 /\ DkTo n0 ad w b r.2 S W3 S' /\ Bk W3 w1.heap.size 138 [.int .i64 0, .pointer none] /\ Sm W3 p b n life t k0 v q /\ Keeps (fun k => k = w1.heap.size) w2 W3 :=
     ⟨_, rfl, (TD0.box hn0R HW1.out hRS 0 _).box hn0R HW1.out hRS 1 _, (B2.set 0 _).set 1 _, (((HM.out.qt Q2).kept hd.keeps HPS.out).kept (keeps_set _ _ _ _) (fun e => by have := HPW.out; have := HW1.out; omega)).kept (keeps_set _ _ _ _) (fun e => by have := HPW.out; have := HW1.out; omega), Keeps.trans (keeps_set _ _ _ _) (keeps_set _ _ _ _) (fun _ _ e => e)⟩
    obtain ⟨R, hR⟩ : ∃ R, w1.heap.size = R := ⟨_, rfl⟩
    have HRn := Lib.hid (show w.heap.size <= R from by have := HW1.out; omega)
    rw [hR] at B3 GR hW3
    have HTD := Lib.hid TD
    have z0 := B3.cell 0 _ rfl
    have z1 := B3.cell 1 _ rfl
    have FIN := Lib.hid (TO2.out (.returned (.iface 335 (.pointer (some (ad r.1))))) W3 ⟨S', by rw [HZ0.out], HTD.out⟩)
    clear TD B3 M3 GR TD0 Q2 hd
    go_wp2
    exact bodyPost_ret (results_tmp (t := 2) rfl _ _ _) rfl FIN.out
end
namespace Bt
def wt (ops : List O) : Nat := (ops.map fun o => o.key.length + o.val.length + 4).sum
theorem textB_le {t : Tb.Txt} (h : t.length <= 1048576) : (Go.Proofs.YthjjfjhajadimaaGreatDoor.textB t).length <= t.length + 10 := by
 unfold Go.Proofs.YthjjfjhajadimaaGreatDoor.textB
 have := Lib.uvarint_length64 (x := t.length) (by omega)
 rw [List.length_append]
 omega
theorem opB_le {o : O} (hk : o.key.length <= 1048576) (hv : o.val.length <= 1048576) : (opB o).length <= 2097173 := by
 have h1 := textB_le hk
 have h2 := textB_le hv
 unfold opB
 split
 ·rw [List.length_cons]; omega
 ·rw [List.length_cons, List.length_append]; omega
theorem opsB_most : ∀ (ops : List O), (∀ o ∈ ops, o.key.length <= 1048576 /\ o.val.length <= 1048576) -> (opsB ops).length <= ops.length * 2097173
 | [], _ => Nat.zero_le _
 | o :: os, h => by
  have ih := opsB_most os (fun p hp => h p (by simp [hp]))
  have h0 := opB_le (h o (by simp)).1 (h o (by simp)).2
  have e : opsB (o :: os) = opB o ++ opsB os := by simp [opsB]
  rw [e, List.length_append, List.length_cons]
  omega
theorem encB_most {ops : List O} (hl : ops.length <= 262144) (h : ∀ o ∈ ops, o.key.length <= 1048576 /\ o.val.length <= 1048576) : (encB ops).length <= 549762596864 := by
 have h1 := opsB_most ops h
 have h2 := Lib.uvarint_length64 (x := ops.length) (by omega)
 unfold encB
 rw [List.length_append]
 omega
end Bt
end Go.Proofs.YthjjfjhajadimaaGreatDoor
