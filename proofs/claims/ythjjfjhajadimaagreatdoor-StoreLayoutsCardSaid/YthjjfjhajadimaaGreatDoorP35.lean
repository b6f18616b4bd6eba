/-
  Joined: OBytes, OCiP.
-/
import Derived.Test.YthjjfjhajadimaaGreatDoorP34
namespace Go.Proofs.YthjjfjhajadimaaGreatDoor
open Go.RowKit Go.WideShapes
set_option maxRecDepth 100000
def BytesP (r : Option Nat) (w : World) (e : Ending) (w' : World) : Prop := (match r with | some k => e = .returned (.int .i64 ((k : Nat) : Int)) | none => e = .panicked [{ v := .iface 163 (.agg #[]), recovered := false }]) /\ Qt w w'
theorem bytes_none {r : Option Nat} {w w' : World} (h : r = none) (q : Qt w w') : BytesP r w (.panicked [{ v := .iface 163 (.agg #[]), recovered := false }]) w' := by subst h; exact ⟨rfl, q⟩
theorem bytes_some {r : Option Nat} {k : Nat} {w w' : World} (h : r = some k) (q : Qt w w') : BytesP r w (.returned (.int .i64 ((k : Nat) : Int))) w' := by subst h; exact ⟨rfl, q⟩
theorem moved_qt {w W W' : World} {R : Nat} {s : ByteArray} {p : Nat} (q : Qt w W) (m : Moved R s p W W') (hR : w.heap.size <= R) : Qt w W' := Keeps.trans (S := fun _ => False) q m.keeps (fun i hi e => by have e : i = R := e; omega)
set_option maxHeartbeats 8000000 in
theorem bytesIn13_any (ad : Nat -> Addr) {b : Nat} {d : DS} {S : Nat -> Prop} (s : ByteArray) (hs : s.size <= 140737488355328) (w : World) (hE : Errs ad w) (h : DiskAt w b d S) :
  Calls Tryz.prog 145 #[layV b d.dur.length, .string s] w (BytesP (So.parse d.dur.length s.data.toList) w) := by
 have hmax : d.dur.length <= 65536 := by obtain ⟨gd, mb, uv, P, _⟩ := h; exact P.ok.le
 have SZ := Lib.hid (fun W (q : Qt w W) => size_same (DiskAt.qt h q))
 have EK := Lib.hid (fun W (q : Qt w W) => (show Errs ad W from hE.kept q (OffErrs.none ad)))
 clear h hE
 obtain ⟨n, hn⟩ : ∃ n, d.dur.length = n := ⟨_, rfl⟩
 rw [hn] at hmax SZ ⊢
 clear hn
 have RM := Lib.hid (fun W => room13_any b n (by unfold So.each; omega) W)
 have HRM := Lib.hid (show So.room n <= 5111574 by unfold So.room So.each; omega)
 have HMAX := Lib.hid hmax
 obtain ⟨W0, hW0, q0, bL, hz0⟩ := box_own w 135 (layCells b n)
 have HS := Lib.hid hs
 have RD := rread_any s W0 hs
 have Q0 := Lib.hid q0
 have HZ0 := Lib.hid hz0
 unfold layV at RM ⊢
 unfold layCells at RM bL hW0
 have BL := Lib.hid bL
 obtain ⟨R, hR⟩ : ∃ R, W0.heap.size = R := ⟨_, rfl⟩
 rw [hR] at RD
 have HR := Lib.hid (show w.heap.size <= R by omega)
 have HRne := Lib.hid (show w.heap.size ≠ R by omega)
 have PR := Lib.hid (show So.parse n s.data.toList = match varintD (rest s 0) with | .inl _ => none | .inr (x, p) => if x ≠ n then none else match varintD (rest s p) with | .inl _ => none | .inr (k, q) => if So.room n < k then none else if p + q = s.size then some k else none from rfl)
 generalize So.parse n s.data.toList = PP at *
 generalize hE1 : So.each n = ea at *
 generalize hE2 : So.logAt n = lg at *
 generalize hE3 : So.many n = mn at *
 clear hE1 hE2 hE3 hz0 bL q0 hs hmax hR
 generalize hA : varintD (rest s 0) = r1 at *
 have HA := Lib.hid hA
 clear hA
 rcases r1 with e1 | ⟨x, p⟩
 ·have NO := Lib.hid (show PP = none from PR.out)
  go_enter Tryz.func145, Tryz.ntmps145
  go_wp2_with fail
  refine RD.mono ?_
  rintro e w1 ⟨rfl, rd1, k1⟩
  have Q1 := Lib.hid (Qt.trans Q0.out k1)
  have BL1 := Lib.hid (BL.out.qt k1)
  have U1 := rupto_err ad R s 0 e1 65536 w1 rd1 (EK.out _ Q1.out) HA.out
  clear rd1 k1 RD
  go_wp2_with fail
  refine U1.mono ?_
  rintro e w2 ⟨rfl, m2⟩
  have Q2 := Lib.hid (moved_qt Q1.out m2 HR.out)
  have BL2 := Lib.hid (BL1.out.kept m2.keeps HRne.out)
  have RD2 := Lib.hid m2.rd
  clear m2 U1
  have MN := mustI_no (.int .i64 0) 335 (.pointer (some (ad e1))) w2
  unfold brokenE at MN
  go_wp2_with fail
  refine MN.mono ?_
  rintro e w9 ⟨rfl, rfl⟩
  have FIN := Lib.hid (bytes_none (show PP = none from NO.out) Q2.out)
  clear MN
  go_wp2
  exact ⟨rfl, FIN.out⟩
 ·by_cases hx : (65536 : Int) < (x : Int)
  ·have NO := Lib.hid (show PP = none from by rw [PR.out]; exact if_pos (fun e => by have := HMAX.out; omega))
   go_enter Tryz.func145, Tryz.ntmps145
   go_wp2_with fail
   refine RD.mono ?_
   rintro e w1 ⟨rfl, rd1, k1⟩
   have Q1 := Lib.hid (Qt.trans Q0.out k1)
   have BL1 := Lib.hid (BL.out.qt k1)
   have U1 := rupto_limit ad R s 0 x p 65536 w1 rd1 (EK.out _ Q1.out) HA.out hx (by decide)
   clear rd1 k1 RD
   go_wp2_with fail
   refine U1.mono ?_
   rintro e w2 ⟨rfl, m2⟩
   have Q2 := Lib.hid (moved_qt Q1.out m2 HR.out)
   have BL2 := Lib.hid (BL1.out.kept m2.keeps HRne.out)
   have RD2 := Lib.hid m2.rd
   clear m2 U1
   have MN := mustI_no (.int .i64 0) 335 (.pointer (some (ad 3))) w2
   unfold brokenE at MN
   go_wp2_with fail
   refine MN.mono ?_
   rintro e w9 ⟨rfl, rfl⟩
   have FIN := Lib.hid (bytes_none (show PP = none from NO.out) Q2.out)
   clear MN
   go_wp2
   exact ⟨rfl, FIN.out⟩
  ·have hx2 : (x : Int) <= 65536 := by omega
   have PR2 := Lib.hid (show PP = (if x ≠ n then none else match varintD (rest s p) with | .inl _ => none | .inr (k, q) => if So.room n < k then none else if p + q = s.size then some k else none) from PR.out)
   clear PR
   generalize hB : varintD (rest s p) = r2 at *
   have HB := Lib.hid hB
   have HX2 := Lib.hid hx2
   clear hB hx hx2
   rcases r2 with e2 | ⟨k, q⟩
   ·have NO := Lib.hid (show PP = none from by rw [PR2.out]; by_cases hxn : x ≠ n; exact if_pos hxn; rw [if_neg hxn])
    go_enter Tryz.func145, Tryz.ntmps145
    go_wp2_with fail
    refine RD.mono ?_
    rintro e w1 ⟨rfl, rd1, k1⟩
    have Q1 := Lib.hid (Qt.trans Q0.out k1)
    have BL1 := Lib.hid (BL.out.qt k1)
    have U1 := rupto_ok ad R s 0 x p 65536 w1 rd1 (EK.out _ Q1.out) HA.out HX2.out (by decide)
    clear rd1 k1 RD
    go_wp2_with fail
    refine U1.mono ?_
    rintro e w2 ⟨rfl, m2⟩
    have Q2 := Lib.hid (moved_qt Q1.out m2 HR.out)
    have BL2 := Lib.hid (BL1.out.kept m2.keeps HRne.out)
    have RD2 := Lib.hid m2.rd
    clear m2 U1
    rw [Nat.zero_add] at RD2
    have MN := mustI_ok (.int .i64 (x : Int)) w2
    go_wp2_with fail
    refine MN.mono ?_
    rintro e w9 ⟨rfl, rfl⟩
    clear MN
    have RM2 := RM.out w9
    have l0 := BL2.out.cell 0 _ rfl
    have l1 := BL2.out.cell 1 _ rfl
    have l2 := BL2.out.cell 2 _ rfl
    have l3 := BL2.out.cell 3 _ rfl
    have l4 := BL2.out.cell 4 _ rfl
    have l5 := BL2.out.cell 5 _ rfl
    go_wp2_with fail
    refine RM2.mono ?_
    rintro e w3 ⟨rfl, hw3⟩
    have q3 : Qt w9 w3 := hw3 ▸ (Qt.refl w9).alloc _
    have Q3 := Lib.hid (Qt.trans Q2.out q3)
    have BL3 := Lib.hid (BL2.out.qt q3)
    have RD3 := Lib.hid (RD2.out.kept q3 (fun e => e))
    clear hw3 q3 RM2 l0 l1 l2 l3 l4 l5
    have U3 := rupto_err ad R s p e2 ((So.room n : Nat) : Int) w3 RD3.out (EK.out _ Q3.out) HB.out
    go_wp2_with fail
    refine U3.mono ?_
    rintro e w4 ⟨rfl, m4⟩
    have Q4 := Lib.hid (moved_qt Q3.out m4 HR.out)
    have BL4 := Lib.hid (BL3.out.kept m4.keeps HRne.out)
    have RD4 := Lib.hid m4.rd
    clear m4 U3
    have MN := mustI_no (.int .i64 0) 335 (.pointer (some (ad e2))) w4
    unfold brokenE at MN
    go_wp2_with fail
    refine MN.mono ?_
    rintro e w9 ⟨rfl, rfl⟩
    have FIN := Lib.hid (bytes_none (show PP = none from NO.out) Q4.out)
    clear MN
    go_wp2
    exact ⟨rfl, FIN.out⟩
   ·by_cases hk : So.room n < k
    ·have NO := Lib.hid (show PP = none from by rw [PR2.out]; by_cases hxn : x ≠ n; exact if_pos hxn; rw [if_neg hxn]; exact if_pos hk)
     have HK := Lib.hid (show ((So.room n : Nat) : Int) < (k : Int) by omega)
     clear hk
     go_enter Tryz.func145, Tryz.ntmps145
     go_wp2_with fail
     refine RD.mono ?_
     rintro e w1 ⟨rfl, rd1, k1⟩
     have Q1 := Lib.hid (Qt.trans Q0.out k1)
     have BL1 := Lib.hid (BL.out.qt k1)
     have U1 := rupto_ok ad R s 0 x p 65536 w1 rd1 (EK.out _ Q1.out) HA.out HX2.out (by decide)
     clear rd1 k1 RD
     go_wp2_with fail
     refine U1.mono ?_
     rintro e w2 ⟨rfl, m2⟩
     have Q2 := Lib.hid (moved_qt Q1.out m2 HR.out)
     have BL2 := Lib.hid (BL1.out.kept m2.keeps HRne.out)
     have RD2 := Lib.hid m2.rd
     clear m2 U1
     rw [Nat.zero_add] at RD2
     have MN := mustI_ok (.int .i64 (x : Int)) w2
     go_wp2_with fail
     refine MN.mono ?_
     rintro e w9 ⟨rfl, rfl⟩
     clear MN
     have RM2 := RM.out w9
     have l0 := BL2.out.cell 0 _ rfl
     have l1 := BL2.out.cell 1 _ rfl
     have l2 := BL2.out.cell 2 _ rfl
     have l3 := BL2.out.cell 3 _ rfl
     have l4 := BL2.out.cell 4 _ rfl
     have l5 := BL2.out.cell 5 _ rfl
     go_wp2_with fail
     refine RM2.mono ?_
     rintro e w3 ⟨rfl, hw3⟩
     have q3 : Qt w9 w3 := hw3 ▸ (Qt.refl w9).alloc _
     have Q3 := Lib.hid (Qt.trans Q2.out q3)
     have BL3 := Lib.hid (BL2.out.qt q3)
     have RD3 := Lib.hid (RD2.out.kept q3 (fun e => e))
     clear hw3 q3 RM2 l0 l1 l2 l3 l4 l5
     have U3 := rupto_limit ad R s p k q ((So.room n : Nat) : Int) w3 RD3.out (EK.out _ Q3.out) HB.out HK.out (by have := HRM.out; omega)
     go_wp2_with fail
     refine U3.mono ?_
     rintro e w4 ⟨rfl, m4⟩
     have Q4 := Lib.hid (moved_qt Q3.out m4 HR.out)
     have BL4 := Lib.hid (BL3.out.kept m4.keeps HRne.out)
     have RD4 := Lib.hid m4.rd
     clear m4 U3
     have MN := mustI_no (.int .i64 0) 335 (.pointer (some (ad 3))) w4
     unfold brokenE at MN
     go_wp2_with fail
     refine MN.mono ?_
     rintro e w9 ⟨rfl, rfl⟩
     have FIN := Lib.hid (bytes_none (show PP = none from NO.out) Q4.out)
     clear MN
     go_wp2
     exact ⟨rfl, FIN.out⟩
    ·have HK := Lib.hid (show (k : Int) <= ((So.room n : Nat) : Int) by omega)
     have HK2 := Lib.hid hk
     clear hk
     go_enter Tryz.func145, Tryz.ntmps145
     go_wp2_with fail
     refine RD.mono ?_
     rintro e w1 ⟨rfl, rd1, k1⟩
     have Q1 := Lib.hid (Qt.trans Q0.out k1)
     have BL1 := Lib.hid (BL.out.qt k1)
     have U1 := rupto_ok ad R s 0 x p 65536 w1 rd1 (EK.out _ Q1.out) HA.out HX2.out (by decide)
     clear rd1 k1 RD
     go_wp2_with fail
     refine U1.mono ?_
     rintro e w2 ⟨rfl, m2⟩
     have Q2 := Lib.hid (moved_qt Q1.out m2 HR.out)
     have BL2 := Lib.hid (BL1.out.kept m2.keeps HRne.out)
     have RD2 := Lib.hid m2.rd
     clear m2 U1
     rw [Nat.zero_add] at RD2
     have MN := mustI_ok (.int .i64 (x : Int)) w2
     go_wp2_with fail
     refine MN.mono ?_
     rintro e w9 ⟨rfl, rfl⟩
     clear MN
     have RM2 := RM.out w9
     have l0 := BL2.out.cell 0 _ rfl
     have l1 := BL2.out.cell 1 _ rfl
     have l2 := BL2.out.cell 2 _ rfl
     have l3 := BL2.out.cell 3 _ rfl
     have l4 := BL2.out.cell 4 _ rfl
     have l5 := BL2.out.cell 5 _ rfl
     go_wp2_with fail
     refine RM2.mono ?_
     rintro e w3 ⟨rfl, hw3⟩
     have q3 : Qt w9 w3 := hw3 ▸ (Qt.refl w9).alloc _
     have Q3 := Lib.hid (Qt.trans Q2.out q3)
     have BL3 := Lib.hid (BL2.out.qt q3)
     have RD3 := Lib.hid (RD2.out.kept q3 (fun e => e))
     clear hw3 q3 RM2 l0 l1 l2 l3 l4 l5
     have U3 := rupto_ok ad R s p k q ((So.room n : Nat) : Int) w3 RD3.out (EK.out _ Q3.out) HB.out HK.out (by have := HRM.out; omega)
     go_wp2_with fail
     refine U3.mono ?_
     rintro e w4 ⟨rfl, m4⟩
     have Q4 := Lib.hid (moved_qt Q3.out m4 HR.out)
     have BL4 := Lib.hid (BL3.out.kept m4.keeps HRne.out)
     have RD4 := Lib.hid m4.rd
     clear m4 U3
     have MK := mustI_ok (.int .i64 (k : Int)) w4
     go_wp2_with fail
     refine MK.mono ?_
     rintro e w9 ⟨rfl, rfl⟩
     clear MK
     have SZ4 := SZ.out w9 Q4.out
     have l0 := BL4.out.cell 0 _ rfl
     have LE4 := RD4.out.le
     by_cases hxn : x = n
     ·have y : ((x : Int) == (n : Int)) = true := beq_iff_eq.2 (by omega)
      have y' : (x == n) = true := beq_iff_eq.2 hxn
      have HXN := Lib.hid hxn
      clear hxn
      by_cases hd : p + q < s.size
      ·have NO := Lib.hid (show PP = none from by rw [PR2.out]; exact (if_neg (fun e => e HXN.out)).trans ((if_neg HK2.out).trans (if_neg (by omega))))
       have DN := rdone_any ad R s (p + q) w9 RD4.out (EK.out _ Q4.out)
       rw [if_pos hd, errV_pos ad (by decide)] at DN
       have NN := fun (m : Nat) => need_no (w9.drewN m)
       unfold brokenE at NN
       clear hd LE4
       go_wp2_with fail
       refine SZ4.mono ?_
       rintro e w5 ⟨rfl, rfl⟩
       go_wp2_with fail
       refine DN.mono ?_
       rintro e w6 ⟨rfl, m, rfl⟩
       have NM := NN m
       have FIN := Lib.hid (bytes_none NO.out (Keeps.drewN Q4.out m))
       clear NN DN SZ4
       go_wp2_with fail
       refine NM.mono ?_
       rintro e w7 ⟨rfl, rfl⟩
       go_wp2
       exact ⟨rfl, FIN.out⟩
      ·have YES := Lib.hid (show PP = some k from by rw [PR2.out]; exact (if_neg (fun e => e HXN.out)).trans ((if_neg HK2.out).trans (if_pos (by omega))))
       have DN := rdone_any ad R s (p + q) w9 RD4.out (EK.out _ Q4.out)
       rw [if_neg hd, errV_zero] at DN
       have NN := fun (m : Nat) => need_ok (w9.drewN m)
       clear hd LE4
       go_wp2_with fail
       refine SZ4.mono ?_
       rintro e w5 ⟨rfl, rfl⟩
       go_wp2_with fail
       refine DN.mono ?_
       rintro e w6 ⟨rfl, m, rfl⟩
       have NM := NN m
       have FIN := Lib.hid (bytes_some YES.out (Keeps.drewN Q4.out m))
       clear NN DN SZ4
       go_wp2_with fail
       refine NM.mono ?_
       rintro e w7 ⟨rfl, rfl⟩
       go_wp2
       exact bodyPost_ret (results_tmp (t := 4) rfl _ _ _) rfl FIN.out
     ·have y : ((x : Int) == (n : Int)) = false := beq_eq_false_iff_ne.2 (by omega)
      have y' : (x == n) = false := beq_eq_false_iff_ne.2 hxn
      have FIN := Lib.hid (bytes_none (show PP = none from by rw [PR2.out]; exact if_pos hxn) Q4.out)
      have NN := need_no w9
      unfold brokenE at NN
      clear hxn
      go_wp2_with fail
      refine SZ4.mono ?_
      rintro e w5 ⟨rfl, rfl⟩
      go_wp2_with fail
      refine NN.mono ?_
      rintro e w7 ⟨rfl, rfl⟩
      go_wp2
      exact ⟨rfl, FIN.out⟩
end Go.Proofs.YthjjfjhajadimaaGreatDoor
namespace Go.Proofs.YthjjfjhajadimaaGreatDoor
namespace So
open Tb
def mkO (r : R) : Bt.O := ⟨false, r.1, r.2⟩
def ontoR (us : List R) (d : Nat) : Option (List R × Nat) -> Option (List R × Nat)
 | none => none
 | some (rs, m) => some (us ++ rs, d + m)
theorem ontoR_nil (r : Option (List R × Nat)) : ontoR [] 0 r = r := by
 cases r with
 | none => rfl
 | some p => obtain ⟨rs, m⟩ := p; simp [ontoR]
theorem ontoR_ok {most : Int} {fst : Bool} {before l : Txt} {r : R} {n : Nat} (h : rowD most fst before l = some (r, n)) (us : List R) (d k : Nat) : ontoR us d (rowsD most (k + 1) fst before l) = ontoR (us ++ [r]) (d + n) (rowsD most k false r.1 (l.drop n)) := by
 rw [rowsD, h]
 simp only
 cases rowsD most k false r.1 (l.drop n) with
 | none => rfl
 | some p => obtain ⟨rs, m⟩ := p; simp [ontoR, Nat.add_assoc]
theorem ontoR_no {most : Int} {fst : Bool} {before l : Txt} (h : rowD most fst before l = none) (us : List R) (d k : Nat) : ontoR us d (rowsD most (k + 1) fst before l) = none := by
 rw [rowsD, h]
 rfl
theorem snap_no {l : Txt} {x n : Nat} (h : varintD l = .inr (x, n)) (hr : rowsD l.length x true [] (l.drop n) = none) : snapD l = none := by
 unfold snapD
 rw [h]
 simp only
 split
 ·rfl
 ·rw [hr]
theorem snap_yes {l : Txt} {x n d : Nat} {us : List R} (h : varintD l = .inr (x, n)) (hr : rowsD l.length x true [] (l.drop n) = some (us, d)) (hd : n + d = l.length) (hk : x <= d) : snapD l = some us := by
 unfold snapD
 rw [h]
 simp only
 rw [if_neg (by omega), hr]
 simp only
 rw [if_pos hd]
theorem snap_tail {l : Txt} {x n d : Nat} {us : List R} (h : varintD l = .inr (x, n)) (hr : rowsD l.length x true [] (l.drop n) = some (us, d)) (hd : n + d ≠ l.length) : snapD l = none := by
 unfold snapD
 rw [h]
 simp only
 split
 ·rfl
 ·rw [hr]
  simp only
  rw [if_neg hd]
theorem mk_codes (us : List R) : Bt.codes (us.map mkO) = us.map fun r => (r.1, (Bt.code (mkO r)).2) := by
 unfold Bt.codes
 rw [List.map_map]
 refine List.map_congr_left fun r _ => ?_
 rfl
theorem mk_norm {us : List R} (h : Sorted us) : Bt.Norm (us.map mkO) := by
 refine ⟨?_, fun o ho => ?_⟩
 ·rw [mk_codes]
  unfold Sorted at h ⊢
  rw [List.pairwise_map]
  exact h
 ·obtain ⟨r, _, rfl⟩ := List.mem_map.1 ho
  rfl
theorem mk_apply {us : List R} (h : Sorted us) : Bt.apply [] (us.map mkO) = us := (Bt.ofL_puts us).trans (ofL_id us h)
theorem row_none1 {most : Int} {fst : Bool} {before l : Txt} {e : Nat} (h : textD most l = .inl e) : rowD most fst before l = none := by
 unfold rowD
 rw [h]
theorem row_none2 {most : Int} {fst : Bool} {before l k : Txt} {m e : Nat} (h : textD most l = .inr (k, m)) (h2 : textD most (l.drop m) = .inl e) : rowD most fst before l = none := by
 unfold rowD
 rw [h]
 simp only
 rw [h2]
 simp
theorem row_none3 {most : Int} {before l k : Txt} {m : Nat} (h : textD most l = .inr (k, m)) (h3 : lt before k = false) : rowD most false before l = none := by
 unfold rowD
 rw [h]
 simp only
 simp [h3]
theorem row_some {most : Int} {fst : Bool} {before l k v : Txt} {m m2 : Nat} (h : textD most l = .inr (k, m)) (h2 : textD most (l.drop m) = .inr (v, m2)) (h3 : fst = true \/ lt before k = true) : rowD most fst before l = some ((k, v), m + m2) := by
 unfold rowD
 rw [h]
 simp only
 rw [if_neg (by rintro ⟨e1, e2⟩; rcases h3 with e | e <;> simp_all), h2]
end So
end Go.Proofs.YthjjfjhajadimaaGreatDoor
