/-
  The contracts of journal's write and Append.
  Both disks side by side, apart from several blocks: crashes.
-/
import Derived.Test.YtggogaaooacooaaDoorP30
import Derived.Test.YtggogaaooacooaaDoorP37
import Derived.Test.YtggogaaooacooaaDoorP31
import Derived.Test.YtggogaaooacooaaDoorP08
import Derived.Deep.RegionHeld3
import Derived.StillTailTactics
import Derived.Test.YtggogaaooacooaaDoorP21
namespace Go.Proofs.YtggogaaooacooaaDoor
open Go.RowKit Go.WideShapes
set_option maxRecDepth 100000

set_option maxHeartbeats 800000 in
theorem jwrite_any {ad : Nat → Addr} {S : Nat → Prop} {w0 w : World} {b : Nat} {d : DS} (R : Room ad S w0) (hS : Keeps S w0 w) (h : DiskAt w b d S) (hf : d.Few) (p n v i : Nat) (h1 : 1 ≤ v) (h2 : v ≤ 1099511627776) (hi : i < 65536) (hp : p ≤ 65536) (P : ByteArray) (hP : P.size ≤ 234) :
    Calls Tryd.prog 54 #[.agg #[.pointer (some ⟨b, 0, none⟩), .int .i64 (p : Int), .int .i64 (n : Int), .int .i64 (v : Int)], .int .i64 (i : Int), .string P] w fun e w' => e = .returned (errV ad (d.writeE ((p + i : Nat) : Int) (E.sct (J.stamp v i) P.data.toList))) ∧ DiskAt w' b (d.writeD ((p + i : Nat) : Int) (E.sct (J.stamp v i) P.data.toList)) S ∧ Keeps S w0 w' := by
  obtain ⟨WA, hWA, QA, hb⟩ := place_new w b p n v
  have HWA := Lib.hid hWA
  have HB := Lib.hid hb
  have KA := Lib.hid (keeps_qt hS QA)
  obtain ⟨d0, d1, d2, d3⟩ := place_cells hb
  have LG := jlog_in ad v i h1 h2 hi WA (R.errs' KA.out)
  have hst := J.stamp_big (v := v) (k := i) h2 hi
  have hst0 := J.stamp_pos v i
  obtain ⟨Z, hZ⟩ : ∃ Z : ByteArray, Z = ⟨(E.sct (J.stamp v i) P.data.toList).toArray⟩ := ⟨_, rfl⟩
  have hZl : strL Z = E.sct (J.stamp v i) P.data.toList := by rw [hZ]; rfl
  have SE := Lib.hid (fun W (q : Keeps S w0 W) => (show Calls Tryd.prog 76 #[.int .u64 (J.stamp v i : Nat), .string P] W fun e w' => e = .returned (.tuple #[.string Z, .nilIface]) ∧ Qt W w' from by
    have S1 := seal_any (ad 6) (ad 3) (ad 7) (J.stamp v i) P W hst (R.errs' q).e3 (R.tab' q)
    rw [show E.sealR (J.stamp v i) P.data.toList = (E.sct (J.stamp v i) P.data.toList, 0) by unfold E.sealR; rw [if_neg hst0, if_neg (by rw [dlen7]; omega)]] at S1
    rw [hZ]; exact S1))
  have WR := Lib.hid (fun W (q : Keeps S w0 W) (k : DiskAt W b d S) => (show Calls Tryd.prog 33 #[.pointer (some ⟨b, 0, none⟩), .int .i64 ((p : Int) + (i : Int)), .string Z] W fun e w' => e = .returned (errV ad (d.writeE ((p + i : Nat) : Int) (E.sct (J.stamp v i) P.data.toList))) ∧ DiskAt w' b (d.writeD ((p + i : Nat) : Int) (E.sct (J.stamp v i) P.data.toList)) S ∧ Keeps S w0 w' from by
    have h := room_write R q k hf ((p + i : Nat) : Int) Z
    rw [hZl, Int.natCast_add] at h
    rw [Int.natCast_add]
    exact h))
  have hw := sj_w2 hp (Nat.le_of_lt hi)
  have DK := Lib.hid (fun W (q : Qt WA W) => DiskAt.qt h (Qt.trans QA q))
  generalize d.writeE ((p + i : Nat) : Int) (E.sct (J.stamp v i) P.data.toList) = x at *
  generalize d.writeD ((p + i : Nat) : Int) (E.sct (J.stamp v i) P.data.toList) = u at *
  generalize J.stamp v i = st at *
  clear R hS h hf hWA QA hb hst hst0 hZ hZl h1 h2 hi hp hP
  go_enter Tryd.func54, Tryd.ntmps54
  go_wp2_with fail
  rw [HWA.out]
  refine LG.mono ?_
  rintro e w1 ⟨rfl, q1⟩
  have Q1 := Lib.hid q1
  clear d0 d1 d2 d3 LG q1
  go_wp2_with fail
  refine (SE.out w1 (keeps_qt KA.out Q1.out)).mono ?_
  rintro e w2 ⟨rfl, q2⟩
  have Q2 := Lib.hid (Qt.trans Q1.out q2)
  obtain ⟨d0, d1, d2, d3⟩ := place_cells (place_qt HB.out Q2.out)
  clear q2
  go_wp2_with fail
  refine (WR.out w2 (keeps_qt KA.out Q2.out) (DK.out w2 Q2.out)).mono ?_
  rintro e w3 ⟨rfl, p3, k3⟩
  have P3 := Lib.hid p3
  have K3 := Lib.hid k3
  obtain ⟨ev, hev⟩ : ∃ ev, errV ad x = ev := ⟨_, rfl⟩
  rw [hev]
  have HEV := Lib.hid hev
  clear p3 k3 d0 d1 d2 d3 hev
  go_wp2
  go_ret
  exact ⟨by rw [HEV.out]; rfl, P3.out, K3.out⟩

/-- What the loop keeps. -/
def JAAt (S : Nat → Prop) (w : World) (b : Nat) (d : DS) (j : J.JS) (v : List UInt8) (C a f : Nat) (iv : Value) (wr : World) : Prop :=
  ∃ (k : Nat) (uk : DS), k ≤ C ∧ iv = .int .i64 k ∧ DiskAt wr b uk S ∧ Keeps S w wr ∧ j.go v (C - k) k uk = j.go v C 0 d ∧ uk.FewM (a + k) (f + k)
theorem sj_few {f k C n u : Nat} (h1 : k < C) (h2 : u + C ≤ n) (h3 : n ≤ 65536) (hf : f ≤ 1073000000) : f + k ≤ 1073741824 := by omega
theorem sj_few2 {f k C n u : Nat} (h1 : k < C) (h2 : u + C ≤ n) (h3 : n ≤ 65536) (hf : f ≤ 576460752303423488) : f + k ≤ 1152921504606846976 := by omega
theorem sj_idx {u k C n : Nat} (h1 : k < C) (h2 : u + C ≤ n) (h3 : n ≤ 65536) : u + k < 65536 := by omega
theorem sj_take {C k : Nat} (h : k < C) : ∃ m, C - k = m + 1 ∧ C - (k + 1) = m := ⟨C - k - 1, by omega, by omega⟩

set_option maxHeartbeats 3200000 in
theorem jappend_anyM {ad : Nat → Addr} {S : Nat → Prop} {w : World} {b q a f : Nat} {d : DS} {j : J.JS} (R : Room ad S w) (h : DiskAt w b d S) (hf : d.FewM a f) (hfa : a ≤ 1073000000) (hf2 : f ≤ 576460752303423488) (hq : ¬ S q) (hC : CJ w q b j) (hF : J.Fine j d) (s : ByteArray) (hs : s.size ≤ 1099511627776) :
    Calls Tryd.prog 25 #[.pointer (some ⟨q, 0, none⟩), .string s] w (JP ad S w b q (j.append d s.data.toList)) := by
  have DN := jdown_any h hC
  rw [← hF.down] at DN
  have hl : s.data.toList.length = s.size := by simp
  have hdl : d.dur.length ≤ 65536 := by obtain ⟨gd, mb, uv, P, _⟩ := h; exact P.ok.le
  cases hd : j.down d with
  | true =>
    have FIN := Lib.hid (show j.append d s.data.toList = (12, { j with dead := true }, d) from if_pos hd)
    rw [hd] at DN
    have HE := Lib.hid R.errs
    have HD := Lib.hid h
    have HC := Lib.hid hC
    clear R h hf hq hC hF hd hl hdl hs hf2 hfa
    go_enter Tryd.func25, Tryd.ntmps25
    go_wp2_with fail
    refine DN.mono ?_
    rintro e w1 ⟨rfl, q1⟩
    have e12 := (HE.out.kept q1 (OffErrs.none ad)).down
    have Q1 := Lib.hid q1
    clear q1 DN
    go_wp2
    go_ret
    rw [FIN.out]
    exact ⟨rfl, DiskAt.qt HD.out Q1.out, HC.out.qt Q1.out, Q1.out.mono (fun _ _ e => e.elim)⟩
  | false =>
    rw [hd] at DN
    have hn2 : j.n ≤ 65536 := by have := hF.fit; omega
    have FT := Lib.hid (fun W (k : Qt w W) => jfits_any (hC.qt k) hF.used hn2 (s.size : Int) (by omega))
    have CO := Lib.hid (fun W => jcost_nat s.size (by omega) W)
    obtain ⟨C, hCo⟩ : ∃ C, J.cost s.size = C := ⟨_, rfl⟩
    have APP : j.append d s.data.toList = if j.n < j.used + C then (17, j, d) else if (j.go s.data.toList C 0 d).1 ≠ 0 then ((j.go s.data.toList C 0 d).1, { j with dead := true }, (j.go s.data.toList C 0 d).2) else (0, { j with used := j.used + C }, (j.go s.data.toList C 0 d).2) := by
      rw [← hCo, ← hl]
      exact if_neg (by rw [hd]; simp)
    have hfit : j.fits (s.size : Int) = decide (j.used + C ≤ j.n) := by
      unfold J.JS.fits
      rw [Int.toNat_natCast, hCo]
      by_cases hc : j.used + C ≤ j.n
      · rw [decide_eq_true ⟨by omega, hc⟩, decide_eq_true hc]
      · rw [decide_eq_false (fun k => hc k.2), decide_eq_false hc]
    rw [hfit] at FT
    rw [hCo] at CO
    by_cases hfull : j.n < j.used + C
    · have FIN := Lib.hid (APP.trans (if_pos hfull))
      rw [decide_eq_false (show ¬ j.used + C ≤ j.n by omega)] at FT
      have HE := Lib.hid R.errs
      have HD := Lib.hid h
      have HC := Lib.hid hC
      clear R h hf hq hC hF hd hl hdl hs hf2 hfa APP hfull hfit hCo CO hn2
      go_enter Tryd.func25, Tryd.ntmps25
      go_wp2_with fail
      refine DN.mono ?_
      rintro e w1 ⟨rfl, q1⟩
      have Q1 := Lib.hid q1
      clear q1 DN
      go_wp2_with fail
      refine (FT.out _ Q1.out).mono ?_
      rintro e w2 ⟨rfl, q2⟩
      have e17 := (HE.out.kept (Qt.trans Q1.out q2) (OffErrs.none ad)).full
      have Q2 := Lib.hid (Qt.trans Q1.out q2)
      clear q2
      go_wp2
      go_ret
      rw [FIN.out]
      exact ⟨rfl, DiskAt.qt HD.out Q2.out, HC.out.qt Q2.out, Q2.out.mono (fun _ _ e => e.elim)⟩
    · have HAP := Lib.hid (APP.trans (if_neg hfull))
      rw [decide_eq_true (show j.used + C ≤ j.n by omega)] at FT
      have HR := Lib.hid R
      have HD := Lib.hid h
      have HQ := Lib.hid hq
      have HC := Lib.hid hC
      have HF := Lib.hid hf
      have HF2 := Lib.hid hf2
      have HFA := Lib.hid hfa
      have HNF := Lib.hid (show j.used + C ≤ j.n by omega)
      have HN2 := Lib.hid hn2
      have HPN := Lib.hid (show j.pos ≤ 65536 by have := hF.fit; omega)
      have HV := Lib.hid (show 1 ≤ j.ver ∧ j.ver ≤ 1099511627776 from ⟨hF.v1, hF.v2⟩)
      have HCO := Lib.hid (show J.cost s.data.toList.length = C by rw [hl]; exact hCo)
      have HL := Lib.hid hl
      have HS := Lib.hid hs
      clear R h hf hq hC hF hd hl hdl hs hf2 hfa APP hfull hfit hCo hn2
      go_enter Tryd.func25, Tryd.ntmps25
      go_wp2_with fail
      refine DN.mono ?_
      rintro e w1 ⟨rfl, q1⟩
      have Q1 := Lib.hid q1
      clear q1 DN
      go_wp2_with fail
      refine (FT.out _ Q1.out).mono ?_
      rintro e w2 ⟨rfl, q2⟩
      have Q2 := Lib.hid (Qt.trans Q1.out q2)
      clear q2 FT
      go_wp2_with fail
      refine (CO.out _).mono ?_
      rintro e w3 ⟨rfl, rfl⟩
      go_wp2
      go_loopw [22] (fun iv wr => JAAt S w b d j s.data.toList C a f iv wr) (fun iv _ => C - (intOf iv).toNat)
      case atStart => exact ⟨0, d, Nat.zero_le _, rfl, DiskAt.qt HD.out Q2.out, keeps_qt (Keeps.refl S w) Q2.out, rfl, HF.out⟩
      case round =>
        obtain ⟨k, uk, hk, rfl, hP, hK, hgo, hfk⟩ := hrel
        have HP := Lib.hid hP
        have HK := Lib.hid hK
        have C1 := Lib.hid (HC.out.kept hK HQ.out)
        by_cases hlt : k < C
        · have zlt := sj_lt hlt
          have zlt' : decide (k < C) = true := decide_eq_true hlt
          have hkb := sj_kb hlt HNF.out HN2.out
          have BN := Lib.hid (jbounds_any s.size k hkb)
          have HDD := Lib.hid (fun W => jhead_any s.size k (sj_u64 HS.out) W)
          have hue := J.upto_ge (z := s.size) (k := k) (by rw [← HL.out, HCO.out]; exact hlt)
          have hul := J.upto_le s.size k
          have SL := slice_in s (J.ends k) (J.upto s.size k) hue hul
          obtain ⟨H, hH, hHl⟩ : ∃ H : ByteArray, H = ⟨(J.headZ s.size k).toArray⟩ ∧ H.data.toList = J.headZ s.size k := ⟨_, rfl, rfl⟩
          obtain ⟨X, hX, hXl⟩ : ∃ X : ByteArray, X = s.extract (J.ends k) (J.upto s.size k) ∧ X.data.toList = (s.data.toList.drop (J.ends k)).take (J.upto s.size k - J.ends k) := ⟨_, rfl, by rw [ByteArray.data_extract, Array.toList_extract]⟩
          obtain ⟨P, hPP, hPl⟩ : ∃ P : ByteArray, P = H ++ X ∧ P.data.toList = J.pay s.data.toList k := ⟨_, rfl, by rw [ByteArray.data_append, Array.toList_append, hHl, hXl, J.pay_eq, HL.out]⟩
          have hPs : P.size ≤ 234 := by rw [← dlen7, hPl]; exact J.pay_le _ _
          have hbd : ¬ (9223372036854775807 < H.size + X.size) := by
            have : P.size = H.size + X.size := by rw [hPP, ByteArray.size_append]
            omega
          have WR := Lib.hid (fun W (kk : Keeps S w W) (pp : DiskAt W b uk S) => (show Calls Tryd.prog 54 #[.agg #[.pointer (some ⟨b, 0, none⟩), .int .i64 (j.pos : Int), .int .i64 (j.n : Int), .int .i64 (j.ver : Int)], .int .i64 ((j.used : Int) + (k : Int)), .string P] W fun e w' => e = .returned (errV ad (j.putE s.data.toList k uk)) ∧ DiskAt w' b (j.put s.data.toList k uk) S ∧ Keeps S w w' from by
            have h := jwrite_any HR.out kk pp (hfk.few (sj_few hlt HNF.out HN2.out HFA.out) (sj_few2 hlt HNF.out HN2.out HF2.out)) j.pos j.n j.ver (j.used + k) HV.out.1 HV.out.2 (sj_idx hlt HNF.out HN2.out) HPN.out P hPs
            rw [hPl, Int.natCast_add] at h
            unfold J.JS.putE J.JS.put
            exact h))
          rw [← hH] at HDD
          rw [← hX] at SL
          obtain ⟨m, hm, hm2⟩ := sj_take hlt
          rw [hm, J.JS.go] at hgo
          have HGO := Lib.hid hgo
          have HM2 := Lib.hid hm2
          have HLT := Lib.hid hlt
          have HFK := Lib.hid hfk
          have hk1 := sj_w1 hkb
          have huk := sj_w2i (i := j.used) (k := k) (sj_ib HNF.out HN2.out) hkb
          have KC := Lib.hid (fun (W : World) (r : CJ W q b j) => (show W.cell? ⟨q, 0, none⟩ = some (.pointer (some ⟨b, 0, none⟩)) ∧ W.cell? ⟨q, 1, none⟩ = some (.int .i64 (j.pos : Int)) ∧ W.cell? ⟨q, 2, none⟩ = some (.int .i64 (j.n : Int)) ∧ W.cell? ⟨q, 3, none⟩ = some (.int .i64 (j.ver : Int)) ∧ W.cell? ⟨q, 4, none⟩ = some (.int .i64 (j.used : Int)) from ⟨r.cell 0 _ rfl, r.cell 1 _ rfl, r.cell 2 _ rfl, r.cell 3 _ rfl, r.cell 4 _ rfl⟩))
          have QD := Lib.hid (show Qt wr wr.drew from Keeps.drew (Qt.refl wr))
          have C1d := Lib.hid (C1.out.qt QD.out)
          have PPE := Lib.hid hPP.symm
          clear hP hK hgo hfk hm hm2 hk hlt hkb hue hul hH hHl hX hXl hPP hPl hPs
          go_wp2_with fail
          refine (BN.out _).mono ?_
          rintro e5 w5 ⟨rfl, rfl⟩
          generalize J.ends k = E at *
          generalize J.upto s.size k = U at *
          by_cases hE : j.putE s.data.toList k uk = 0
          · have GO := HGO.out
            rw [if_neg (fun h => h hE)] at GO
            rw [hE, errV_zero] at WR
            have NXT := Lib.hid (fun (W : World) (p : DiskAt W b (j.put s.data.toList k uk) S) (kk : Keeps S w W) => (show JAAt S w b d j s.data.toList C a f (.int .i64 ((k : Int) + 1)) W from
              ⟨k + 1, _, HLT.out, rfl, p, kk, by rw [HM2.out]; exact GO, (HFK.out.write _ _).mono (by omega) (by omega)⟩))
            clear GO hE HGO
            go_wp2_with fail
            go_region_held3 (fun W' => W'.cell? ⟨q, 0, none⟩ = some (.pointer (some ⟨b, 0, none⟩)) ∧ W'.cell? ⟨q, 1, none⟩ = some (.int .i64 (j.pos : Int)) ∧ W'.cell? ⟨q, 2, none⟩ = some (.int .i64 (j.n : Int)) ∧ W'.cell? ⟨q, 3, none⟩ = some (.int .i64 (j.ver : Int)) ∧ W'.cell? ⟨q, 4, none⟩ = some (.int .i64 (j.used : Int)))
              (first | exact KC.out _ C1d.out | exact KC.out _ (Hid.out (by assumption)))
              (first
                | (go_at_call 55; refine (HDD.out _).mono ?_; rintro e6 w6 ⟨rfl, q6⟩; have Q6 := Lib.hid (Qt.trans QD.out q6); have C6 := Lib.hid (C1.out.qt Q6.out); clear q6)
                | (go_at_call 54; rw [PPE.out]; refine (WR.out _ (keeps_qt HK.out Q6.out) (DiskAt.qt HP.out Q6.out)).mono ?_; rintro e7 w7 ⟨rfl, p7, k7⟩; have FN := Lib.hid (NXT.out w7 p7 k7); have C7 := Lib.hid (HC.out.kept k7 HQ.out); clear p7 k7))
            go_wp2
            rw [hk1]
            exact ⟨FN.out, sj_meas HLT.out⟩
          · have GO := HGO.out
            rw [if_pos hE] at GO
            rw [errV_pos ad (Nat.pos_of_ne_zero hE)] at WR
            have NXT := Lib.hid (fun (W : World) (p : DiskAt W b (j.put s.data.toList k uk) S) (kk : Keeps S w W) => (show JP ad S w b q (j.append d s.data.toList) (.returned (.iface 168 (.pointer (some (ad (j.putE s.data.toList k uk)))))) W from by
              rw [HAP.out, ← GO, if_pos hE]
              exact ⟨by rw [errV_pos ad (Nat.pos_of_ne_zero hE)], p, HC.out.kept kk HQ.out, kk.mono (fun _ _ e => .inl e)⟩))
            clear GO HGO
            generalize j.putE s.data.toList k uk = x at *
            clear hE
            go_wp2_with fail
            go_region_held3 (fun W' => W'.cell? ⟨q, 0, none⟩ = some (.pointer (some ⟨b, 0, none⟩)) ∧ W'.cell? ⟨q, 1, none⟩ = some (.int .i64 (j.pos : Int)) ∧ W'.cell? ⟨q, 2, none⟩ = some (.int .i64 (j.n : Int)) ∧ W'.cell? ⟨q, 3, none⟩ = some (.int .i64 (j.ver : Int)) ∧ W'.cell? ⟨q, 4, none⟩ = some (.int .i64 (j.used : Int)))
              (first | exact KC.out _ C1d.out | exact KC.out _ (Hid.out (by assumption)))
              (first
                | (go_at_call 55; refine (HDD.out _).mono ?_; rintro e6 w6 ⟨rfl, q6⟩; have Q6 := Lib.hid (Qt.trans QD.out q6); have C6 := Lib.hid (C1.out.qt Q6.out); clear q6)
                | (go_at_call 54; rw [PPE.out]; refine (WR.out _ (keeps_qt HK.out Q6.out) (DiskAt.qt HP.out Q6.out)).mono ?_; rintro e7 w7 ⟨rfl, p7, k7⟩; have FN := Lib.hid (NXT.out w7 p7 k7); have C7 := Lib.hid (HC.out.kept k7 HQ.out); clear p7 k7))
            go_wp2
            go_ret
            exact FN.out
        · obtain rfl := sj_eq hk hlt
          have zlt := sj_ge (Nat.le_refl k)
          rw [Nat.sub_self, J.JS.go] at hgo
          have FIN := Lib.hid (show j.append d s.data.toList = (0, { j with used := j.used + k }, uk) from by
            rw [HAP.out, ← hgo, if_neg (by simp)])
          have wu := sj_w2i (i := j.used) (k := k) (sj_ib HNF.out HN2.out) (Nat.le_trans (Nat.le_trans (Nat.le_add_left k j.used) HNF.out) HN2.out)
          have QD := Lib.hid (show Qt wr wr.drew from Keeps.drew (Qt.refl wr))
          have C1d := Lib.hid (C1.out.qt QD.out)
          have FM := Lib.hid (fun (W : World) (q2 : Qt wr W) => (show JP ad S w b q (j.append d s.data.toList) (.returned .nilIface) (W.setCell ⟨q, 4, none⟩ (.int .i64 ((j.used : Int) + (k : Int)))) from by
            rw [FIN.out, ← Int.natCast_add]
            have KW := keeps_qt HK.out q2
            have KT : Keeps (fun k => S k ∨ k = q) w (W.setCell ⟨q, 4, none⟩ (.int .i64 ((j.used + k : Nat) : Int))) := (KW.mono (fun _ _ e => .inl e)).setCell (p := ⟨q, 4, none⟩) (fun _ => .inr rfl) _
            refine ⟨rfl, ?_, (C1.out.qt q2).used' (j.used + k), KT⟩
            exact (DiskAt.qt HP.out q2).kept ((Keeps.refl (fun k => k = q) W).setCell (p := ⟨q, 4, none⟩) (fun _ => rfl) _) (fun g hg e => HQ.out (e ▸ hg))))
          have KC := Lib.hid (fun (W : World) (r : CJ W q b j) => (show W.cell? ⟨q, 4, none⟩ = some (.int .i64 (j.used : Int)) ∧ W.frozen? ⟨q, 4, none⟩ = false from ⟨r.cell 4 _ rfl, Lib.frozen_of_heap r 4⟩))
          clear hP hK hgo hfk hlt hk
          obtain ⟨c4, f4⟩ := KC.out _ C1.out
          have COR := CO wr.drew
          go_wp2_with fail
          refine wp_region_still_tail 9 (by kernel_rfl) (by kernel_rfl) ?_
          simp only [List.take_succ_cons, List.take_zero, List.drop_succ_cons, List.drop_zero]
          iterate 5 still_step
          still_call COR
          repeat still_step
          refine wpStill_nil ?_
          change wpList _ _ _ _ _ wr.drew
          obtain ⟨wd, hwd⟩ : ∃ W, wr.drew = W := ⟨_, rfl⟩
          rw [hwd]
          obtain ⟨c4', f4'⟩ := KC.out wd (hwd ▸ C1d.out)
          have FN := Lib.hid (FM.out wd (hwd ▸ QD.out))
          clear hwd c4 f4 COR
          go_wp2
          go_ret
          exact FN.out
theorem jappend_any {ad : Nat → Addr} {S : Nat → Prop} {w : World} {b q f : Nat} {d : DS} {j : J.JS} (R : Room ad S w) (h : DiskAt w b d S) (hf : d.FewN f) (hf2 : f ≤ 1073000000) (hq : ¬ S q) (hC : CJ w q b j) (hF : J.Fine j d) (s : ByteArray) (hs : s.size ≤ 1099511627776) :
    Calls Tryd.prog 25 #[.pointer (some ⟨q, 0, none⟩), .string s] w (JP ad S w b q (j.append d s.data.toList)) := jappend_anyM R h hf.toM hf2 (Nat.le_trans hf2 (by decide)) hq hC hF s hs
end Go.Proofs.YtggogaaooacooaaDoor
namespace Go.Proofs.YtggogaaooacooaaDoor
open Go.RowKit Go.WideShapes
set_option maxRecDepth 100000

def PairJ (J : Nat → Prop) (w0 W : World) (b c : Nat) (d u : DS) : Prop :=
  ∃ S T : Nat → Prop, DiskAt W b d S ∧ RefAt W c u T ∧ (∀ k, S k → T k → False) ∧ (∀ k, S k → w0.heap.size ≤ k ∧ k < W.heap.size ∧ ¬ J k) ∧ (∀ k, T k → w0.heap.size ≤ k ∧ k < W.heap.size ∧ ¬ J k) ∧ Since w0.heap.size w0 W
section
variable {w0 w : World} {J : Nat → Prop} {b c : Nat} {d u : DS}

theorem PairJ.of {j : Nat} {W : World} (h : Pair j w0 w b c d u) (q : Qt w W) (hJ : ∀ k, J k → k = j ∨ w.heap.size ≤ k) : PairJ J w0 W b c d u := by
  obtain ⟨S, T, h1, h2, h3, h4, h5, h6⟩ := h
  have hz := q.size
  refine ⟨S, T, h1.qt q, h2.qt q, h3, fun k e => ⟨(h4 k e).1, by have := (h4 k e).2.1; omega, fun m => ?_⟩, fun k e => ⟨(h5 k e).1, by have := (h5 k e).2.1; omega, fun m => ?_⟩, h6.step q (fun _ e => e.elim)⟩
  · rcases hJ k m with r | r
    · exact (h4 k e).2.2 r
    · have := (h4 k e).2.1; omega
  · rcases hJ k m with r | r
    · exact (h5 k e).2.2 r
    · have := (h5 k e).2.1; omega
theorem PairJ.pair {j : Nat} (h : PairJ J w0 w b c d u) (hj : J j) : Pair j w0 w b c d u := by
  obtain ⟨S, T, h1, h2, h3, h4, h5, h6⟩ := h
  exact ⟨S, T, h1, h2, h3, fun k e => ⟨(h4 k e).1, (h4 k e).2.1, fun r => (h4 k e).2.2 (r ▸ hj)⟩, fun k e => ⟨(h5 k e).1, (h5 k e).2.1, fun r => (h5 k e).2.2 (r ▸ hj)⟩, h6⟩
theorem PairJ.since (h : PairJ J w0 w b c d u) : Since w0.heap.size w0 w := by obtain ⟨S, T, h1, h2, h3, h4, h5, h6⟩ := h; exact h6

theorem pairJ_crash (hJ : ∀ k, J k → k < w.heap.size) (h : PairJ J w0 w b c d u) (hf : d.Few) (v : Value) (f : FT) (hv : Bools w v f.kept) (hb : ∀ a n cc, v = .slice (some a) n cc → n ≠ 0 → J a.block ∨ a.block < w0.heap.size) : Calls Tryd.prog 38 #[.pointer (some ⟨b, 0, none⟩), fateV v f] w fun e w' => e = .returned (.tuple #[]) ∧ PairJ J w0 w' b c (d.crashD f) u ∧ Keeps (fun k => w0.heap.size ≤ k ∧ ¬ J k) w w' := by
  obtain ⟨S, T, h1, h2, h3, h4, h5, h6⟩ := h
  refine (crash_any w b d _ h1 hf v f hv (fun a n cc e n0 m => by
    rcases hb a n cc e n0 with r | r
    · exact (h4 _ m).2.2 r
    · have := (h4 _ m).1; omega)).mono ?_
  rintro e w' ⟨he, hD, K⟩
  have hz := K.size
  have hw := h6.size
  refine ⟨he, ⟨_, T, hD, h2.kept K (fun k e q => h3 k q e), ?_, ?_, fun k e => ⟨(h5 k e).1, by have := (h5 k e).2.1; omega, (h5 k e).2.2⟩, h6.step K (fun k e => (h4 k e).1)⟩, K.mono (fun k _ e => ⟨(h4 k e).1, (h4 k e).2.2⟩)⟩
  · rintro k (e | e) q
    · exact h3 k e q
    · have := (h5 k q).2.1; omega
  · rintro k (e | e)
    · exact ⟨(h4 k e).1, by have := (h4 k e).2.1; omega, (h4 k e).2.2⟩
    · exact ⟨by omega, e.2, fun m => by have := hJ k m; omega⟩

theorem pairJR_crash (hJ : ∀ k, J k → k < w.heap.size) (h : PairJ J w0 w b c d u) (hf : u.Few) (v : Value) (f : FT) (hv : Bools w v f.kept) (hb : ∀ a n cc, v = .slice (some a) n cc → n ≠ 0 → J a.block ∨ a.block < w0.heap.size) : Calls Tryd.prog 39 #[.pointer (some ⟨c, 0, none⟩), fateV v f] w fun e w' => e = .returned (.tuple #[]) ∧ PairJ J w0 w' b c d (u.crashD f) ∧ Keeps (fun k => w0.heap.size ≤ k ∧ ¬ J k) w w' := by
  obtain ⟨S, T, h1, ⟨sv, wv, P, hT⟩, h3, h4, h5, h6⟩ := h
  refine (ref_crash P hf v f hv (fun a n cc e n0 m => by
    rcases hb a n cc e n0 with r | r
    · exact (h5 _ (hT _ m)).2.2 r
    · have := (h5 _ (hT _ m)).1; omega)).mono ?_
  rintro e w' ⟨he, P', K0⟩
  have K : Keeps T w w' := K0.mono (fun k _ e => hT k e)
  have hR : RefAt w' c (u.crashD f) (Grow T w w') := grow_ref hT P' (.inr (fun k e => by cases e))
  have hz := K.size
  have hw := h6.size
  refine ⟨he, ⟨S, _, h1.kept K (fun k e q => h3 k e q), hR, ?_, fun k e => ⟨(h4 k e).1, by have := (h4 k e).2.1; omega, (h4 k e).2.2⟩, ?_, h6.step K (fun k e => (h5 k e).1)⟩, K.mono (fun k _ e => ⟨(h5 k e).1, (h5 k e).2.2⟩)⟩
  · rintro k q (e | e)
    · exact h3 k q e
    · have := (h4 k q).2.1; omega
  · rintro k (e | e)
    · exact ⟨(h5 k e).1, by have := (h5 k e).2.1; omega, (h5 k e).2.2⟩
    · exact ⟨by omega, e.2, fun m => by have := hJ k m; omega⟩
end
end Go.Proofs.YtggogaaooacooaaDoor
