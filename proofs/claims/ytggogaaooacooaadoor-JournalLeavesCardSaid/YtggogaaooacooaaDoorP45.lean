/-
  The contract of remitlaw10.lives: a version's life and its crash.
-/
import Derived.Test.YtggogaaooacooaaDoorP44
namespace Go.Proofs.YtggogaaooacooaaDoor
open Go.RowKit Go.WideShapes
set_option maxRecDepth 100000

set_option maxHeartbeats 6400000 in
theorem livesJ_any {ad : Nat → Addr} {w0 w : World} {b i n v m : Nat} {d : DS} (hE : Errs ad w0) (hT : Tab w0) (h : DK (fun k => w.heap.size ≤ k) w0 w b d) (hw : d.ways = []) (ho : d.off = false) {o : Nat} (hB : J.Backs d.dur i n o) (hov : o < v) (hv : v ≤ 1099511627776) (hn : n ≤ 64)
    (hf : d.FewM 0 m) (hm : m ≤ 288230376151711744) (kk : Int) (l : LfV) (hl : l.Ok w0) :
    Calls Tryd.prog 29 #[.pointer (some ⟨b, 0, none⟩), .int .i64 (i : Int), .int .i64 (n : Int), .int .i64 (v : Int), .int .i64 kk, .agg #[.int .i64 l.more, l.sv, l.yv, .int .i64 l.arm, l.kv, .int .i64 l.f.torn, .int .i64 l.f.bytes]] w (LivesP w0 b i n v m d.dur) := by
  obtain ⟨WA, hWA⟩ : ∃ W, w.alloc (.cells #[.int .i64 l.more, l.sv, l.yv, .int .i64 l.arm, l.kv, .int .i64 l.f.torn, .int .i64 l.f.bytes] 64) = W := ⟨_, rfl⟩
  have hbx : WA.heap[w.heap.size]? = some (.cells l.list.toArray 64 (0, 0)) := hWA ▸ heap_alloc_new w _
  have QA : Qt w WA := hWA ▸ (Qt.refl w).alloc _
  have HWA := Lib.hid hWA
  have HBX := Lib.hid hbx
  have HQA := Lib.hid QA
  have D1 : DK (fun k => w.heap.size ≤ k) w0 WA b d := h.qt QA
  have hin := hB.fit
  have REF := Lib.hid (J.refE_zero (d := d) (i := i) (n := n) (v := v) hin (by omega) (by omega) hv ho)
  have BG := dk_begin hE D1 (i : Int) (n : Int) (v : Int) (by omega)
  have AL0 : J.Alive d.dur [] 0 (jOf i n v d.cr 0) d := J.Alive.start hw ho hin
  have HAL := Lib.hid AL0
  have hz0 := h.since.size
  have LB0 := Lib.hid (show w0.heap.size ≤ w.heap.size from hz0)
  have CN0 := Lib.hid (show J.Cnt m [] d from ⟨by have := hf.wr; simp [J.total]; exact this, by have := hf.fl; simpa using this, hf.cr⟩)
  have HE := Lib.hid hE
  have HT := Lib.hid hT
  have HD1 := Lib.hid D1
  have HB := Lib.hid hB
  have HV := Lib.hid (show 1 ≤ v ∧ v ≤ 1099511627776 ∧ o < v ∧ n ≤ 64 ∧ m ≤ 288230376151711744 ∧ i ≤ 65536 from ⟨by omega, hv, hov, hn, hm, by
    obtain ⟨S, h1, _⟩ := h
    have h2 := h1.ok.le
    omega⟩)
  have NUM := Lib.hid (fun (W : World) (q : Qt w0 W) => hl.sizes)
  obtain ⟨sa, sc, hsv, hsc⟩ := hl.sizes
  obtain ⟨ya, yc, hyv, hyc⟩ := hl.syncs
  obtain ⟨ka, kc, hkv, hkc⟩ := hl.kept
  have HNS := Lib.hid hl.sizes
  have HYS := Lib.hid hl.syncs
  have HKS := Lib.hid hl.kept
  have HSL := Lib.hid hl.slen
  have HYL := Lib.hid hl.ylen
  have harm := hl.arm
  obtain ⟨more, sv, sizes, yv, syncs, arm, kv, ft⟩ := l
  simp only at hsv hyv hkv HNS HYS HKS HSL HYL harm HWA HBX hWA
  subst hsv hyv hkv
  obtain ⟨cells, hcells⟩ : ∃ c, (LfV.list ⟨more, .slice sa sizes.length sc, sizes, .slice ya syncs.length yc, syncs, arm, .slice ka ft.kept.length kc, ft⟩).toArray = c := ⟨_, rfl⟩
  rw [hcells] at HBX
  have BOX := Lib.hid (fun (W : World) (hb : W.heap[w.heap.size]? = some (.cells cells 64 (0, 0))) => (show W.cell? ⟨w.heap.size, 0, none⟩ = some (.int .i64 more) ∧ W.cell? ⟨w.heap.size, 1, none⟩ = some (.slice sa sizes.length sc) ∧ W.cell? ⟨w.heap.size, 2, none⟩ = some (.slice ya syncs.length yc) ∧ W.cell? ⟨w.heap.size, 3, none⟩ = some (.int .i64 arm) ∧ W.cell? ⟨w.heap.size, 4, none⟩ = some (.slice ka ft.kept.length kc) ∧ W.cell? ⟨w.heap.size, 5, none⟩ = some (.int .i64 ft.torn) ∧ W.cell? ⟨w.heap.size, 6, none⟩ = some (.int .i64 ft.bytes) from by
    have hc : ∀ (g : Nat) (x : Value), cells[g]? = some x → W.cell? ⟨w.heap.size, g, none⟩ = some x := fun g x hx => by rw [cell_of_row _ _ _ _ _ _ hb]; exact hx
    rw [← hcells] at hc
    exact ⟨hc 0 _ rfl, hc 1 _ rfl, hc 2 _ rfl, hc 3 _ rfl, hc 4 _ rfl, hc 5 _ rfl, hc 6 _ rfl⟩))
  obtain ⟨D, hD⟩ : ∃ D, d.dur = D := ⟨_, rfl⟩
  obtain ⟨life, hlife⟩ : ∃ x, d.cr = x := ⟨_, rfl⟩
  rw [hD] at HB HAL AL0 ⊢
  rw [hlife] at HAL AL0
  obtain ⟨i0, hi0, hz0', hz1, hz2⟩ := info_parts infoStrT
  clear hE hT h hw ho hB hov hv hn hf hm hl hWA hbx QA D1 hin AL0 hcells hsc hyc hkc NUM hz0
  go_enter Tryd.func29, Tryd.ntmps29
  go_wp2_with fail
  rw [HWA.out]
  refine BG.mono ?_
  rintro e w1 hb
  obtain ⟨q1, q, hq1, rfl, hc⟩ := begin_ok hb REF.out
  have B1 := Lib.hid ((q1.block w.heap.size (lt_of_block HBX.out) (fun e => e)).trans HBX.out)
  have C1 := Lib.hid (show CJ w1 q b (jOf i n v life 0) from by rw [← hlife]; exact hc)
  have LBQ := Lib.hid (show w.heap.size ≠ q from by have := lt_of_block HBX.out; omega)
  have QG := Lib.hid (show w0.heap.size ≤ q from by have := lt_of_block HBX.out; have := LB0.out; omega)
  have QB := Lib.hid (show q < w1.heap.size from hc.lt)
  have BG2 := Lib.hid (show w0.heap.size ≤ w1.heap.size from Nat.le_trans QG.out (Nat.le_of_lt QB.out))
  have DK1 := Lib.hid (show DK (GV q w.heap.size (.slice none 0 0)) w0 w1 b d from (HD1.out.qt q1).more (fun k e => by
    rcases e with e | e | e
    · exact .inl (by have := lt_of_block HBX.out; omega)
    · exact .inl (by omega)
    · cases e))
  have G0 := Lib.hid (show ∀ k, GV q w.heap.size (.slice none 0 0) k → k < w1.heap.size from by
    rintro k (e | e | e)
    · rw [e]; exact QB.out
    · rw [e]; exact lt_of_block B1.out
    · cases e)
  have AR := Lib.hid (dk_arm G0.out DK1.out arm harm)
  obtain ⟨_, _, _, x3, _, _, _⟩ := BOX.out _ B1.out
  clear hb q1 hq1 hc BG harm
  go_wp2_with fail
  refine AR.out.mono ?_
  rintro e w2 ⟨rfl, dk2, k2⟩
  have B2 := Lib.hid ((k2.block w.heap.size (lt_of_block B1.out) (fun e => e.2 (.inr (.inl rfl)))).trans B1.out)
  have C2 := Lib.hid (show CJ w2 q b (jOf i n v life (J.total [])) from C1.out.kept k2 (fun e => e.2 (.inl rfl)))
  have S2 := Lib.hid (show LvS ad w0 w2 b q w.heap.size w1.heap.size cells D i n v life m (.slice none 0 0) [] 0 (d.armD arm) from
    ⟨rowT_nil _, fun g hg => (by cases hg), HAL.out.arm arm, ⟨CN0.out.wr, CN0.out.fl, CN0.out.cr⟩, dk2, C2.out, B2.out, k2.size⟩)
  have START := Lib.hid (show LvAt ad w0 b q w.heap.size w1.heap.size cells D i n v life m sizes.length (.slice none 0 0) (.int .i64 0) (.bool false) (.int .i64 0) w2 from ⟨0, [], 0, _, Nat.zero_le _, rfl, rfl, rfl, S2.out⟩)
  clear x3 dk2 k2
  obtain ⟨_, x1, _, _, _, _, _⟩ := BOX.out _ B2.out
  -- the end of a life: behind the loop, the power on or off
  go_wp2
  clear x1
  go_loopw [15, 16, 17, 46] (fun av sv dv iv wr => LvAt ad w0 b q w.heap.size w1.heap.size cells D i n v life m sizes.length av sv dv iv wr) (fun _ _ _ iv _ => sizes.length - (intOf iv).toNat)
  case atStart => exact START.out
  case round =>
    obtain ⟨k, all, s, dk, hk, rfl, rfl, rfl, HS⟩ := hrel
    obtain ⟨aa, ac, rfl, hacl, haa⟩ := HS.row.shape
    have hS := Lib.hid HS
    have HAC := Lib.hid hacl
    have HAA := Lib.hid haa
    have hallb : all.length ≤ 64 := Nat.le_trans (J.len_total all) (Nat.le_trans (J.alive_fit HS.alive) HV.out.2.2.2.1)
    have HALB := Lib.hid hallb
    clear HS hacl haa hallb
    by_cases hlt : k < sizes.length
    · obtain ⟨x, gx, ox, cx, ex, hx⟩ := nums_at HNS.out hlt
      injection ex with ex1 ex2 ex3
      subst ex1 ex3
      have hcell := hS.out.dk.since.qt.cellv hx
      have zlt := sj_lt hlt
      have zlt' : decide (k < sizes.length) = true := decide_eq_true hlt
      obtain ⟨ik0, ik1⟩ := sj_in hlt
      have hkb : k ≤ 140737488355328 := Nat.le_trans (Nat.le_of_lt hlt) HSL.out
      have hk1 := sj_w1b hkb
      obtain ⟨kx, hkx⟩ : ∃ kx, wrap64 (11 * kk) = kx := ⟨_, rfl⟩
      obtain ⟨fx, hfx⟩ : ∃ fx, wrap64 (kx + (k : Int)) = fx := ⟨_, rfl⟩
      have hzb : modU x 3001 ≤ 3000 := by have := Nat.mod_lt ((x % 18446744073709551616).toNat) (show 0 < 3001 by decide); unfold modU; omega
      obtain ⟨rv, hrv⟩ : ∃ rv, recB fx (modU x 3001) = rv := ⟨_, rfl⟩
      have hrl : rv.length ≤ 3000 := by rw [← hrv, recB_length]; exact hzb
      obtain ⟨R, hR, hRl⟩ : ∃ R : ByteArray, R = ⟨rv.toArray⟩ ∧ R.data.toList = rv := ⟨_, rfl, rfl⟩
      have hRs : R.size ≤ 3000 := by rw [← dlen7, hRl]; exact hrl
      have RC := Lib.hid (fun W => record_any x fx W)
      rw [hrv, ← hR] at RC
      have HSTR := Lib.hid (show strV rv = .string R by rw [hR]; rfl)
      have HRL := Lib.hid hRl
      have HRB := Lib.hid (show rv.length < 4294967296 by omega)
      have HRS := Lib.hid (show R.size ≤ 1099511627776 by omega)
      have HLT := Lib.hid hlt
      have HME := Lib.hid (sj_meas hlt)
      have AP := Lib.hid (fun (W : World) (S3 : LvS ad w0 W b q w.heap.size w1.heap.size cells D i n v life m (.slice aa all.length ac) all s dk) => dk_appendM HE.out HT.out (GV.ge QG.out LB0.out BG2.out S3.new) S3.lt (.inl rfl) S3.dk (S3.cnt.few S3.alive HV.out.2.2.2.1) (by decide) (by have := HV.out.2.2.2.2.1; omega) S3.cj (S3.fine HV.out.1 HV.out.2.1) R HRS.out)
      rw [hRl] at AP
      clear hx hlt hkb hzb hrv hrl hR hRl hRs hk
      go_wp2_with fail
      refine (RC.out _).mono ?_
      rintro e w3 ⟨rfl, q3⟩
      have S3 := Lib.hid (hS.out.qt q3)
      have BW3 := Lib.hid (show w1.heap.size ≤ w3.heap.size from Nat.le_trans hS.out.big q3.size)
      have AX := AP.out _ S3.out
      clear q3 hcell RC
      rcases J.life_append S3.out.alive S3.out.cnt HV.out.2.2.2.1 rv HRB.out with ea | ⟨d2, ea, hA, hc, hfl⟩ | ⟨d2, ea, hEn, hoff⟩
      · rw [ea] at AX
        clear ea
        go_wp2_with fail
        refine AX.mono ?_
        rintro e w4 h4
        obtain ⟨rfl, dk4, cj4, k4⟩ := jkp_no h4
        have S4 := Lib.hid (S3.out.next QB.out LBQ.out k4 S3.out.alive S3.out.cnt dk4 cj4)
        have NU := num_any ad 17 _ (errs_since HE.out dk4.since) (by decide)
        rw [errV_pos ad (by decide)] at NU
        clear h4 dk4 cj4 k4 AX
        go_wp2_with fail
        refine NU.mono ?_
        rintro e w5 ⟨rfl, q5⟩
        have FN := Lib.hid (show LvAt ad w0 b q w.heap.size w1.heap.size cells D i n v life m sizes.length (.slice aa all.length ac) (.int .i64 s) (.bool false) (.int .i64 ((k : Int) + 1)) w5 from ⟨k + 1, all, s, dk, HLT.out, rfl, rfl, rfl, S4.out.qt q5⟩)
        clear q5 NU
        go_wp2
        rw [hk1]
        exact ⟨FN.out, HME.out⟩
      · rw [ea] at AX
        clear ea
        have hA : J.Alive D (all ++ [rv]) s (jOf i n v life (J.total (all ++ [rv]))) d2 := by rw [J.total_snoc]; exact hA
        have HA := Lib.hid hA
        have HCN := Lib.hid hc
        have HFL := Lib.hid hfl
        clear hA hc hfl
        go_wp2_with fail
        refine AX.mono ?_
        rintro e w4 h4
        obtain ⟨rfl, dk4, cj4, k4⟩ := jkp_ok h4
        have cj4 : CJ w4 q b (jOf i n v life (J.total (all ++ [rv]))) := by rw [J.total_snoc]; exact cj4
        have EV4 := Lib.hid (S3.out.call QB.out LBQ.out k4)
        have DK4 := Lib.hid dk4
        have CJ4 := Lib.hid cj4
        have NU := num_any ad 0 _ (errs_since HE.out dk4.since) (by decide)
        have K4S := Lib.hid k4.size
        clear h4 dk4 cj4 k4 AX
        go_wp2_with fail
        refine NU.mono ?_
        rintro e w5 ⟨rfl, q5⟩
        have ROW5 := Lib.hid (EV4.out.1.kept q5 (fun _ _ e => e))
        have BOX5 := Lib.hid ((q5.block w.heap.size (lt_of_block EV4.out.2) (fun e => e)).trans EV4.out.2)
        have DK5 := Lib.hid (DK4.out.qt q5)
        have CJ5 := Lib.hid (CJ4.out.qt q5)
        have BG5 := Lib.hid (show w1.heap.size ≤ w5.heap.size from Nat.le_trans BW3.out (Nat.le_trans K4S.out q5.size))
        have HOW := Lib.hid (fun o => (show (w5.alloc o).ownsRow 0 9 1 (.slice aa all.length ac) all.length (all.map strV) from ownsRow_kept ROW5.out ((Keeps.refl (fun _ => False) w5).alloc o) (fun _ _ h => h)))
        have hb1 : all.length + 1 ≤ maxLen := by have := HALB.out; unfold maxLen; omega
        have hb2 : (all.length + 1) * 16 ≤ 140737488355328 := by have := HALB.out; omega
        clear q5 NU
        go_wp2_with (at_builtin; refine wpList_append_cells0 _ rfl _ _ 66 rfl 9 i0 (.string ⟨#[]⟩) 1 16 Tryd.underlying66 hi0 hz0' hz1 hz2 rfl (by decide) _ all.length _ rfl (HOW.out _) ⟨w5.heap.size, 0, none⟩ 1 1 [.string R] rfl rfl ?c1 ?c2 hb1 hb2 ?_)
        case c1 => exact newsT1 w5 R
        case c2 => intro x hx; simp at hx; subst hx; rfl
        intro v' w7 own7 hg7 hl7 _
        obtain ⟨row7, new7, dk7, cj7, box7, big7⟩ := row_more (t := rv) QB.out (by have := lt_of_block B1.out; omega) QG.out LB0.out BG5.out S3.out.new DK5.out CJ5.out BOX5.out _ (by rw [HSTR.out]; exact own7) hg7 hl7
        have hal : (all ++ [rv]).length = all.length + 1 := by simp
        have HAL1 := Lib.hid hal
        have S7 := Lib.hid (show LvS ad w0 w7 b q w.heap.size w1.heap.size cells D i n v life m v' (all ++ [rv]) s d2 from ⟨row7, new7, HA.out, HCN.out, dk7, cj7, box7, big7⟩)
        obtain ⟨ga, gc, rfl, hgc, hga⟩ := row7.shape
        have HGA := Lib.hid hga
        have HGC := Lib.hid hgc
        have HFL1 := Lib.hid (show d2.fl + 1 ≤ m + (all ++ [rv]).length by have := HFL.out; omega)
        have HALE := Lib.hid (show (all ++ [rv]).length ≤ 65 by have := HALB.out; omega)
        generalize all ++ [rv] = al at *
        clear row7 new7 dk7 cj7 box7 own7 hg7 hl7 hga hgc hal
        obtain ⟨_, _, x2, _, _, _, _⟩ := BOX.out _ S7.out.box
        have FN0 := Lib.hid (fun (W : World) (qq : Qt w7 W) => (show LvAt ad w0 b q w.heap.size w1.heap.size cells D i n v life m sizes.length (.slice ga al.length gc) (.int .i64 s) (.bool false) (.int .i64 ((k : Int) + 1)) W from ⟨k + 1, al, s, d2, HLT.out, rfl, rfl, rfl, S7.out.qt qq⟩))
        by_cases hy : k < syncs.length
        · obtain ⟨y, gy, oy, cy, ey, hyc⟩ := bools_at HYS.out hy
          injection ey with ey1 ey2 ey3
          subst ey1 ey3
          have hycell := S7.out.dk.since.qt.cellv hyc
          have zy := sj_lt hy
          have zy' : decide (k < syncs.length) = true := decide_eq_true hy
          obtain ⟨yk0, yk1⟩ := sj_in hy
          clear hy hyc
          cases y with
          | false =>
            have FN := Lib.hid (FN0.out w7 (Qt.refl w7))
            go_wp2
            rw [hk1]
            exact ⟨FN.out, HME.out⟩
          | true =>
            have SY := dk_sync HE.out HT.out (GV.ge QG.out LB0.out BG2.out S7.out.new) S7.out.lt (.inl rfl) S7.out.dk ((S7.out.cnt.few S7.out.alive HV.out.2.2.2.1).few (by decide) (by have := HV.out.2.2.2.2.1; omega)) S7.out.cj (S7.out.fine HV.out.1 HV.out.2.1)
            rcases J.life_sync S7.out.alive S7.out.cnt HFL1.out HV.out.2.2.2.1 with ⟨d3, es, hA3, hc3⟩ | ⟨d3, es, hE3, hoff⟩
            · rw [show J.JS.sync (jOf i n v life (J.total al)) d2 = (0, jOf i n v life (J.total al), d3) from es] at SY
              clear es
              have HA3 := Lib.hid hA3
              have HC3 := Lib.hid hc3
              clear hA3 hc3
              go_wp2_with fail
              refine SY.mono ?_
              rintro e w8 h8
              obtain ⟨rfl, dk8, cj8, k8⟩ := jkp_ok h8
              have S8 := Lib.hid (S7.out.next QB.out LBQ.out k8 HA3.out HC3.out dk8 cj8)
              have FN := Lib.hid (show LvAt ad w0 b q w.heap.size w1.heap.size cells D i n v life m sizes.length (.slice ga al.length gc) (.int .i64 al.length) (.bool false) (.int .i64 ((k : Int) + 1)) w8 from ⟨k + 1, al, al.length, d3, HLT.out, rfl, rfl, rfl, S8.out⟩)
              clear h8 dk8 cj8 k8 SY x2 hycell
              go_wp2
              rw [hk1]
              exact ⟨FN.out, HME.out⟩
            · rw [show J.JS.sync (jOf i n v life (J.total al)) d2 = (12, { jOf i n v life (J.total al) with dead := true }, d3) from es] at SY
              have HE3 := Lib.hid hE3
              have HOF := Lib.hid hoff
              have HFI := Lib.hid (show J.Fine { jOf i n v life (J.total al) with dead := true } d3 from by
                have h := ((S7.out.fine HV.out.1 HV.out.2.1).sync).1
                rw [show J.JS.sync (jOf i n v life (J.total al)) d2 = (12, { jOf i n v life (J.total al) with dead := true }, d3) from es] at h
                exact h)
              clear es hE3 hoff
              go_wp2_with fail
              refine SY.mono ?_
              rintro e w8 h8
              obtain ⟨rfl, dk8, cj8, k8⟩ := jkp_no h8
              have E8 := Lib.hid (show LvE ad w0 w8 b q w.heap.size w1.heap.size cells D i n v m (.slice ga al.length gc) al s { jOf i n v life (J.total al) with dead := true } d3 from ⟨(S7.out.call QB.out LBQ.out k8).1, S7.out.new, HE3.out, HFI.out, dk8, cj8, (S7.out.call QB.out LBQ.out k8).2, rfl, rfl, rfl⟩)
              obtain ⟨jE, hjE⟩ : ∃ jE : J.JS, { jOf i n v life (J.total al) with dead := true } = jE := ⟨_, rfl⟩
              rw [hjE] at E8
              have NU := num_any ad 12 _ (errs_since HE.out E8.out.dk.since) (by decide)
              rw [errV_pos ad (by decide)] at NU
              clear h8 dk8 cj8 k8 SY x2 hycell HFI HE3 hjE
              go_wp2_with fail
              refine NU.mono ?_
              rintro e w9 ⟨rfl, q9⟩
              have E9 := Lib.hid (E8.out.qt q9)
              have OF := dk_off E9.out.dk
              rw [HOF.out] at OF
              clear q9 NU
              obtain ⟨dE, hdE⟩ : ∃ x, x = d3 := ⟨_, rfl⟩
              subst hdE
              go_wp2_with fail
              refine OF.mono ?_
              rintro e wE ⟨rfl, rfl⟩
              have E := E9
              clear OF
              obtain ⟨hB2, fw2, cr2, len2, k2, hk1, hk2, hrep⟩ := J.end_crash E.out.ended (by rw [E.out.pos, E.out.n]; exact HB.out) (by rw [E.out.ver]; exact HV.out.2.2.1) (by rw [E.out.ver]; exact HV.out.2.1) (by rw [E.out.n]; have := HV.out.2.2.2.1; omega) ft
              rw [E.out.pos, E.out.n] at hB2
              rw [E.out.ver] at hB2
              rw [E.out.pos, E.out.n, E.out.ver] at hrep
              obtain ⟨td1, td2⟩ := tail_dead E.out.fine ft [120]
              have CR := Lib.hid (dk_crash E.out.lt E.out.dk (E.out.ended.few.few (by decide) (by have := HV.out.2.2.2.2.1; omega)) (.slice ka ft.kept.length kc) ft (HKS.out.qt E.out.dk.since.qt) (fun a x c e hx => .inl (HKS.out.block a x c e hx)))
              have FC := Lib.hid (E.out.fine.crash ft)
              have HB2 := Lib.hid hB2
              have FW2 := Lib.hid fw2
              have CR2 := Lib.hid cr2
              have LEN2 := Lib.hid len2
              have HK2 := Lib.hid (show s ≤ k2 ∧ k2 ≤ al.length from ⟨hk1, hk2⟩)
              have TD1 := Lib.hid td1
              have TD2 := Lib.hid td2
              have HRP := Lib.hid hrep
              have WY2 := Lib.hid (show (dE.crashD ft).ways = [] from rfl)
              have OF2 := Lib.hid (show (dE.crashD ft).off = false from rfl)
              have HCR := Lib.hid (show (dE.crashD ft).cr ≠ jE.life from by have := E.out.fine.life; show dE.cr + 1 ≠ jE.life; omega)
              generalize dE.crashD ft = dc at *
              have hkl : (al.take k2).length = k2 := by rw [List.length_take]; omega
              have HKL := Lib.hid hkl
              have zk1 := lv_le hk1
              have zk2 := lv_gt hk2
              have zk1' : decide (k2 < s) = false := decide_eq_false (Nat.not_lt.2 hk1)
              have zk2' : decide (al.length < k2) = false := decide_eq_false (Nat.not_lt.2 hk2)
              have SLR := slice_row ga HGA.out al.length gc k2 (Nat.le_trans hk2 HGC.out) (fun e => by
                have h0 : al = [] := by
                  rcases E.out.row.2 with ⟨_, h0⟩ | ⟨g, _, _, e2, _⟩
                  · exact List.length_eq_zero_iff.1 h0
                  · rw [e] at e2; injection e2 with e2; cases e2
                rw [h0] at hk2
                simpa using hk2)
              clear hB2 fw2 cr2 len2 hk1 hk2 hrep td1 td2 hkl
              obtain ⟨_, _, _, _, x4, x5, x6⟩ := BOX.out _ E.out.box
              unfold fateV at CR
              go_wp2_with fail
              refine CR.out.mono ?_
              rintro e wc ⟨rfl, dkc, kc2⟩
              have DC := Lib.hid dkc
              have CC := Lib.hid (E.out.cj.kept kc2 (fun e => e.2 (.inl rfl)))
              have RC2 := Lib.hid (E.out.row.kept kc2 (fun g hg e => e.2 (.inr (.inr hg))))
              have BC := Lib.hid ((kc2.block w.heap.size (lt_of_block E.out.box) (fun e => e.2 (.inr (.inl rfl)))).trans E.out.box)
              clear dkc kc2 x4 x5 x6 CR
              have RPL := dk_replay HE.out HT.out DC.out (i : Int) (n : Int) (v : Int) (by have := HV.out.2.2.2.1; omega)
              rw [HRP.out] at RPL
              go_wp2_with fail
              refine RPL.mono ?_
              rintro e wd h9
              obtain ⟨lv, rfl, hN⟩ := rpJ_ok h9
              obtain ⟨la, lc, rfl⟩ := hN.shape
              have lt0 := hN.texts
              rw [HKL.out] at lt0
              rw [HKL.out]
              have DD := Lib.hid (DC.out.qt hN.qt)
              have CD := Lib.hid (CC.out.qt hN.qt)
              have BD := Lib.hid ((hN.qt.block w.heap.size (lt_of_block BC.out) (fun e => e)).trans BC.out)
              have RD := Lib.hid (RC2.out.kept hN.qt (fun _ _ e => e))
              have LT := Lib.hid (show TextsIn wd (.slice la k2 lc) (al.take k2) from lt0)
              have AT := Lib.hid (RD.out.texts.take HK2.out.2)
              clear h9 hN RPL lt0
              go_wp2_with fail
              refine (same_yes LT.out AT.out (by rw [HKL.out]; have := HK2.out.2; have := HALE.out; omega)).mono ?_
              rintro e we ⟨rfl, q9⟩
              have DE := Lib.hid (DD.out.qt q9)
              have CE := Lib.hid (CD.out.qt q9)
              have GE := Lib.hid (show ∀ k, GV q w.heap.size (.slice ga al.length gc) k → k < we.heap.size from by
                rintro k (e | e | e)
                · rw [e]; exact CE.out.lt
                · rw [e]; exact Nat.lt_of_lt_of_le (lt_of_block BD.out) q9.size
                · exact Nat.lt_of_lt_of_le (ownsRow_lt RD.out e) q9.size)
              have GN := Lib.hid (GV.ge QG.out LB0.out BG2.out E.out.new)
              have AX := dk_appendM HE.out HT.out GN.out GE.out (.inl rfl) DE.out FW2.out (by decide) (by have := HV.out.2.2.2.2.1; omega) CE.out FC.out ⟨#[120]⟩ (by decide)
              rw [show (⟨#[120]⟩ : ByteArray).data.toList = [120] from rfl, TD1.out] at AX
              clear q9 LT AT
              go_wp2_with fail
              refine AX.mono ?_
              rintro e wf h10
              obtain ⟨rfl, dkf, cjf, kf⟩ := jkp_no h10
              have DF := Lib.hid dkf
              have CF := Lib.hid cjf
              have GF := Lib.hid (fun k e => Nat.lt_of_lt_of_le (GE.out k e) kf.size)
              have NU := num_any ad 12 _ (errs_since HE.out DF.out.since) (by decide)
              rw [errV_pos ad (by decide)] at NU
              clear h10 dkf cjf kf AX
              go_wp2_with fail
              refine NU.mono ?_
              rintro e wg ⟨rfl, q10⟩
              have DG := Lib.hid (DF.out.qt q10)
              have CG := Lib.hid (CF.out.qt q10)
              have GG := Lib.hid (fun k e => Nat.lt_of_lt_of_le (GF.out k e) q10.size)
              have SX := dk_sync HE.out HT.out GN.out GG.out (.inl rfl) DG.out (FW2.out.few (by decide) (by have := HV.out.2.2.2.2.1; omega)) CG.out (FC.out.kill (.inr HCR.out))
              rw [TD2.out] at SX
              clear q10 NU
              go_wp2_with fail
              refine SX.mono ?_
              rintro e wh h11
              obtain ⟨rfl, dkh, cjh, kh⟩ := jkp_no h11
              have DH := Lib.hid dkh
              have NV := num_any ad 12 _ (errs_since HE.out DH.out.since) (by decide)
              rw [errV_pos ad (by decide)] at NV
              clear h11 dkh cjh kh SX
              go_wp2_with fail
              refine NV.mono ?_
              rintro e wi ⟨rfl, q11⟩
              have DI := Lib.hid (DH.out.qt q11)
              clear q11 NV
              go_wp2
              go_ret
              exact ⟨rfl, dc, DI.out.more (fun k e => .inr e), HB2.out, FW2.out, CR2.out, LEN2.out, WY2.out, OF2.out⟩
        · have zy := sj_ge (Nat.le_of_not_lt hy)
          have zy' : decide (k < syncs.length) = false := decide_eq_false hy
          have FN := Lib.hid (FN0.out w7 (Qt.refl w7))
          clear hy
          go_wp2
          rw [hk1]
          exact ⟨FN.out, HME.out⟩
      · rw [ea] at AX
        have HFI := Lib.hid (show J.Fine { jOf i n v life (J.total all) with dead := true } d2 from by
          have h := ((S3.out.fine HV.out.1 HV.out.2.1).append rv).1
          rw [ea] at h
          exact h)
        have HEn := Lib.hid hEn
        have HOF := Lib.hid hoff
        clear ea hEn hoff
        go_wp2_with fail
        refine AX.mono ?_
        rintro e w4 h4
        obtain ⟨rfl, dk4, cj4, k4⟩ := jkp_no h4
        have EV4 := Lib.hid (S3.out.call QB.out LBQ.out k4)
        have DK4 := Lib.hid dk4
        have CJ4 := Lib.hid cj4
        have NU := num_any ad 12 _ (errs_since HE.out dk4.since) (by decide)
        rw [errV_pos ad (by decide)] at NU
        have K4S := Lib.hid k4.size
        clear h4 dk4 cj4 k4 AX
        go_wp2_with fail
        refine NU.mono ?_
        rintro e w5 ⟨rfl, q5⟩
        have ROW5 := Lib.hid (EV4.out.1.kept q5 (fun _ _ e => e))
        have BOX5 := Lib.hid ((q5.block w.heap.size (lt_of_block EV4.out.2) (fun e => e)).trans EV4.out.2)
        have DK5 := Lib.hid (DK4.out.qt q5)
        have CJ5 := Lib.hid (CJ4.out.qt q5)
        have BG5 := Lib.hid (show w1.heap.size ≤ w5.heap.size from Nat.le_trans BW3.out (Nat.le_trans K4S.out q5.size))
        have HOW := Lib.hid (fun o => (show (w5.alloc o).ownsRow 0 9 1 (.slice aa all.length ac) all.length (all.map strV) from ownsRow_kept ROW5.out ((Keeps.refl (fun _ => False) w5).alloc o) (fun _ _ h => h)))
        have hb1 : all.length + 1 ≤ maxLen := by have := HALB.out; unfold maxLen; omega
        have hb2 : (all.length + 1) * 16 ≤ 140737488355328 := by have := HALB.out; omega
        clear q5 NU
        go_wp2_with (at_builtin; refine wpList_append_cells0 _ rfl _ _ 66 rfl 9 i0 (.string ⟨#[]⟩) 1 16 Tryd.underlying66 hi0 hz0' hz1 hz2 rfl (by decide) _ all.length _ rfl (HOW.out _) ⟨w5.heap.size, 0, none⟩ 1 1 [.string R] rfl rfl ?c1 ?c2 hb1 hb2 ?_)
        case c1 => exact newsT1 w5 R
        case c2 => intro x hx; simp at hx; subst hx; rfl
        intro v' w7 own7 hg7 hl7 _
        obtain ⟨row7, new7, dk7, cj7, box7, big7⟩ := row_more (t := rv) QB.out (by have := lt_of_block B1.out; omega) QG.out LB0.out BG5.out S3.out.new DK5.out CJ5.out BOX5.out _ (by rw [HSTR.out]; exact own7) hg7 hl7
        have hal : (all ++ [rv]).length = all.length + 1 := by simp
        obtain ⟨ga, gc, rfl, hgc, hga⟩ := row7.shape
        have E7 := Lib.hid (show LvE ad w0 w7 b q w.heap.size w1.heap.size cells D i n v m (.slice ga (all ++ [rv]).length gc) (all ++ [rv]) s { jOf i n v life (J.total all) with dead := true } d2 from ⟨row7, new7, HEn.out, HFI.out, dk7, cj7, box7, rfl, rfl, rfl⟩)
        obtain ⟨jE, hjE⟩ : ∃ jE : J.JS, { jOf i n v life (J.total all) with dead := true } = jE := ⟨_, rfl⟩
        rw [hjE] at E7
        have HGA := Lib.hid hga
        have HGC := Lib.hid hgc
        have HALE := Lib.hid (show (all ++ [rv]).length ≤ 65 by have := HALB.out; omega)
        generalize all ++ [rv] = al at *
        have NV := num_any ad 12 _ (errs_since HE.out E7.out.dk.since) (by decide)
        rw [errV_pos ad (by decide)] at NV
        clear row7 new7 dk7 cj7 box7 own7 hg7 hl7 hga hgc hal HFI HEn hjE
        go_wp2_with fail
        refine NV.mono ?_
        rintro e w9 ⟨rfl, q9⟩
        have E9 := Lib.hid (E7.out.qt q9)
        have OF := dk_off E9.out.dk
        rw [HOF.out] at OF
        clear q9 NV
        obtain ⟨dE, hdE⟩ : ∃ x, x = d2 := ⟨_, rfl⟩
        subst hdE
        go_wp2_with fail
        refine OF.mono ?_
        rintro e wE ⟨rfl, rfl⟩
        have E := E9
        clear OF
        obtain ⟨hB2, fw2, cr2, len2, k2, hk1, hk2, hrep⟩ := J.end_crash E.out.ended (by rw [E.out.pos, E.out.n]; exact HB.out) (by rw [E.out.ver]; exact HV.out.2.2.1) (by rw [E.out.ver]; exact HV.out.2.1) (by rw [E.out.n]; have := HV.out.2.2.2.1; omega) ft
        rw [E.out.pos, E.out.n] at hB2
        rw [E.out.ver] at hB2
        rw [E.out.pos, E.out.n, E.out.ver] at hrep
        obtain ⟨td1, td2⟩ := tail_dead E.out.fine ft [120]
        have CR := Lib.hid (dk_crash E.out.lt E.out.dk (E.out.ended.few.few (by decide) (by have := HV.out.2.2.2.2.1; omega)) (.slice ka ft.kept.length kc) ft (HKS.out.qt E.out.dk.since.qt) (fun a x c e hx => .inl (HKS.out.block a x c e hx)))
        have FC := Lib.hid (E.out.fine.crash ft)
        have HB2 := Lib.hid hB2
        have FW2 := Lib.hid fw2
        have CR2 := Lib.hid cr2
        have LEN2 := Lib.hid len2
        have HK2 := Lib.hid (show s ≤ k2 ∧ k2 ≤ al.length from ⟨hk1, hk2⟩)
        have TD1 := Lib.hid td1
        have TD2 := Lib.hid td2
        have HRP := Lib.hid hrep
        have WY2 := Lib.hid (show (dE.crashD ft).ways = [] from rfl)
        have OF2 := Lib.hid (show (dE.crashD ft).off = false from rfl)
        have HCR := Lib.hid (show (dE.crashD ft).cr ≠ jE.life from by have := E.out.fine.life; show dE.cr + 1 ≠ jE.life; omega)
        generalize dE.crashD ft = dc at *
        have hkl : (al.take k2).length = k2 := by rw [List.length_take]; omega
        have HKL := Lib.hid hkl
        have zk1 := lv_le hk1
        have zk2 := lv_gt hk2
        have zk1' : decide (k2 < s) = false := decide_eq_false (Nat.not_lt.2 hk1)
        have zk2' : decide (al.length < k2) = false := decide_eq_false (Nat.not_lt.2 hk2)
        have SLR := slice_row ga HGA.out al.length gc k2 (Nat.le_trans hk2 HGC.out) (fun e => by
          have h0 : al = [] := by
            rcases E.out.row.2 with ⟨_, h0⟩ | ⟨g, _, _, e2, _⟩
            · exact List.length_eq_zero_iff.1 h0
            · rw [e] at e2; injection e2 with e2; cases e2
          rw [h0] at hk2
          simpa using hk2)
        clear hB2 fw2 cr2 len2 hk1 hk2 hrep td1 td2 hkl
        obtain ⟨_, _, _, _, x4, x5, x6⟩ := BOX.out _ E.out.box
        unfold fateV at CR
        go_wp2_with fail
        refine CR.out.mono ?_
        rintro e wc ⟨rfl, dkc, kc2⟩
        have DC := Lib.hid dkc
        have CC := Lib.hid (E.out.cj.kept kc2 (fun e => e.2 (.inl rfl)))
        have RC2 := Lib.hid (E.out.row.kept kc2 (fun g hg e => e.2 (.inr (.inr hg))))
        have BC := Lib.hid ((kc2.block w.heap.size (lt_of_block E.out.box) (fun e => e.2 (.inr (.inl rfl)))).trans E.out.box)
        clear dkc kc2 x4 x5 x6 CR
        have RPL := dk_replay HE.out HT.out DC.out (i : Int) (n : Int) (v : Int) (by have := HV.out.2.2.2.1; omega)
        rw [HRP.out] at RPL
        go_wp2_with fail
        refine RPL.mono ?_
        rintro e wd h9
        obtain ⟨lv, rfl, hN⟩ := rpJ_ok h9
        obtain ⟨la, lc, rfl⟩ := hN.shape
        have lt0 := hN.texts
        rw [HKL.out] at lt0
        rw [HKL.out]
        have DD := Lib.hid (DC.out.qt hN.qt)
        have CD := Lib.hid (CC.out.qt hN.qt)
        have BD := Lib.hid ((hN.qt.block w.heap.size (lt_of_block BC.out) (fun e => e)).trans BC.out)
        have RD := Lib.hid (RC2.out.kept hN.qt (fun _ _ e => e))
        have LT := Lib.hid (show TextsIn wd (.slice la k2 lc) (al.take k2) from lt0)
        have AT := Lib.hid (RD.out.texts.take HK2.out.2)
        clear h9 hN RPL lt0
        go_wp2_with fail
        refine (same_yes LT.out AT.out (by rw [HKL.out]; have := HK2.out.2; have := HALE.out; omega)).mono ?_
        rintro e we ⟨rfl, q9⟩
        have DE := Lib.hid (DD.out.qt q9)
        have CE := Lib.hid (CD.out.qt q9)
        have GE := Lib.hid (show ∀ k, GV q w.heap.size (.slice ga al.length gc) k → k < we.heap.size from by
          rintro k (e | e | e)
          · rw [e]; exact CE.out.lt
          · rw [e]; exact Nat.lt_of_lt_of_le (lt_of_block BD.out) q9.size
          · exact Nat.lt_of_lt_of_le (ownsRow_lt RD.out e) q9.size)
        have GN := Lib.hid (GV.ge QG.out LB0.out BG2.out E.out.new)
        have AX := dk_appendM HE.out HT.out GN.out GE.out (.inl rfl) DE.out FW2.out (by decide) (by have := HV.out.2.2.2.2.1; omega) CE.out FC.out ⟨#[120]⟩ (by decide)
        rw [show (⟨#[120]⟩ : ByteArray).data.toList = [120] from rfl, TD1.out] at AX
        clear q9 LT AT
        go_wp2_with fail
        refine AX.mono ?_
        rintro e wf h10
        obtain ⟨rfl, dkf, cjf, kf⟩ := jkp_no h10
        have DF := Lib.hid dkf
        have CF := Lib.hid cjf
        have GF := Lib.hid (fun k e => Nat.lt_of_lt_of_le (GE.out k e) kf.size)
        have NU := num_any ad 12 _ (errs_since HE.out DF.out.since) (by decide)
        rw [errV_pos ad (by decide)] at NU
        clear h10 dkf cjf kf AX
        go_wp2_with fail
        refine NU.mono ?_
        rintro e wg ⟨rfl, q10⟩
        have DG := Lib.hid (DF.out.qt q10)
        have CG := Lib.hid (CF.out.qt q10)
        have GG := Lib.hid (fun k e => Nat.lt_of_lt_of_le (GF.out k e) q10.size)
        have SX := dk_sync HE.out HT.out GN.out GG.out (.inl rfl) DG.out (FW2.out.few (by decide) (by have := HV.out.2.2.2.2.1; omega)) CG.out (FC.out.kill (.inr HCR.out))
        rw [TD2.out] at SX
        clear q10 NU
        go_wp2_with fail
        refine SX.mono ?_
        rintro e wh h11
        obtain ⟨rfl, dkh, cjh, kh⟩ := jkp_no h11
        have DH := Lib.hid dkh
        have NV := num_any ad 12 _ (errs_since HE.out DH.out.since) (by decide)
        rw [errV_pos ad (by decide)] at NV
        clear h11 dkh cjh kh SX
        go_wp2_with fail
        refine NV.mono ?_
        rintro e wi ⟨rfl, q11⟩
        have DI := Lib.hid (DH.out.qt q11)
        clear q11 NV
        go_wp2
        go_ret
        exact ⟨rfl, dc, DI.out.more (fun k e => .inr e), HB2.out, FW2.out, CR2.out, LEN2.out, WY2.out, OF2.out⟩
    · obtain rfl := sj_eq hk hlt
      have zlt := sj_ge (Nat.le_refl sizes.length)
      have ALV := Lib.hid (J.alive_replay hS.out.alive HB.out HV.out.2.2.1 HV.out.2.1 (show n < 65536 by have := HV.out.2.2.2.1; omega))
      have E0 := Lib.hid (hS.out.ended HV.out.1 HV.out.2.1 HV.out.2.2.2.1)
      obtain ⟨jE, hjE⟩ : ∃ jE, jOf i n v life (J.total all) = jE := ⟨_, rfl⟩
      rw [hjE] at E0
      have RP0 := dk_replay HE.out HT.out hS.out.dk (i : Int) (n : Int) (v : Int) (by have := HV.out.2.2.2.1; omega)
      rw [show J.replay dk (i : Int) (n : Int) (v : Int) = (all, 0) from ALV.out] at RP0
      clear hlt hk hjE
      obtain ⟨al, hal⟩ : ∃ al, al = all := ⟨_, rfl⟩
      subst hal
      obtain ⟨dE, hdE⟩ : ∃ x, x = dk := ⟨_, rfl⟩
      subst hdE
      obtain ⟨ga, hga⟩ : ∃ x, x = aa := ⟨_, rfl⟩
      subst hga
      obtain ⟨gc, hgc⟩ : ∃ x, x = ac := ⟨_, rfl⟩
      subst hgc
      go_wp2_with fail
      refine RP0.mono ?_
      rintro e wt ht
      obtain ⟨tv, rfl, hN⟩ := rpJ_ok ht
      obtain ⟨ta, tc, rfl⟩ := hN.shape
      have TT := Lib.hid hN.texts
      have AT0 := Lib.hid (hS.out.row.texts.qt hN.qt)
      have E1 := Lib.hid (E0.out.qt hN.qt)
      clear ht hN RP0
      go_wp2_with fail
      refine (same_yes TT.out AT0.out (by have := HALB.out; omega)).mono ?_
      rintro e wE ⟨rfl, q8⟩
      have E := Lib.hid (E1.out.qt q8)
      have HGA := HAA
      have HGC := HAC
      have HALE := HALB
      clear q8 TT AT0 E1 E0
      obtain ⟨hB2, fw2, cr2, len2, k2, hk1, hk2, hrep⟩ := J.end_crash E.out.ended (by rw [E.out.pos, E.out.n]; exact HB.out) (by rw [E.out.ver]; exact HV.out.2.2.1) (by rw [E.out.ver]; exact HV.out.2.1) (by rw [E.out.n]; have := HV.out.2.2.2.1; omega) ft
      rw [E.out.pos, E.out.n] at hB2
      rw [E.out.ver] at hB2
      rw [E.out.pos, E.out.n, E.out.ver] at hrep
      obtain ⟨td1, td2⟩ := tail_dead E.out.fine ft [120]
      have CR := Lib.hid (dk_crash E.out.lt E.out.dk (E.out.ended.few.few (by decide) (by have := HV.out.2.2.2.2.1; omega)) (.slice ka ft.kept.length kc) ft (HKS.out.qt E.out.dk.since.qt) (fun a x c e hx => .inl (HKS.out.block a x c e hx)))
      have FC := Lib.hid (E.out.fine.crash ft)
      have HB2 := Lib.hid hB2
      have FW2 := Lib.hid fw2
      have CR2 := Lib.hid cr2
      have LEN2 := Lib.hid len2
      have HK2 := Lib.hid (show s ≤ k2 ∧ k2 ≤ al.length from ⟨hk1, hk2⟩)
      have TD1 := Lib.hid td1
      have TD2 := Lib.hid td2
      have HRP := Lib.hid hrep
      have WY2 := Lib.hid (show (dE.crashD ft).ways = [] from rfl)
      have OF2 := Lib.hid (show (dE.crashD ft).off = false from rfl)
      have HCR := Lib.hid (show (dE.crashD ft).cr ≠ jE.life from by have := E.out.fine.life; show dE.cr + 1 ≠ jE.life; omega)
      generalize dE.crashD ft = dc at *
      have hkl : (al.take k2).length = k2 := by rw [List.length_take]; omega
      have HKL := Lib.hid hkl
      have zk1 := lv_le hk1
      have zk2 := lv_gt hk2
      have zk1' : decide (k2 < s) = false := decide_eq_false (Nat.not_lt.2 hk1)
      have zk2' : decide (al.length < k2) = false := decide_eq_false (Nat.not_lt.2 hk2)
      have SLR := slice_row ga HGA.out al.length gc k2 (Nat.le_trans hk2 HGC.out) (fun e => by
        have h0 : al = [] := by
          rcases E.out.row.2 with ⟨_, h0⟩ | ⟨g, _, _, e2, _⟩
          · exact List.length_eq_zero_iff.1 h0
          · rw [e] at e2; injection e2 with e2; cases e2
        rw [h0] at hk2
        simpa using hk2)
      clear hB2 fw2 cr2 len2 hk1 hk2 hrep td1 td2 hkl
      obtain ⟨_, _, _, _, x4, x5, x6⟩ := BOX.out _ E.out.box
      unfold fateV at CR
      go_wp2_with fail
      refine CR.out.mono ?_
      rintro e wc ⟨rfl, dkc, kc2⟩
      have DC := Lib.hid dkc
      have CC := Lib.hid (E.out.cj.kept kc2 (fun e => e.2 (.inl rfl)))
      have RC2 := Lib.hid (E.out.row.kept kc2 (fun g hg e => e.2 (.inr (.inr hg))))
      have BC := Lib.hid ((kc2.block w.heap.size (lt_of_block E.out.box) (fun e => e.2 (.inr (.inl rfl)))).trans E.out.box)
      clear dkc kc2 x4 x5 x6 CR
      have RPL := dk_replay HE.out HT.out DC.out (i : Int) (n : Int) (v : Int) (by have := HV.out.2.2.2.1; omega)
      rw [HRP.out] at RPL
      go_wp2_with fail
      refine RPL.mono ?_
      rintro e wd h9
      obtain ⟨lv, rfl, hN⟩ := rpJ_ok h9
      obtain ⟨la, lc, rfl⟩ := hN.shape
      have lt0 := hN.texts
      rw [HKL.out] at lt0
      rw [HKL.out]
      have DD := Lib.hid (DC.out.qt hN.qt)
      have CD := Lib.hid (CC.out.qt hN.qt)
      have BD := Lib.hid ((hN.qt.block w.heap.size (lt_of_block BC.out) (fun e => e)).trans BC.out)
      have RD := Lib.hid (RC2.out.kept hN.qt (fun _ _ e => e))
      have LT := Lib.hid (show TextsIn wd (.slice la k2 lc) (al.take k2) from lt0)
      have AT := Lib.hid (RD.out.texts.take HK2.out.2)
      clear h9 hN RPL lt0
      go_wp2_with fail
      refine (same_yes LT.out AT.out (by rw [HKL.out]; have := HK2.out.2; have := HALE.out; omega)).mono ?_
      rintro e we ⟨rfl, q9⟩
      have DE := Lib.hid (DD.out.qt q9)
      have CE := Lib.hid (CD.out.qt q9)
      have GE := Lib.hid (show ∀ k, GV q w.heap.size (.slice ga al.length gc) k → k < we.heap.size from by
        rintro k (e | e | e)
        · rw [e]; exact CE.out.lt
        · rw [e]; exact Nat.lt_of_lt_of_le (lt_of_block BD.out) q9.size
        · exact Nat.lt_of_lt_of_le (ownsRow_lt RD.out e) q9.size)
      have GN := Lib.hid (GV.ge QG.out LB0.out BG2.out E.out.new)
      have AX := dk_appendM HE.out HT.out GN.out GE.out (.inl rfl) DE.out FW2.out (by decide) (by have := HV.out.2.2.2.2.1; omega) CE.out FC.out ⟨#[120]⟩ (by decide)
      rw [show (⟨#[120]⟩ : ByteArray).data.toList = [120] from rfl, TD1.out] at AX
      clear q9 LT AT
      go_wp2_with fail
      refine AX.mono ?_
      rintro e wf h10
      obtain ⟨rfl, dkf, cjf, kf⟩ := jkp_no h10
      have DF := Lib.hid dkf
      have CF := Lib.hid cjf
      have GF := Lib.hid (fun k e => Nat.lt_of_lt_of_le (GE.out k e) kf.size)
      have NU := num_any ad 12 _ (errs_since HE.out DF.out.since) (by decide)
      rw [errV_pos ad (by decide)] at NU
      clear h10 dkf cjf kf AX
      go_wp2_with fail
      refine NU.mono ?_
      rintro e wg ⟨rfl, q10⟩
      have DG := Lib.hid (DF.out.qt q10)
      have CG := Lib.hid (CF.out.qt q10)
      have GG := Lib.hid (fun k e => Nat.lt_of_lt_of_le (GF.out k e) q10.size)
      have SX := dk_sync HE.out HT.out GN.out GG.out (.inl rfl) DG.out (FW2.out.few (by decide) (by have := HV.out.2.2.2.2.1; omega)) CG.out (FC.out.kill (.inr HCR.out))
      rw [TD2.out] at SX
      clear q10 NU
      go_wp2_with fail
      refine SX.mono ?_
      rintro e wh h11
      obtain ⟨rfl, dkh, cjh, kh⟩ := jkp_no h11
      have DH := Lib.hid dkh
      have NV := num_any ad 12 _ (errs_since HE.out DH.out.since) (by decide)
      rw [errV_pos ad (by decide)] at NV
      clear h11 dkh cjh kh SX
      go_wp2_with fail
      refine NV.mono ?_
      rintro e wi ⟨rfl, q11⟩
      have DI := Lib.hid (DH.out.qt q11)
      clear q11 NV
      go_wp2
      go_ret
      exact ⟨rfl, dc, DI.out.more (fun k e => .inr e), HB2.out, FW2.out, CR2.out, LEN2.out, WY2.out, OF2.out⟩
end Go.Proofs.YtggogaaooacooaaDoor
