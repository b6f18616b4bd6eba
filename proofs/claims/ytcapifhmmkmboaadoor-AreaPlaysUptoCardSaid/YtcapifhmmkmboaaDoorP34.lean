/-
  The contract of remitlaw09.AreaBack, over area's calls: it answers true.
  Layer 9: area's calls over a disk beside the document's own; what a step leaves.
-/
import Derived.Test.YtcapifhmmkmboaaDoorP33
import Derived.Test.YtcapifhmmkmboaaDoorP24
import Derived.Test.YtcapifhmmkmboaaDoorP31
import Derived.BigQuiet
import Derived.WalkLawsBesides
import Derived.Deep.DeepCutAuto
import Derived.Outline
import Derived.Test.YtcapifhmmkmboaaDoorP29
namespace Go.Proofs.YtcapifhmmkmboaaDoor
open Go.RowKit Go.WideShapes
set_option maxRecDepth 100000

/-- An Op of remitlaw09. -/
structure OpA where
  kind : Int
  i : Int
  n : Int
  st : Nat
  bytes : Int
  seed : Int
  kv : Value
  f : FT
def OpA.list (o : OpA) : List Value := [.int .i64 o.kind, .int .i64 o.i, .int .i64 o.n, .int .u64 o.st, .int .i64 o.bytes, .int .u64 o.seed, o.kv, .int .i64 o.f.torn, .int .i64 o.f.bytes]
def OpA.val (o : OpA) : Value := .agg o.list.toArray
/-- What the loop keeps. -/
def BackAt9 (w0 : World) (b : Nat) (iv : Value) (wr : World) : Prop := ∃ (k : Nat) (d : DS), k ≤ 12 ∧ iv = .int .i64 k ∧ BackI k d ∧ Own w0.heap.size wr b d ∧ Since w0.heap.size w0 wr

set_option maxHeartbeats 3200000 in
theorem back9_any (ad : Nat → Addr) (H : AreaH ad) (o : OpA) (hst : o.st < 18446744073709551616) (hon : o.n ≤ 9223372036854775807) (hkv : ∃ a n c, o.kv = .slice a n c) (w : World) (hE : Errs ad w) (hT : Tab w) :
    Calls Tryd.prog 6 #[o.val] w fun e w' => e = .returned (.bool true) ∧ Qt w w' := by
  obtain ⟨ka, kl, kc, hkv⟩ := hkv
  obtain ⟨kind, i, n, st, bytes, seed, kv, f⟩ := o
  simp only at hkv hst hon
  subst hkv
  obtain ⟨wF, hwF⟩ : ∃ wF, w.alloc (.cells #[.int .i64 kind, .int .i64 i, .int .i64 n, .int .u64 st, .int .i64 bytes, .int .u64 seed, .slice ka kl kc, .int .i64 f.torn, .int .i64 f.bytes] 40) = wF := ⟨_, rfl⟩
  have qF : Qt w wF := hwF ▸ (Qt.refl w).alloc _
  have hbl : wF.heap[w.heap.size]? = some (.cells #[.int .i64 kind, .int .i64 i, .int .i64 n, .int .u64 st, .int .i64 bytes, .int .u64 seed, .slice ka kl kc, .int .i64 f.torn, .int .i64 f.bytes] 40 (0, 0)) := hwF ▸ heap_alloc_new w _
  have HE := Lib.hid (hE.kept qF (OffErrs.none ad))
  have HT := Lib.hid (hT.qt qF)
  have HQF := Lib.hid qF
  have HBL := Lib.hid hbl
  have HWF := Lib.hid hwF
  have LV := lives9_any ad H wF HE.out HT.out
  have CC := Lib.hid (fun W (q : Qt wF W) => (show W.cell? ⟨w.heap.size, 1, none⟩ = some (.int .i64 i) ∧ W.cell? ⟨w.heap.size, 2, none⟩ = some (.int .i64 n) ∧ W.cell? ⟨w.heap.size, 3, none⟩ = some (.int .u64 st) ∧ W.cell? ⟨w.heap.size, 4, none⟩ = some (.int .i64 bytes) ∧ W.cell? ⟨w.heap.size, 5, none⟩ = some (.int .u64 seed) from by
    have hc : ∀ (j : Nat) (v : Value), (#[.int .i64 kind, .int .i64 i, .int .i64 n, .int .u64 st, .int .i64 bytes, .int .u64 seed, .slice ka kl kc, .int .i64 f.torn, .int .i64 f.bytes] : Array Value)[j]? = some v → W.cell? ⟨w.heap.size, j, none⟩ = some v := fun j v hv => q.cellv (p := ⟨w.heap.size, j, none⟩) (by rw [Lib.cell_of_heap hbl]; exact hv)
    exact ⟨hc 1 _ rfl, hc 2 _ rfl, hc 3 _ rfl, hc 4 _ rfl, hc 5 _ rfl⟩))
  clear hE hT qF hbl hwF
  unfold OpA.val OpA.list
  go_enter Tryd.func6, Tryd.ntmps6
  go_wp2_with fail
  rw [HWF.out]
  refine LV.mono ?_
  rintro e w1 ⟨rfl, q1⟩
  have K1 := Lib.hid (Qt.since (B := wF.heap.size) q1)
  clear q1 LV
  go_wp2_with fail
  refine (own_new K1.out 12 (by decide) (by decide)).mono ?_
  rintro e w2 ⟨b, rfl, h2, S2⟩
  have START := Lib.hid (show BackAt9 wF b (.int .i64 0) w2 from ⟨0, _, by omega, rfl, BackI.start, h2, S2⟩)
  clear h2 S2
  go_wp2
  go_loopw [5] (fun iv wr => BackAt9 wF b iv wr) (fun iv _ => 12 - (intOf iv).toNat)
  case atStart => exact START.out
  case round =>
    obtain ⟨k, d, hk, rfl, hI, hO, hS⟩ := hrel
    by_cases hlt : k < 12
    · have TX := fun (s : Int) => text9_any s 256 (by decide) wr
      have WR := Lib.hid (fun (T : ByteArray) (W : World) (q : Qt wr W) => own_write HE.out (keeps_qt hS q) (hO.qt q) (hI.few hk) (k : Int) T)
      have NX := Lib.hid (fun (T : ByteArray) (hT : T.size = 256) => hI.write hlt (s := strL T) (by unfold strL; rw [dlen7]; exact hT))
      have HLT := Lib.hid hlt
      have zlt : decide ((k : Int) < 12) = true := decide_eq_true (by omega)
      clear hI hO hS hk
      go_wp2_with fail
      refine (TX _).mono ?_
      rintro e w4 ⟨T, hT, rfl, q4⟩
      obtain ⟨a1, a2⟩ := NX.out T hT
      have W4 := WR.out T w4 q4
      rw [a1, errV_zero] at W4
      have A2 := Lib.hid a2
      clear TX a1 a2 q4 hT
      go_wp2_with fail
      refine W4.mono ?_
      rintro e w5 ⟨rfl, h5, k5⟩
      have FN := Lib.hid (show BackAt9 wF b (.int .i64 ((k : Int) + 1)) w5 from ⟨k + 1, _, HLT.out, by push_cast; rfl, A2.out, h5, k5⟩)
      clear h5 k5 W4
      go_wp2
      exact ⟨FN.out, by have := HLT.out; simp [intOf]; omega⟩
    · obtain rfl : k = 12 := by omega
      have FL := own_flush HE.out hS hO (hI.few (by decide))
      obtain ⟨f1, f2⟩ := hI.flush (DiskAt.ok hO)
      rw [f1, errV_zero] at FL
      obtain ⟨d1, hd1⟩ : ∃ d1, d.flushD = d1 := ⟨_, rfl⟩
      rw [hd1] at FL f2
      have F2 := Lib.hid f2
      clear hI hO hS f1 f2 hd1 hlt
      go_wp2_with fail
      refine FL.mono ?_
      rintro e w3 ⟨rfl, h3, k3⟩
      have H3 := Lib.hid h3
      have K3 := Lib.hid k3
      clear h3 k3 FL
      go_wp2_with fail
      refine (own_image K3.out H3.out).mono ?_
      rintro e w4 ⟨rfl, h4, k4, _⟩
      have H4 := Lib.hid h4
      have K4 := Lib.hid k4
      obtain ⟨c1, c2, c3, c4, c5⟩ := CC.out w4 k4.qt
      clear h4 k4
      obtain ⟨IM, hIM⟩ : ∃ IM : ByteArray, IM = ⟨d1.image.toArray⟩ := ⟨_, rfl⟩
      rw [← hIM]
      have HIM := Lib.hid hIM
      clear hIM
      have hmw : wrap64 ((IntKind.u64.wrap bytes).tmod 3001) = (modU bytes 3001 : Int) := modU_wrap bytes 3001 (by decide) (by decide)
      have hL : modU bytes 3001 ≤ 3000 := by have := Nat.mod_lt ((bytes % 18446744073709551616).toNat) (show 0 < 3001 by decide); unfold modU; omega
      generalize modU bytes 3001 = Ln at *
      have TX := Lib.hid (text9_any seed Ln (by omega) w4)
      go_wp2_with fail
      refine TX.out.mono ?_
      rintro e w5 ⟨T, hT, rfl, q5⟩
      have H5 := Lib.hid (H4.out.qt q5)
      have K5 := Lib.hid (keeps_qt K4.out q5)
      obtain ⟨c1, c2, c3, c4, c5⟩ := CC.out w5 (Since.qt K5.out)
      subst hT
      clear q5 hmw TX
      have WR := H.write _ wF w5 b d1 (Room.of HE.out HT.out) K5.out H5.out F2.out.fewA i n st T hst hon
      have RD := Lib.hid (fun (d2 : DS) (W : World) (q : Since wF.heap.size wF W) (h : Own wF.heap.size W b d2) => H.read _ wF W b d2 (Room.of HE.out HT.out) q h i n st (T.size : Int) hst hon)
      by_cases hm : d1.mayA i n st
      · have hl12 := F2.out.len
        obtain ⟨i, rfl⟩ := Int.eq_ofNat_of_zero_le hm.1
        obtain ⟨n, rfl⟩ := Int.eq_ofNat_of_zero_le hm.2.1
        have hi12 : i ≤ 12 := by have := hm.2.2.1; omega
        have hn12 : i + n ≤ 12 := by have := hm.2.2.2.1; omega
        have hst0 := hm.2.2.2.2
        by_cases hv : T.size ≤ 234 * n
        · obtain ⟨d2, e1, e2, e3, e4, e5, e6⟩ := F2.out.write hm (v := T.data.toList) (by rw [dlen7]; omega) hst
          rw [e1, errV_zero] at WR
          rw [dlen7] at e2 e5 e6
          have R2 := RD.out d2
          rw [e2] at R2
          unfold readE9 at R2
          rw [errV_zero] at R2
          simp only at R2
          rw [show (⟨T.data.toList.toArray⟩ : ByteArray) = T from (of_list rfl).symm] at R2
          have R3 := Lib.hid R2
          obtain ⟨NW, hNW⟩ : ∃ NW : ByteArray, NW = ⟨d2.image.toArray⟩ := ⟨_, rfl⟩
          have hNl : NW.data.toList = d2.image := by rw [hNW]
          have hIl : IM.data.toList = d1.image := by rw [HIM.out]
          have hIz : IM.size = 3072 := by rw [← dlen7, hIl]; exact F2.out.image
          have hNz : NW.size = 3072 := by rw [← dlen7, hNl]; exact e3
          obtain ⟨a, ha⟩ : ∃ a, 256 * i = a := ⟨_, rfl⟩
          obtain ⟨z, hz⟩ : ∃ z, 256 * (i + V.nsec T.size) = z := ⟨_, rfl⟩
          rw [ha] at e4
          rw [hz] at e5
          obtain ⟨X1, hX1⟩ : ∃ X1, IM.extract 0 a = X1 := ⟨_, rfl⟩
          obtain ⟨X2, hX2⟩ : ∃ X2, IM.extract z 3072 = X2 := ⟨_, rfl⟩
          have hX1' : NW.extract 0 a = X1 := by rw [← hX1]; apply ByteArray.ext; apply Array.toList_inj.1; rw [dslice, dslice, hNl, hIl]; simpa using e4
          have hX2' : NW.extract z 3072 = X2 := by
            rw [← hX2]; apply ByteArray.ext; apply Array.toList_inj.1; rw [dslice, dslice, hNl, hIl, e5]
          have SA1 : ∀ wx : World, (Instr.slice 9 (.string IM) none (some (.int .i64 (a : Int))) none).run Tryd.prog wx = .ok (.string X1) wx := fun wx => by
            have := run_slice_string_h (P := Tryd.prog) wx 9 IM Tryd.underlying9 .i64 (a : Int) (by omega) (by omega)
            rw [this, Int.toNat_natCast, hX1]
          have SA2 : ∀ wx : World, (Instr.slice 9 (.string NW) none (some (.int .i64 (a : Int))) none).run Tryd.prog wx = .ok (.string X1) wx := fun wx => by
            have := run_slice_string_h (P := Tryd.prog) wx 9 NW Tryd.underlying9 .i64 (a : Int) (by omega) (by omega)
            rw [this, Int.toNat_natCast, hX1']
          have SB1 : ∀ wx : World, (Instr.slice 9 (.string IM) (some (.int .i64 (z : Int))) none none).run Tryd.prog wx = .ok (.string X2) wx := fun wx => by
            have := run_slice_string_l (P := Tryd.prog) wx 9 IM Tryd.underlying9 .i64 (z : Int) (by omega) (by omega)
            rw [this, Int.toNat_natCast, hIz, hX2]
          have SB2 : ∀ wx : World, (Instr.slice 9 (.string NW) (some (.int .i64 (z : Int))) none none).run Tryd.prog wx = .ok (.string X2) wx := fun wx => by
            have := run_slice_string_l (P := Tryd.prog) wx 9 NW Tryd.underlying9 .i64 (z : Int) (by omega) (by omega)
            rw [this, Int.toNat_natCast, hNz, hX2']
          have HNW := Lib.hid hNW
          have hib : (i : Int) ≤ 12 := by omega
          have hnb : (n : Int) ≤ 12 := by omega
          have y0 : decide ((i : Int) ≤ 12) = true := decide_eq_true hib
          have ymax : max (i : Int) 0 = (i : Int) := by omega
          have y1 : decide ((n : Int) ≤ 12 - (i : Int)) = true := decide_eq_true (by omega)
          have y2 : ((st : Int) != 0) = true := by rw [bne_iff_ne]; omega
          have y3 : decide (234 * (n : Int) < (T.size : Int)) = false := decide_eq_false (by omega)
          have y4 : decide (234 * n < T.size) = false := decide_eq_false (by omega)
          have ia : 256 * (i : Int) = (a : Int) := by omega
          have iz : 256 * ((i : Int) + ((T.size : Int) + 233) / 234) = (z : Int) := by unfold V.nsec at hz; omega
          clear hm hv hst0 hi12 hn12 e1 e2 e3 e4 e5 e6 hX1 hX2 hX1' hX2' ha hz hNl hIl hNW R2
          go_wp2_with fail
          refine WR.mono ?_
          rintro e w6 ⟨rfl, h6, k6⟩
          have H6 := Lib.hid h6
          have K6 := Lib.hid k6
          obtain ⟨c1, c2, c3, c4, c5⟩ := CC.out w6 (Since.qt k6)
          clear h6 k6 WR
          go_wp2_with fail
          refine (own_image K6.out H6.out).mono ?_
          rw [← HNW.out]
          rintro e w7 ⟨rfl, h7, k7, _⟩
          have H7 := Lib.hid h7
          have K7 := Lib.hid k7
          obtain ⟨c1, c2, c3, c4, c5⟩ := CC.out w7 (Since.qt k7)
          clear h7 k7
          go_wp2_with fail
          have R7 := R3.out w7 K7.out H7.out
          refine R7.mono ?_
          rintro e w8 ⟨rfl, h8, k8⟩
          have K8 := Lib.hid k8
          obtain ⟨c1, c2, c3, c4, c5⟩ := CC.out w8 (Since.qt k8)
          clear h8 k8 R7
          go_wp2
          go_quiet (fail)
          go_wp2
          go_quiet (fail)
          go_wp2
          go_ret
          exact ⟨rfl, (Qt.trans HQF.out (Since.qt K8.out)).trans (((Qt.refl _).drewN _).drewN _)⟩
        · have hA : d1.areaW (i : Int) (n : Int) st T.data.toList = (3, d1) := by
            unfold DS.areaW
            rw [if_neg (fun k => k hm), if_pos (by rw [Int.toNat_natCast, dlen7]; omega)]
          rw [hA] at WR
          simp only at WR
          rw [errV_pos ad (by decide)] at WR
          have hIl : IM.data.toList = d1.image := by rw [HIM.out]
          have hIz : IM.size = 3072 := by rw [← dlen7, hIl]; exact F2.out.image
          have hib : (i : Int) ≤ 12 := by omega
          have hnb : (n : Int) ≤ 12 := by omega
          have y0 : decide ((i : Int) ≤ 12) = true := decide_eq_true hib
          have ymax : max (i : Int) 0 = (i : Int) := by omega
          have y1 : decide ((n : Int) ≤ 12 - (i : Int)) = true := decide_eq_true (by omega)
          have y2 : ((st : Int) != 0) = true := by rw [bne_iff_ne]; omega
          have y3 : decide (234 * (n : Int) < (T.size : Int)) = true := decide_eq_true (by omega)
          have y4 : decide (234 * n < T.size) = true := decide_eq_true (by omega)
          clear hm hv hst0 hi12 hn12 hIl hA RD
          go_wp2_with fail
          refine WR.mono ?_
          rintro e w6 ⟨rfl, h6, k6⟩
          have H6 := Lib.hid h6
          have K6 := Lib.hid k6
          obtain ⟨c1, c2, c3, c4, c5⟩ := CC.out w6 (Since.qt k6)
          clear h6 k6 WR
          go_wp2_with fail
          refine (own_image K6.out H6.out).mono ?_
          rw [← HIM.out]
          rintro e w7 ⟨rfl, h7, k7, _⟩
          have H7 := Lib.hid h7
          have K7 := Lib.hid k7
          obtain ⟨c1, c2, c3, c4, c5⟩ := CC.out w7 (Since.qt k7)
          clear h7 k7
          have NU := num_any ad 3 w7 (errs_since HE.out K7.out) (by decide)
          rw [errV_pos ad (by decide)] at NU
          go_wp2_with fail
          refine NU.mono ?_
          rintro e w8 ⟨rfl, q8⟩
          have Q8 := Lib.hid q8
          clear q8 NU
          go_wp2
          go_ret
          exact ⟨rfl, Qt.trans (Qt.trans HQF.out (Since.qt K7.out)) Q8.out⟩
      · have hA : d1.areaW i n st T.data.toList = (6, d1) := by
          unfold DS.areaW
          rw [if_pos hm]
        rw [hA] at WR
        simp only at WR
        rw [errV_pos ad (by decide)] at WR
        have hIl : IM.data.toList = d1.image := by rw [HIM.out]
        have hIz : IM.size = 3072 := by rw [← dlen7, hIl]; exact F2.out.image
        have HM := Lib.hid (show ¬ (0 ≤ i ∧ 0 ≤ n ∧ i ≤ 12 ∧ n ≤ 12 - i ∧ st ≠ 0) from fun k => hm ⟨k.1, k.2.1, by rw [F2.out.len]; exact k.2.2.1, by rw [F2.out.len]; exact k.2.2.2.1, k.2.2.2.2⟩)
        clear hm hIl hA RD
        go_wp2_with fail
        refine WR.mono ?_
        rintro e w6 ⟨rfl, h6, k6⟩
        have H6 := Lib.hid h6
        have K6 := Lib.hid k6
        obtain ⟨c1, c2, c3, c4, c5⟩ := CC.out w6 (Since.qt k6)
        clear h6 k6 WR
        go_wp2_with fail
        refine (own_image K6.out H6.out).mono ?_
        rw [← HIM.out]
        rintro e w7 ⟨rfl, h7, k7, _⟩
        have H7 := Lib.hid h7
        have K7 := Lib.hid k7
        obtain ⟨c1, c2, c3, c4, c5⟩ := CC.out w7 (Since.qt k7)
        clear h7 k7
        go_upto_region 19 with (fail)
        go_cut [10] from 73 to 99 (fun t wx => w7 = wx ∧ t = .bool false)
        case first =>
          by_cases b0 : 0 ≤ i
          · have z0 : decide (0 ≤ i) = true := decide_eq_true b0
            by_cases b1 : i ≤ 12
            · have z1 : decide (i ≤ 12) = true := decide_eq_true b1
              have zm : max i 0 = i := by omega
              by_cases b2 : 0 ≤ n
              · have z2 : decide (0 ≤ n) = true := decide_eq_true b2
                by_cases b3 : n ≤ 12 - i
                · have z3 : decide (n ≤ 12 - i) = true := decide_eq_true b3
                  have z4 : ((st : Int) != 0) = false := by
                    have h0 : st = 0 := Decidable.not_not.1 (fun h => HM.out ⟨b0, b2, b1, b3, h⟩)
                    rw [h0]; rfl
                  go_wp2
                  go_meet
                  exact ⟨rfl, rfl⟩
                · have z3 : decide (n ≤ 12 - i) = false := decide_eq_false b3
                  go_wp2
                  go_meet
                  exact ⟨rfl, rfl⟩
              · have z2 : decide (0 ≤ n) = false := decide_eq_false b2
                go_wp2
                go_meet
                exact ⟨rfl, rfl⟩
            · have z1 : decide (i ≤ 12) = false := decide_eq_false b1
              go_wp2
              go_meet
              exact ⟨rfl, rfl⟩
          · have z0 : decide (0 ≤ i) = false := decide_eq_false b0
            go_wp2
            go_meet
            exact ⟨rfl, rfl⟩
        case rest =>
          obtain ⟨rfl, rfl⟩ := hcut
          have NU := num_any ad 6 w7 (errs_since HE.out K7.out) (by decide)
          rw [errV_pos ad (by decide)] at NU
          go_wp2_with fail
          refine NU.mono ?_
          rintro e w8 ⟨rfl, q8⟩
          have Q8 := Lib.hid q8
          clear q8 NU
          go_wp2
          go_ret
          exact ⟨rfl, Qt.trans (Qt.trans HQF.out (Since.qt K7.out)) Q8.out⟩
end Go.Proofs.YtcapifhmmkmboaaDoor
namespace Go.Proofs.YtcapifhmmkmboaaDoor
open Go.RowKit Go.WideShapes
set_option maxRecDepth 100000

theorem DS.FewN.fewA {m : Nat} {d : DS} (h : d.FewN m) (hm : m ≤ 1073000000) : d.FewA := ⟨Nat.le_trans h.ways hm, Nat.le_trans h.wr (Nat.le_trans hm (by decide)), Nat.le_trans h.fl (Nat.le_trans hm (by decide)), Nat.le_trans h.cr (Nat.le_trans hm (by decide))⟩
theorem DS.FewN.area {m : Nat} {d : DS} (h : d.FewN m) (i n : Int) (st : Nat) (v : List UInt8) (hv : v.length ≤ 2000) : (d.areaW i n st v).2.FewN (m + 10) := by
  have hn : V.nsec v.length ≤ 9 := V.nsec_le.1 (by omega)
  unfold DS.areaW
  split
  · exact h.mono (by omega)
  · split
    · exact h.mono (by omega)
    · exact (h.go _ _).mono (by omega)
theorem DS.FewN.arm {m : Nat} {d : DS} (h : d.FewN m) (k : Int) : (d.armD k).FewN m := ⟨h.ways, h.wr, h.fl, h.cr⟩
theorem DS.FewN.crash {m : Nat} {d : DS} (h : d.FewN m) (f : FT) : (d.crashD f).FewN (m + 1) := by
  have h1 := h.ways; have h2 := h.wr; have h3 := h.fl; have h4 := h.cr
  exact ⟨by simp [DS.crashD], by simp [DS.crashD]; omega, by simp [DS.crashD]; omega, by simp [DS.crashD]; omega⟩
theorem areaGo_le {st i : Nat} {v : List UInt8} : ∀ (m k : Nat) {d : DS}, (DS.areaGo i st v m k d).1 ≤ 37
  | 0, _, d => by
    show d.flushE ≤ 37
    unfold DS.flushE
    repeat' split
    all_goals omega
  | m + 1, k, d => by
    rw [DS.areaGo]
    split
    · show d.writeE _ _ ≤ 37
      unfold DS.writeE
      have : d.reach ((i + k : Nat) : Int) ≤ 37 := by
        unfold DS.reach
        repeat' split
        all_goals omega
      repeat' split
      all_goals omega
    · exact areaGo_le m (k + 1)
theorem areaW_le (d : DS) (i n : Int) (st : Nat) (v : List UInt8) : (d.areaW i n st v).1 ≤ 37 := by
  unfold DS.areaW
  split
  · exact (by decide : (6 : Nat) ≤ 37)
  · split
    · exact (by decide : (3 : Nat) ≤ 37)
    · exact areaGo_le _ _
theorem areaR_le (d : DS) (i n : Int) (st : Nat) (z : Int) : (d.areaR i n st z).2 ≤ 37 := by
  unfold DS.areaR
  split
  · exact (by decide : (6 : Nat) ≤ 37)
  · split
    · exact (by decide : (3 : Nat) ≤ 37)
    · split
      · exact (by decide : (12 : Nat) ≤ 37)
      · split
        · exact (by decide : (0 : Nat) ≤ 37)
        · exact (by decide : (15 : Nat) ≤ 37)

section
variable {ad : Nat → Addr} {w0 w : World} {j b c : Nat} {d u : DS}
/-- What the disk's calls may turn: its own blocks, and what is new. -/
theorem pair_room {S : Nat → Prop} (hE : Errs ad w0) (hT : Tab w0) (h4 : ∀ k, S k → w0.heap.size ≤ k) (h6 : Since w0.heap.size w0 w) : Room ad (fun k => S k ∨ w.heap.size ≤ k) w := by
  have R := Room.of hE hT
  have hz := h6.size
  have hup : ∀ k, (S k ∨ w.heap.size ≤ k) → w0.heap.size ≤ k := by
    rintro k (e | e)
    · exact h4 k e
    · omega
  exact ⟨errs_since hE h6, hT.qt h6.qt, (off_since hE).mono hup, fun h => R.offTab (hup _ h), fun k hk => .inr hk⟩
theorem pair_area {S : Nat → Prop} {w' : World} {d' : DS} (h : DiskAt w' b d' (fun k => S k ∨ w.heap.size ≤ k)) : DiskAt w' b d' (Grow S w w') := by
  obtain ⟨gd, mb, uv, P, hS⟩ := h
  refine ⟨gd, mb, uv, P, fun k hk => ?_⟩
  rcases hS k hk with e | e
  · exact .inl e
  · exact .inr ⟨e, P.lt k hk⟩
theorem pair_areaW (H : AreaH ad) (hE : Errs ad w0) (hT : Tab w0) (hj : j < w.heap.size) (h : Pair j w0 w b c d u) {f : Nat} (hf : d.FewN f) (hf2 : f ≤ 1073000000) (i n : Int) (st : Nat) (hst : st < 18446744073709551616) (hn : n ≤ 9223372036854775807) (s : ByteArray) :
    Calls Tryd.prog 21 #[.pointer (some ⟨b, 0, none⟩), .int .i64 i, .int .i64 n, .int .u64 st, .string s] w fun e w' => e = .returned (errV ad (d.areaW i n st s.data.toList).1) ∧ Pair j w0 w' b c (d.areaW i n st s.data.toList).2 u ∧ Keeps (fun k => k ≠ j) w w' := by
  obtain ⟨S, T, h1, h2, h3, h4, h5, h6⟩ := h
  refine (H.write _ w w b d (pair_room hE hT (fun k e => (h4 k e).1) h6) (Keeps.refl _ w) (h1.mono (fun _ e => .inl e)) (hf.fewA hf2) i n st s hst hn).mono ?_
  rintro e w' ⟨he, hD, hK⟩
  have hK2 : Keeps S w w' := hK.mono (fun k hk e => e.resolve_right (by omega))
  exact ⟨he, Pair.left h2 h3 hj h4 h5 h6 (pair_area hD) hK2, hK2.mono (fun k _ e => (h4 k e).2.2)⟩
theorem pair_areaR (H : AreaH ad) (hE : Errs ad w0) (hT : Tab w0) (hj : j < w.heap.size) (h : Pair j w0 w b c d u) (i n : Int) (st : Nat) (hst : st < 18446744073709551616) (hn : n ≤ 9223372036854775807) (z : Int) :
    Calls Tryd.prog 24 #[.pointer (some ⟨b, 0, none⟩), .int .i64 i, .int .i64 n, .int .u64 st, .int .i64 z] w fun e w' => e = .returned (readE9 ad (d.areaR i n st z)) ∧ Pair j w0 w' b c d u ∧ Keeps (fun k => k ≠ j) w w' := by
  obtain ⟨S, T, h1, h2, h3, h4, h5, h6⟩ := h
  refine (H.read _ w w b d (pair_room hE hT (fun k e => (h4 k e).1) h6) (Keeps.refl _ w) (h1.mono (fun _ e => .inl e)) i n st z hst hn).mono ?_
  rintro e w' ⟨he, hD, hK⟩
  have hK2 : Keeps S w w' := hK.mono (fun k hk e => e.resolve_right (by omega))
  exact ⟨he, Pair.left h2 h3 hj h4 h5 h6 (pair_area hD) hK2, hK2.mono (fun k _ e => (h4 k e).2.2)⟩
end

/-- An Op of remitlaw09. -/
structure OpQ where
  kind : Int
  i : Int
  n : Int
  st : Nat
  bytes : Int
  seed : Int
  kv : Value
  f : FT
def OpQ.list (o : OpQ) : List Value := [.int .i64 o.kind, .int .i64 o.i, .int .i64 o.n, .int .u64 o.st, .int .i64 o.bytes, .int .u64 o.seed, o.kv, .int .i64 o.f.torn, .int .i64 o.f.bytes]
def OpQ.val (o : OpQ) : Value := .agg o.list.toArray
structure OpQ.Ok (W : World) (o : OpQ) : Prop where
  st : o.st < 18446744073709551616
  n : o.n ≤ 9223372036854775807
  kept : Bools W o.kv o.f.kept
  few : o.f.kept.length ≤ 140737488355328
theorem op9_kept {j : Nat} {o : OpQ} {W W' : World} (h : W.heap[j]? = some (.cells o.list.toArray 40 (0, 0))) (K : Keeps (fun k => k ≠ j) W W') : W'.heap[j]? = some (.cells o.list.toArray 40 (0, 0)) := (K.block j (lt_of_block h) (fun e => e rfl)).trans h
theorem op9_cells {j : Nat} {o : OpQ} {W : World} (h : W.heap[j]? = some (.cells o.list.toArray 40 (0, 0))) : W.cell? ⟨j, 0, none⟩ = some (.int .i64 o.kind) ∧ W.cell? ⟨j, 1, none⟩ = some (.int .i64 o.i) ∧ W.cell? ⟨j, 2, none⟩ = some (.int .i64 o.n) ∧ W.cell? ⟨j, 3, none⟩ = some (.int .u64 o.st) ∧ W.cell? ⟨j, 4, none⟩ = some (.int .i64 o.bytes) ∧ W.cell? ⟨j, 5, none⟩ = some (.int .u64 o.seed) ∧ W.cell? ⟨j, 6, none⟩ = some o.kv ∧ W.cell? ⟨j, 7, none⟩ = some (.int .i64 o.f.torn) ∧ W.cell? ⟨j, 8, none⟩ = some (.int .i64 o.f.bytes) := by
  have hc : ∀ (i : Nat) (v : Value), o.list[i]? = some v → W.cell? ⟨j, i, none⟩ = some v := fun i v hv => by rw [cell_of_row _ _ _ _ _ _ h]; simpa using hv
  exact ⟨hc 0 _ rfl, hc 1 _ rfl, hc 2 _ rfl, hc 3 _ rfl, hc 4 _ rfl, hc 5 _ rfl, hc 6 _ rfl, hc 7 _ rfl, hc 8 _ rfl⟩

/-- What a step leaves: both alike. -/
def StepP9 (w0 : World) (b c f : Nat) (e : Ending) (w' : World) : Prop := e = .returned (.bool true) ∧ ∃ j d', d'.FewN (f + 10) ∧ Pair j w0 w' b c d' d'
end Go.Proofs.YtcapifhmmkmboaaDoor
