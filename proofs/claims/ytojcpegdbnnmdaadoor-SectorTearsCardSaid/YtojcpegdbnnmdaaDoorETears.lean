/-
  The contract of remitlaw07.SectorTears: it answers true.
-/
import Derived.Test.YtojcpegdbnnmdaaDoorETear
import Derived.Test.YtojcpegdbnnmdaaDoorELift
namespace Go.Proofs.YtojcpegdbnnmdaaDoor
open Go.RowKit Go.WideShapes
set_option maxRecDepth 100000

/-- The loop over six probes. -/
def SixAt (w : World) (g : Nat) (x : Nat → Nat) (i : Value) (wr : World) : Prop := ∃ k : Nat, k ≤ 6 ∧ i = .int .i64 k ∧ (∀ j, j < 6 → wr.cell? ⟨g, j, none⟩ = some (.int .u64 (x j : Nat))) ∧ Qt w wr
theorem SixAt.next {w wr : World} {g k : Nat} {x : Nat → Nat} (hk : k < 6) (hc : ∀ j, j < 6 → wr.cell? ⟨g, j, none⟩ = some (.int .u64 (x j : Nat))) (q : Qt w wr) {W : World} (q2 : Qt wr W) : SixAt w g x (.int .i64 ((k : Int) + 1)) W :=
  ⟨k + 1, hk, by push_cast; rfl, fun j hj => q2.cellv (hc j hj), Qt.trans q q2⟩
def six (a b c d e f : Nat) (j : Nat) : Nat := match j with | 0 => a | 1 => b | 2 => c | 3 => d | 4 => e | _ => f
theorem six_lt {a b c d e f N : Nat} (h1 : a < N) (h2 : b < N) (h3 : c < N) (h4 : d < N) (h5 : e < N) (h6 : f < N) (j : Nat) : six a b c d e f j < N := by
  unfold six; split <;> assumption
theorem SixAt.start {w w3 : World} {a b c d e f : Nat} (q : Qt w w3) : SixAt w w3.heap.size (six a b c d e f) (.int .i64 0) (w3.alloc (.cells #[.int .u64 (a : Nat), .int .u64 (b : Nat), .int .u64 (c : Nat), .int .u64 (d : Nat), .int .u64 (e : Nat), .int .u64 (f : Nat)] 24)) := by
  have hn := heap_alloc_new w3 (.cells #[.int .u64 (a : Nat), .int .u64 (b : Nat), .int .u64 (c : Nat), .int .u64 (d : Nat), .int .u64 (e : Nat), .int .u64 (f : Nat)] 24)
  refine ⟨0, by omega, rfl, fun j hj => ?_, Keeps.alloc q _⟩
  rw [cell_of_row _ _ _ _ _ _ hn]
  match j, hj with
  | 0, _ => rfl
  | 1, _ => rfl
  | 2, _ => rfl
  | 3, _ => rfl
  | 4, _ => rfl
  | 5, _ => rfl

/-- A Write laid into a new block. -/
theorem laid_write (w : World) (o : Wr7) : ∃ W, w.alloc (.cells #[.int .u64 o.more, .string o.pay, .int .i64 o.bytes] 56) = W ∧ Qt w W ∧ (∀ W', Qt W W' → W'.cell? ⟨w.heap.size, 0, none⟩ = some (.int .u64 o.more) ∧ W'.cell? ⟨w.heap.size, 1, none⟩ = some (.string o.pay) ∧ W'.cell? ⟨w.heap.size, 2, none⟩ = some (.int .i64 o.bytes)) := by
  refine ⟨_, rfl, (Qt.refl w).alloc _, fun W' q => ?_⟩
  have hb := heap_alloc_new w (.cells #[.int .u64 o.more, .string o.pay, .int .i64 o.bytes] 56)
  have hb' := (q.block _ (lt_of_block hb) (fun e => e)).trans hb
  refine ⟨?_, ?_, ?_⟩ <;> (rw [cell_of_row W' _ _ _ _ _ hb']; rfl)

/-- What stands behind n writes. -/
def TearsAt (w : World) (N : Nat) (sv lv iv : Value) (wr : World) : Prop := ∃ (m last : Nat) (S : ByteArray), m ≤ N ∧ iv = .int .i64 m ∧ sv = .string S ∧ lv = .int .u64 last ∧ last < 18446744073709551616 ∧ S.size = 256 ∧ E.back S.data.toList ≤ last ∧ Qt w wr

set_option maxHeartbeats 6400000 in
theorem tears_any (er el ef : Addr) (v : Value) (g off probe : Nat) (os : List Wr7) (w : World) (hpr : probe < 18446744073709551616) (hok : ∀ (k : Nat) (o : Wr7), os[k]? = some o → o.Ok) (hs : Recs 3 Wr7.list w v g off os) (hE : E3 er el ef w) (hT : Tab w) :
    Calls Tryd.prog 6 #[v, .int .u64 probe] w fun e w' => e = .returned (.bool true) ∧ Qt w w' := by
  have FX := Lib.hid (fixed_any _ _ _ w hE hT)
  have HE := Lib.hid hE
  have HT := Lib.hid hT
  have HSC := Lib.hid hs
  have HOK := Lib.hid hok
  have hle := hs.le
  obtain ⟨va, vc, rfl, _⟩ := hs.val
  have hmk := fun W => (show (Instr.makeSlice 48 (.int .i64 256) (.int .i64 256)).run Tryd.prog W = .ok (.slice (some ⟨W.heap.size, 0, none⟩) 256 256) (W.alloc (.cells (madeCells #[Value.int .u8 0] 256) 5)) from make_zeros W 256 (by omega))
  obtain ⟨Z, hZ⟩ : ∃ A : ByteArray, A = ⟨(List.replicate 256 0).toArray⟩ := ⟨_, rfl⟩
  have hZl : Z.data.toList = List.replicate 256 0 := by rw [hZ]
  have bZ : E.back Z.data.toList = 0 := by rw [hZl]; unfold E.back; rw [List.drop_replicate]; exact E.num_zeros _
  have zZ : Z.size = 256 := by rw [← dlen7, hZl, List.length_replicate]
  have hcv := fun W => (zeros_conv (w := W) (c := 256) (Qt.refl _)).trans (by rw [← hZ])
  clear hZ hZl hs hok hE hT
  go_enter Tryd.func6, Tryd.ntmps6
  go_wp2_with fail
  refine FX.out.mono ?_
  rintro e w1 ⟨rfl, k⟩
  have K1 := Lib.hid k; clear k
  have hcv1 := hcv w1
  have START := Lib.hid (show TearsAt w os.length (.string Z) (.int .u64 0) (.int .i64 0) (w1.alloc (.cells (madeCells #[Value.int .u8 0] 256) 5)) from ⟨0, 0, Z, Nat.zero_le _, rfl, rfl, rfl, by omega, zZ, by omega, Keeps.alloc K1.out _⟩)
  clear hcv bZ zZ
  go_wp2
  go_loopw [5, 6, 23] (fun sv lv iv wr => TearsAt w os.length sv lv iv wr) (fun _ _ iv _ => os.length - (intOf iv).toNat)
  case atStart => exact START.out
  case round =>
    obtain ⟨m, last, S, hm, rfl, rfl, rfl, hlast, zS, bS, q⟩ := hrel
    by_cases hlt : m < os.length
    · obtain ⟨o, cap, ho, hval⟩ := HSC.out.elem hlt
      injection hval with hva _ hvc
      subst hva hvc
      have hom := (HOK.out m o ho).m
      have c0 : wr.cell? ⟨g, off + m * 3, none⟩ = some (.int .u64 o.more) := HSC.out.qt q ho 0 (.int .u64 o.more) rfl
      have c1 := HSC.out.qt q ho 1 (.string o.pay) rfl
      have c2 := HSC.out.qt q ho 2 (.int .i64 o.bytes) rfl
      obtain ⟨WA, hWA, qA, hCA⟩ := laid_write wr o
      obtain ⟨more, pay, bytes⟩ := o
      simp only at hom c0 c1 c2 hWA hCA
      have HCA := Lib.hid hCA
      have HQA := Lib.hid (Qt.trans q qA)
      have HWA := Lib.hid hWA
      obtain ⟨d0, d1, d2⟩ := hCA WA (Qt.refl _)
      clear hCA hWA q qA ho
      obtain ⟨mx, hmx, hmx1, hmxl⟩ : ∃ mx : Nat, max (more : Int) 1 = (mx : Int) ∧ 1 ≤ mx ∧ mx < 18446744073709551616 := ⟨max more 1, by omega, by omega, by omega⟩
      by_cases hov : 18446744073709551615 - (last : Int) < (mx : Int)
      · go_wp2_with fail
        rw [HWA.out]
        go_wp2
        go_ret
        exact ⟨rfl, HQA.out⟩
      · obtain ⟨nl, hnl, hnlt, hnl0⟩ : ∃ nl : Nat, (last : Int) + (mx : Int) = (nl : Int) ∧ nl < 18446744073709551616 ∧ last < nl := ⟨last + mx, by omega, by omega, by omega⟩
        have hnz : nl ≠ 0 := by omega
        obtain ⟨k, hk, hk256⟩ : ∃ k : Nat, max 0 (min bytes 256) = (k : Int) ∧ k ≤ 256 := ⟨(max 0 (min bytes 256)).toNat, by omega, by omega⟩
        have lc := cutL_length pay
        obtain ⟨B, hB⟩ : ∃ B : ByteArray, B = ⟨(E.sct nl (cutL pay)).toArray⟩ := ⟨_, rfl⟩
        have hBl : B.data.toList = E.sct nl (cutL pay) := by rw [hB]
        have bB : E.back B.data.toList = nl := by rw [hBl]; exact E.sct_back hnlt lc
        have zB : B.size = 256 := by rw [← dlen7, hBl]; exact E.sct_length nl lc
        have cBB : E.counts nl B.data.toList = true := by rw [hBl]; exact E.counts_sct hnz lc
        have laS := dlen7 S
        have laB := dlen7 B
        have SB := Lib.hid (fun W (q : Qt w W) => seal_good er el ef nl (cutL pay) W hnlt hnz lc (HE.out.qt q) (HT.out.qt q))
        rw [← hB] at SB
        obtain ⟨N1, N2, N3⟩ := E.next_tear (a := S.data.toList) (b := B.data.toList) (by omega) (by omega) bS bB hnl0 hk256
        obtain ⟨T, hTT⟩ : ∃ T : ByteArray, T = ⟨(E.tear S.data.toList B.data.toList k).toArray⟩ := ⟨_, rfl⟩
        have hTl : T.data.toList = E.tear S.data.toList B.data.toList k := by rw [hTT]
        have zT : T.size = 256 := by rw [← dlen7, hTl]; exact E.tear_length (by omega) (by omega) hk256
        have TE := Lib.hid (fun W (q : Qt w W) => tear_good er el ef S B k W zS zB hk256 (HE.out.qt q))
        rw [← hTT] at TE
        rw [← hTl] at N1 N2 N3
        have EN := Lib.hid (fun W (q : Qt w W) => ends_good er el ef T W zT (HE.out.qt q))
        have CN := Lib.hid (fun x (hx : x < 18446744073709551616) W (q : Qt w W) => counts_any er el ef x T W hx (HE.out.qt q) (HT.out.qt q))
        have CB := Lib.hid (fun W (q : Qt w W) => CN.out nl hnlt W q)
        have NO := Lib.hid (fun (x : Nat) (hx : x < 18446744073709551616) (hg : nl < x) => N2 (x := x) hx hg)
        have qB : (E.counts nl T.data.toList == (T.toList == B.toList)) = true := by
          rw [Lib.toList_data, Lib.toList_data]
          cases hc : E.counts nl T.data.toList with
          | true => rw [N3 hnlt hc]; simp
          | false =>
            have : T.data.toList ≠ B.data.toList := by intro h; rw [h, cBB] at hc; cases hc
            rw [beq_eq_false_iff_ne.2 this]; rfl
        have hfr : E.front T.data.toList < 18446744073709551616 := by
          have h := E.num_lt (T.data.toList.take 8)
          have h2 : (T.data.toList.take 8).length ≤ 8 := by rw [List.length_take]; omega
          exact Nat.lt_of_lt_of_le h (Nat.le_trans (Nat.pow_le_pow_right (by decide) h2) (by decide))
        have NX := Lib.hid (fun (W : World) (q : Qt w W) => (show TearsAt w os.length (.string T) (.int .u64 nl) (.int .i64 ((m : Int) + 1)) W from ⟨m + 1, nl, T, hlt, by push_cast; rfl, rfl, rfl, hnlt, zT, N1, q⟩))
        have C1 := Lib.hid (fun W => cut_any pay W)
        obtain ⟨p3, hp3, hp3l⟩ : ∃ p : Nat, IntKind.u64.wrap ((nl : Int) + 1) = (p : Int) ∧ p < 18446744073709551616 := ⟨(IntKind.u64.wrap ((nl : Int) + 1)).toNat, by rw [IntKind.wrap_u64]; omega, by rw [IntKind.wrap_u64]; omega⟩
        obtain ⟨p4, hp4, hp4l⟩ : ∃ p : Nat, IntKind.u64.wrap ((nl : Int) + 256) = (p : Int) ∧ p < 18446744073709551616 := ⟨(IntKind.u64.wrap ((nl : Int) + 256)).toNat, by rw [IntKind.wrap_u64]; omega, by rw [IntKind.wrap_u64]; omega⟩
        clear N2 N3 hB hBl bB zB cBB laS laB hTT hTl zT zS bS hnz
        generalize E.front T.data.toList = fr at *
        generalize E.back T.data.toList = bk at *
        generalize E.counts nl T.data.toList = cb at *
        go_wp2_with fail
        rw [HWA.out]
        go_wp2_with fail
        refine (C1.out _).mono ?_
        rintro e w2 ⟨rfl, rfl⟩
        go_wp2_with fail
        refine (SB.out _ HQA.out).mono ?_
        rintro e w3 ⟨rfl, k3⟩
        have K3 := Lib.hid (Qt.trans HQA.out k3)
        obtain ⟨_, _, d2'⟩ := HCA.out _ k3
        clear k3 HCA d0 d1 d2
        go_wp2_with fail
        refine (TE.out _ K3.out).mono ?_
        rintro e w4 ⟨rfl, k4⟩
        have K4 := Lib.hid (Qt.trans K3.out k4)
        clear k4 d2'
        go_wp2_with fail
        refine (CB.out _ K4.out).mono ?_
        rintro e w5 ⟨rfl, k5⟩
        have K5 := Lib.hid (Qt.trans K4.out k5)
        clear k5
        go_wp2_with fail
        refine (EN.out _ K5.out).mono ?_
        rintro e w6 ⟨rfl, k6⟩
        have K6 := Lib.hid (Qt.trans K5.out k6)
        clear k6
        have START2 := Lib.hid (SixAt.start (a := probe) (b := fr) (c := bk) (d := p3) (e := p4) (f := 18446744073709551615) K6.out)
        have hbk : ¬ (nl < bk) := by omega
        go_wp2
        go_loopw [16, 89] (fun _ i wr => SixAt w w6.heap.size (six probe fr bk p3 p4 18446744073709551615) i wr) (fun _ i _ => 6 - (intOf i).toNat)
        case atStart => exact START2.out
        case round =>
          obtain ⟨j, hj, rfl, hc, q⟩ := hrel
          have HQ := Lib.hid q; clear q
          by_cases hlt2 : j < 6
          · have hcm := hc j hlt2
            have HC := Lib.hid hc; clear hc
            have hy : six probe fr bk p3 p4 18446744073709551615 j < 18446744073709551616 := six_lt (by omega) (by omega) (by omega) (by omega) (by omega) (by omega) j
            have FIN := Lib.hid (fun W (q2 : Qt wr W) => SixAt.next (k := j) hlt2 HC.out HQ.out q2)
            generalize six probe fr bk p3 p4 18446744073709551615 j = y at hcm hy
            by_cases y1 : nl < y
            · have CY := CN.out y hy wr HQ.out
              rw [NO.out y hy y1] at CY
              have CYH := Lib.hid CY; clear CY
              go_wp2_with fail
              refine CYH.out.mono ?_
              rintro e wx ⟨rfl, kx⟩
              have FIN2 := Lib.hid (FIN.out _ kx)
              go_wp2
              exact ⟨FIN2.out, by simp [intOf]; omega⟩
            · have FIN2 := Lib.hid (FIN.out _ (Qt.refl _))
              go_wp2
              exact ⟨FIN2.out, by simp [intOf]; omega⟩
          · obtain rfl : j = 6 := by omega
            clear hc
            have FIN := Lib.hid (NX.out _ HQ.out)
            go_wp2
            exact ⟨FIN.out, by simp [intOf]; omega⟩
    · obtain rfl : m = os.length := by omega
      have HQ := Lib.hid q; clear q
      go_wp2
      go_ret
      exact ⟨rfl, HQ.out⟩
end Go.Proofs.YtojcpegdbnnmdaaDoor
