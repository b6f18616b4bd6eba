/-
  The contract of remitlaw08.SlotsApart: it answers true.
-/
import Derived.Test.YtnnkibhlildojaaDoorGLivesQ5
import Derived.Test.YtnnkibhlildojaaDoorGLongQ5
import Derived.Test.YtnnkibhlildojaaDoorGApartPQ5
import Derived.Test.YtnnkibhlildojaaDoorRecsQ5
import Derived.Test.YtnnkibhlildojaaDoorERefSQ5
import Derived.WalkLawsBesides
import Derived.Deep.DeepCutAuto
import Derived.Outline
import Derived.BigQuiet
namespace Go.Proofs.YtnnkibhlildojaaDoor
open Go.RowKit Go.WideShapes
set_option maxRecDepth 100000

theorem zeros8_any (w : World) : Calls Tryd.prog 23 #[] w fun e w' => e = .returned (.string ⟨zeros.toArray⟩) ∧ Qt w w' := by
  have hmk : (Instr.makeSlice 64 (.int .i64 256) (.int .i64 256)).run Tryd.prog w = .ok (.slice (some ⟨w.heap.size, 0, none⟩) 256 256) (w.alloc (.cells (madeCells #[Value.int .u8 0] 256) 5)) := make_zeros w 256 (by decide)
  have hcv : (convert 64 9 (.slice (some ⟨w.heap.size, 0, none⟩) 256 256)).run Tryd.prog (w.alloc (.cells (madeCells #[Value.int .u8 0] 256) 5)) = .ok (.string ⟨zeros.toArray⟩) (w.alloc (.cells (madeCells #[Value.int .u8 0] 256) 5)) := zeros_conv (Qt.refl (w.alloc (.cells (madeCells #[Value.int .u8 0] 256) 5)))
  generalize zeros = Z at *
  have FIN := Lib.hid ((Qt.refl w).alloc (.cells (madeCells #[Value.int .u8 0] 256) 5))
  go_enter Tryd.func23, Tryd.ntmps23
  go_wp2
  go_ret
  exact ⟨rfl, FIN.out⟩

/-- What may turn by a disk's call: what is new, but neither of the law's own two rows. -/
def ApartS (w0 : World) (L C : Nat) (k : Nat) : Prop := w0.heap.size ≤ k ∧ k ≠ L ∧ k ≠ C
/-- The disk and the law's own two rows in memory. -/
structure ApartM (w0 : World) (b L C : Nat) (d : DS) (c0 : Nat) (l0 : ByteArray) (c1 : Nat) (l1 : ByteArray) (wr : World) : Prop where
  disk : DiskAt wr b d (ApartS w0 L C)
  since : Since w0.heap.size w0 wr
  last : wr.heap[L]? = some (.cells #[.string l0, .string l1] 54 (0, 0))
  count : wr.heap[C]? = some (.cells #[.int .i64 c0, .int .i64 c1] 55 (0, 0))
  apart : L ≠ C
  newL : w0.heap.size ≤ L
  newC : w0.heap.size ≤ C
section
variable {ad : Nat → Addr} {w0 wr w' : World} {b L C c0 c1 : Nat} {d d' : DS} {l0 l1 : ByteArray}
theorem ApartM.room (h : ApartM w0 b L C d c0 l0 c1 l1 wr) (hE : Errs ad w0) (hT : Tab w0) : Room ad (ApartS w0 L C) wr := by
  have R := Room.of hE hT
  refine ⟨errs_since hE h.since, hT.qt h.since.qt, (off_since hE).mono (fun k h => h.1), fun h => R.offTab h.1, fun k hk => ⟨?_, ?_, ?_⟩⟩
  · have := h.since.size; omega
  · have := lt_of_block h.last; omega
  · have := lt_of_block h.count; omega
theorem ApartM.step (h : ApartM w0 b L C d c0 l0 c1 l1 wr) (hD : DiskAt w' b d' (ApartS w0 L C)) (hK : Keeps (ApartS w0 L C) wr w') : ApartM w0 b L C d' c0 l0 c1 l1 w' :=
  ⟨hD, Keeps.trans h.since hK (fun _ _ e => e.1), (hK.block L (lt_of_block h.last) (fun e => e.2.1 rfl)).trans h.last, (hK.block C (lt_of_block h.count) (fun e => e.2.2 rfl)).trans h.count, h.apart, h.newL, h.newC⟩
theorem ApartM.qt (h : ApartM w0 b L C d c0 l0 c1 l1 wr) (q : Qt wr w') : ApartM w0 b L C d c0 l0 c1 l1 w' := h.step (h.disk.qt q) (Keeps.mono q (fun _ _ e => e.elim))
theorem ApartM.cells (h : ApartM w0 b L C d c0 l0 c1 l1 wr) : wr.cell? ⟨L, 0, none⟩ = some (.string l0) ∧ wr.cell? ⟨L, 1, none⟩ = some (.string l1) ∧ wr.cell? ⟨C, 0, none⟩ = some (.int .i64 c0) ∧ wr.cell? ⟨C, 1, none⟩ = some (.int .i64 c1) := by
  refine ⟨?_, ?_, ?_, ?_⟩
  · rw [Lib.cell_of_heap h.last]; rfl
  · rw [Lib.cell_of_heap h.last]; rfl
  · rw [Lib.cell_of_heap h.count]; rfl
  · rw [Lib.cell_of_heap h.count]; rfl
theorem ApartM.frozen (h : ApartM w0 b L C d c0 l0 c1 l1 wr) (i : Nat) : wr.frozen? ⟨L, i, none⟩ = false ∧ wr.frozen? ⟨C, i, none⟩ = false := ⟨Lib.frozen_of_heap h.last i, Lib.frozen_of_heap h.count i⟩
theorem ApartM.store (h : ApartM w0 b L C d c0 l0 c1 l1 wr) (i : Nat) (u v : Value) {x0 x1 y0 y1 : Value} (hx : (#[Value.int .i64 (c0 : Int), Value.int .i64 (c1 : Int)] : Array Value).setIfInBounds i u = #[x0, x1]) (hy : (#[Value.string l0, Value.string l1] : Array Value).setIfInBounds i v = #[y0, y1]) :
    DiskAt ((wr.setCell ⟨C, i, none⟩ u).setCell ⟨L, i, none⟩ v) b d (ApartS w0 L C) ∧ Since w0.heap.size w0 ((wr.setCell ⟨C, i, none⟩ u).setCell ⟨L, i, none⟩ v) ∧
    ((wr.setCell ⟨C, i, none⟩ u).setCell ⟨L, i, none⟩ v).heap[L]? = some (.cells #[y0, y1] 54 (0, 0)) ∧ ((wr.setCell ⟨C, i, none⟩ u).setCell ⟨L, i, none⟩ v).heap[C]? = some (.cells #[x0, x1] 55 (0, 0)) := by
  have k1 := keeps_setCell wr C i u
  have k2 := keeps_setCell (wr.setCell ⟨C, i, none⟩ u) L i v
  have hC1 := setCell_row h.count i u
  have hL1 : (wr.setCell ⟨C, i, none⟩ u).heap[L]? = _ := (k1.block L (lt_of_block h.last) h.apart).trans h.last
  have hL2 := setCell_row hL1 i v
  have hC2 := (k2.block C (lt_of_block hC1) (fun e => h.apart e.symm)).trans hC1
  rw [hx] at hC2
  rw [hy] at hL2
  refine ⟨?_, ?_, hL2, hC2⟩
  · have d1 := h.disk.kept k1 (fun k e f => e.2.2 f)
    exact d1.kept k2 (fun k e f => e.2.1 f)
  · have s1 := Keeps.trans h.since k1 (fun _ _ e => by have := h.newC; omega)
    exact Keeps.trans s1 k2 (fun _ _ e => by have := h.newL; omega)
theorem ApartM.store0 (h : ApartM w0 b L C d c0 l0 c1 l1 wr) (s : ByteArray) : ApartM w0 b L C d (c0 + 1) s c1 l1 ((wr.setCell ⟨C, 0, none⟩ (.int .i64 ((c0 : Int) + 1))).setCell ⟨L, 0, none⟩ (.string s)) := by
  obtain ⟨a, b, c, e⟩ := h.store 0 (.int .i64 ((c0 : Int) + 1)) (.string s) rfl rfl
  exact ⟨a, b, c, by rw [e]; push_cast; rfl, h.apart, h.newL, h.newC⟩
theorem ApartM.store1 (h : ApartM w0 b L C d c0 l0 c1 l1 wr) (s : ByteArray) : ApartM w0 b L C d c0 l0 (c1 + 1) s ((wr.setCell ⟨C, 1, none⟩ (.int .i64 ((c1 : Int) + 1))).setCell ⟨L, 1, none⟩ (.string s)) := by
  obtain ⟨a, b, c, e⟩ := h.store 1 (.int .i64 ((c1 : Int) + 1)) (.string s) rfl rfl
  exact ⟨a, b, c, by rw [e]; push_cast; rfl, h.apart, h.newL, h.newC⟩
theorem ApartM.reads (h : ApartM w0 b L C d c0 l0 c1 l1 wr) (hE : Errs ad w0) (hT : Tab w0) (i : Int) {W : World} (q : Qt wr W) :
    Calls Tryd.prog 10 #[.pointer (some ⟨b, 0, none⟩), .int .i64 i] W fun e w' => e = .returned (readT ad (d.slotsR i)) ∧ Qt W w' := by
  have h2 := h.qt q
  have R := h2.room hE hT
  exact slotsRead_h ad R.errs (slotH_any R.errs R.tab) h2.disk i
end

/-- What the loop keeps. -/
def ApartAt (w0 : World) (b L C N : Nat) (iv : Value) (wr : World) : Prop :=
  ∃ (k : Nat) (d : DS) (c0 : Nat) (l0 : ByteArray) (c1 : Nat) (l1 : ByteArray), k ≤ N ∧ iv = .int .i64 k ∧ ApartI k d c0 l0.data.toList c1 l1.data.toList ∧ ApartM w0 b L C d c0 l0 c1 l1 wr
/-- The inner loop reads both. -/
def BothAt (w5 : World) (jv : Value) (wx : World) : Prop := ∃ j : Nat, j ≤ 2 ∧ jv = .int .i64 j ∧ Qt w5 wx

set_option maxHeartbeats 3200000 in
theorem apart8_any (ad : Nat → Addr) (v wv : Value) (g off : Nat) (os : List ByteArray) (bl : List Bool) (w : World) (hs : Recs 1 (fun s : ByteArray => [Value.string s]) w v g off os) (hb : Bools w wv bl) (hE : Errs ad w) (hT : Tab w) :
    Calls Tryd.prog 6 #[v, wv] w fun e w' => e = .returned (.bool true) ∧ Qt w w' := by
  have HE := Lib.hid hE
  have HT := Lib.hid hT
  have HSC := Lib.hid hs
  have hle := hs.le
  have LV := lives8_any ad w hE hT
  obtain ⟨va, vc, rfl, _⟩ := hs.val
  obtain ⟨wa, wc, rfl, hwc⟩ := hb
  have HWC := Lib.hid hwc
  clear hwc
  by_cases h500 : os.length ≤ 500
  · have NW := Lib.hid (fun (W : World) (q : Since w.heap.size w W) => own_new q 6 (by decide) (by decide))
    clear hs hE hT
    have z0 : decide ((500 : Int) < (os.length : Int)) = false := decide_eq_false (by omega)
    have H500 := Lib.hid h500
    clear h500 hle
    go_enter Tryd.func6, Tryd.ntmps6
    go_wp2_with fail
    refine LV.mono ?_
    rintro e w1 ⟨rfl, q1⟩
    have K1 := Lib.hid (Qt.since (B := w.heap.size) q1)
    clear q1 LV
    go_wp2_with fail
    refine (NW.out _ K1.out).mono ?_
    rintro e w2 ⟨b, rfl, h2, S2⟩
    have START := Lib.hid (show ApartAt w b w2.heap.size (w2.heap.size + 1) os.length (.int .i64 0) ((w2.alloc (.cells #[.string ⟨#[]⟩, .string ⟨#[]⟩] 54)).alloc (.cells #[.int .i64 0, .int .i64 0] 55)) from by
      refine ⟨0, DS.newD 6, 0, ⟨#[]⟩, 0, ⟨#[]⟩, Nat.zero_le _, rfl, ApartI.start, ?_, ?_, ?_, ?_, by omega, S2.size, by have := S2.size; omega⟩
      · obtain ⟨gd, mb, uv, P, hS⟩ := h2
        refine DiskAt.qt ⟨gd, mb, uv, P, fun k hk => ⟨hS k hk, ?_, ?_⟩⟩ (((Qt.refl w2).alloc _).alloc _)
        · have := P.lt k hk; omega
        · have := P.lt k hk; omega
      · exact since_qt S2 (((Qt.refl w2).alloc _).alloc _)
      · rw [Below.heap_alloc _ _ _ (by rw [World.size_alloc]; omega)]
        exact heap_alloc_new w2 _
      · have := heap_alloc_new (w2.alloc (.cells #[.string ⟨#[]⟩, .string ⟨#[]⟩] 54)) (.cells #[.int .i64 0, .int .i64 0] 55)
        rw [World.size_alloc] at this
        exact this)
    clear h2 S2
    go_wp2
    generalize w2.heap.size + 1 = C at *
    generalize w2.heap.size = L at *
    go_loopw [43] (fun iv wr => ApartAt w b L C os.length iv wr) (fun iv _ => os.length - (intOf iv).toNat)
    case atStart => exact START.out
    case round =>
      obtain ⟨k, d, c0, l0, c1, l1, hk, rfl, hI, hM⟩ := hrel
      have hS := hM.since
      by_cases hlt : k < os.length
      · obtain ⟨o, cap, ho, hval⟩ := HSC.out.elem hlt
        injection hval with hva _ hvc
        subst hva hvc
        have e0 : wr.cell? ⟨g, off + k, none⟩ = some (.string o) := by have := HSC.out.qt hS.qt ho 0 (.string o) rfl; simpa using this
        go_upto_region 13 with (fail)
        go_cut [57] from 48 to 57 (fun t wx => wr = wx ∧ ∃ bb : Bool, t = .bool bb)
        case first =>
          by_cases hw : k < bl.length
          · obtain ⟨wg, wo, rfl, hcw⟩ := HWC.out k bl[k] (List.getElem?_eq_getElem hw)
            have hcw2 := hS.qt.cellv hcw
            have zw : decide ((k : Int) < (bl.length : Int)) = true := decide_eq_true (by omega)
            generalize bl[k] = bk at *
            clear hcw
            go_wp2
            go_meet
            exact ⟨rfl, _, rfl⟩
          · have zw : decide ((k : Int) < (bl.length : Int)) = false := decide_eq_false (by omega)
            go_wp2
            go_meet
            exact ⟨rfl, _, rfl⟩
        case rest =>
          obtain ⟨rfl, bb, rfl⟩ := hcut
          have hk500 : k ≤ 500 := by have := H500.out; omega
          refine Bool.casesOn bb ?_ ?_
          -- the two places
          · -- place 0
            have hck : c0 ≤ 500 := by have := hI.p0.1; omega
            have wc1 : IntKind.i64.wrap ((c0 : Int) + 1) = (c0 : Int) + 1 := by rw [IntKind.wrap_i64]; omega
            have wc2 : wrap64 ((c0 : Int) + 1) = (c0 : Int) + 1 := by unfold wrap64; omega
            have hc1 : (((c0 + 1 : Nat)) : Int) = (c0 : Int) + 1 := by push_cast; rfl
            obtain ⟨cl0, cl1, cc0, cc1⟩ := hM.cells
            obtain ⟨fl0, fc0⟩ := hM.frozen 0
            by_cases hz : 234 < o.size
            · have zz : decide ((234 : Int) < (o.size : Int)) = true := decide_eq_true (by omega)
              have hfit : d.fitS ((1 : Nat) : Int) := ⟨by omega, by have := hI.len; omega⟩
              have WL : ∀ n, Calls Tryd.prog 16 #[.pointer (some ⟨b, 0, none⟩), .int .i64 1, .int .i64 ((c0 : Int) + 1), .string o] (wr.drewN n) fun e w' => e = .returned (.iface 104 (.pointer (some (ad 3)))) ∧ ∃ m, w' = (wr.drewN n).drewN m := fun n => by
                have h := slotsWrite_long (ad 3) (hM.qt ((Qt.refl wr).drewN n)).disk 1 (c0 + 1) o hfit (by omega) (by omega) hz ((errs_since HE.out (hM.qt ((Qt.refl wr).drewN n)).since).cells 2 _ rfl)
                rw [hc1] at h
                exact h
              have WLH := Lib.hid WL
              have e3 : wr.cell? ⟨2, 0, none⟩ = some (.iface 104 (.pointer (some (ad 3)))) := (errs_since HE.out hM.since).cells 2 _ rfl
              have NE := ne_same (ad 3)
              have FIN := Lib.hid (fun n => (show ApartAt w b L C os.length (.int .i64 ((k : Int) + 1)) (wr.drewN n) from ⟨k + 1, d, c0, l0, c1, l1, hlt, by push_cast; rfl, hI.more, hM.qt ((Qt.refl wr).drewN n)⟩))
              have HLT := Lib.hid hlt
              clear hI hM hS hz hfit WL hc1 hck hlt hk
              go_wp2
              go_quiet ((go_at_call 16; exact Calls.quiet_of (WLH.out _)))
              go_wp2
              exact ⟨FIN.out _, by have := HLT.out; simp [intOf]; omega⟩
            · have zz : decide ((234 : Int) < (o.size : Int)) = false := decide_eq_false (by omega)
              have hp : o.data.toList.length ≤ 234 := by rw [dlen7]; omega
              obtain ⟨d2, a1, a2, I2⟩ := hI.step0 (p := o.data.toList) hk500 hp
              have M2 := hM.store0 o
              have k1 := keeps_setCell wr C 0 (.int .i64 ((c0 : Int) + 1))
              have b1 := k1.cellv (p := ⟨L, 0, none⟩) cl0 hM.apart
              have b2 : (wr.setCell ⟨C, 0, none⟩ (.int .i64 ((c0 : Int) + 1))).frozen? ⟨L, 0, none⟩ = false := (k1.frozen (p := ⟨L, 0, none⟩) (lt_of_block hM.last) hM.apart).trans fl0
              have WR := fun W (q : W = (wr.setCell ⟨C, 0, none⟩ (.int .i64 ((c0 : Int) + 1))).setCell ⟨L, 0, none⟩ (.string o)) => (show Calls Tryd.prog 16 #[.pointer (some ⟨b, 0, none⟩), .int .i64 1, .int .i64 ((c0 : Int) + 1), .string o] W (fun e w' => e = .returned .nilIface ∧ ApartM w b L C d2 (c0 + 1) o c1 l1 w') from by
                subst q
                have h := room_slotsWrite (M2.room HE.out HT.out) (Keeps.refl _ _) M2.disk (hI.fewer hk500) 1 ((c0 : Int) + 1) (by omega) (by omega) o
                rw [a1, a2, errV_zero] at h
                refine h.mono ?_
                rintro e w' ⟨he, hD, hK⟩
                exact ⟨he, M2.step hD hK⟩)
              have WRH := Lib.hid WR
              have HI2 := Lib.hid I2
              have HLT := Lib.hid hlt
              have g0 : ((wr.setCell ⟨C, 0, none⟩ (.int .i64 ((c0 : Int) + 1))).setCell ⟨L, 0, none⟩ (.string o)).cell? ⟨C, 0, none⟩ = some (.int .i64 ((c0 : Int) + 1)) := by have h := M2.cells.2.2.1; rw [hc1] at h; exact h
              have HNE := Lib.hid hM.apart
              clear hI hM hS hz hp WR M2 k1 a1 a2 hck hlt hk hc1 I2 e0
              go_wp2_with fail
              refine (WRH.out _ rfl).mono ?_
              rintro e w5 ⟨rfl, h5⟩
              have M5 := Lib.hid h5
              clear h5 b1 b2 cl0 cl1 cc0 cc1 fl0 fc0 g0
              go_wp2
              go_loopw [13] (fun jv wx => BothAt w5 jv wx) (fun jv _ => 2 - (intOf jv).toNat)
              case atStart => exact ⟨0, by omega, rfl, Qt.refl _⟩
              case round =>
                obtain ⟨j, hj, rfl, q⟩ := hrel
                have Q5 := Lib.hid q
                obtain ⟨cl0, cl1, cc0, cc1⟩ := (M5.out.qt q).cells
                clear q
                by_cases hj0 : j = 0
                · subst hj0
                  have RD := M5.out.reads HE.out HT.out 1 Q5.out
                  rw [HI2.out.read0] at RD
                  by_cases hn : (c0 + 1) = 0
                  · rw [if_pos hn] at RD
                    unfold readT at RD
                    rw [errV_pos ad (by decide)] at RD
                    have E14 := Lib.hid (fun W (q : Qt w5 W) => (show W.cell? ⟨1, 0, none⟩ = some (.iface 104 (.pointer (some (ad 14)))) from (errs_since HE.out (M5.out.qt q).since).cells 13 _ rfl))
                    have NE := ne_same (ad 14)
                    rw [hn] at cc0
                    clear hn
                    go_wp2_with fail
                    refine RD.mono ?_
                    rintro e w6 ⟨rfl, q6⟩
                    have Q6 := Lib.hid (Qt.trans Q5.out q6)
                    have c14 := E14.out _ Q6.out
                    have cc6 := q6.cellv cc0
                    clear q6 RD
                    go_wp2
                    exact ⟨⟨1, by omega, rfl, Q6.out⟩, by simp [intOf]⟩
                  · rw [if_neg hn] at RD
                    unfold readT at RD
                    rw [errV_zero] at RD
                    simp only at RD
                    rw [show (⟨o.data.toList.toArray⟩ : ByteArray) = o from (of_list rfl).symm] at RD
                    have zn : ((((c0 + 1) : Nat) : Int) == 0) = false := by rw [beq_eq_false_iff_ne]; omega
                    obtain ⟨N, hN⟩ : ∃ N, N = (c0 + 1) := ⟨_, rfl⟩
                    rw [← hN] at RD cc0 zn
                    clear hn hN
                    go_wp2_with fail
                    refine RD.mono ?_
                    rintro e w6 ⟨rfl, q6⟩
                    have Q6 := Lib.hid (Qt.trans Q5.out q6)
                    have cc6 := q6.cellv cc0
                    have cl6 := q6.cellv cl0
                    clear q6 RD
                    go_wp2
                    exact ⟨⟨1, by omega, rfl, Q6.out⟩, by simp [intOf]⟩
                · by_cases hj1 : j = 1
                  · subst hj1
                    have RD := M5.out.reads HE.out HT.out 3 Q5.out
                    rw [HI2.out.read1] at RD
                    by_cases hn : c1 = 0
                    · rw [if_pos hn] at RD
                      unfold readT at RD
                      rw [errV_pos ad (by decide)] at RD
                      have E14 := Lib.hid (fun W (q : Qt w5 W) => (show W.cell? ⟨1, 0, none⟩ = some (.iface 104 (.pointer (some (ad 14)))) from (errs_since HE.out (M5.out.qt q).since).cells 13 _ rfl))
                      have NE := ne_same (ad 14)
                      rw [hn] at cc1
                      clear hn
                      go_wp2_with fail
                      refine RD.mono ?_
                      rintro e w6 ⟨rfl, q6⟩
                      have Q6 := Lib.hid (Qt.trans Q5.out q6)
                      have c14 := E14.out _ Q6.out
                      have cc6 := q6.cellv cc1
                      clear q6 RD
                      go_wp2
                      exact ⟨⟨2, by omega, rfl, Q6.out⟩, by simp [intOf]⟩
                    · rw [if_neg hn] at RD
                      unfold readT at RD
                      rw [errV_zero] at RD
                      simp only at RD
                      rw [show (⟨l1.data.toList.toArray⟩ : ByteArray) = l1 from (of_list rfl).symm] at RD
                      have zn : (((c1 : Nat) : Int) == 0) = false := by rw [beq_eq_false_iff_ne]; omega
                      obtain ⟨N, hN⟩ : ∃ N, N = c1 := ⟨_, rfl⟩
                      rw [← hN] at RD cc1 zn
                      clear hn hN
                      go_wp2_with fail
                      refine RD.mono ?_
                      rintro e w6 ⟨rfl, q6⟩
                      have Q6 := Lib.hid (Qt.trans Q5.out q6)
                      have cc6 := q6.cellv cc1
                      have cl6 := q6.cellv cl1
                      clear q6 RD
                      go_wp2
                      exact ⟨⟨2, by omega, rfl, Q6.out⟩, by simp [intOf]⟩
                  · obtain rfl : j = 2 := by omega
                    go_wp2
                    exact ⟨⟨k + 1, d2, (c0 + 1), o, c1, l1, HLT.out, by push_cast; rfl, HI2.out, M5.out.qt Q5.out⟩, by have := HLT.out; simp [intOf]; omega⟩
          · -- place 1
            have hck : c1 ≤ 500 := by have := hI.p1.1; omega
            have wc1 : IntKind.i64.wrap ((c1 : Int) + 1) = (c1 : Int) + 1 := by rw [IntKind.wrap_i64]; omega
            have wc2 : wrap64 ((c1 : Int) + 1) = (c1 : Int) + 1 := by unfold wrap64; omega
            have hc1 : (((c1 + 1 : Nat)) : Int) = (c1 : Int) + 1 := by push_cast; rfl
            obtain ⟨cl0, cl1, cc0, cc1⟩ := hM.cells
            obtain ⟨fl0, fc0⟩ := hM.frozen 1
            by_cases hz : 234 < o.size
            · have zz : decide ((234 : Int) < (o.size : Int)) = true := decide_eq_true (by omega)
              have hfit : d.fitS ((3 : Nat) : Int) := ⟨by omega, by have := hI.len; omega⟩
              have WL : ∀ n, Calls Tryd.prog 16 #[.pointer (some ⟨b, 0, none⟩), .int .i64 3, .int .i64 ((c1 : Int) + 1), .string o] (wr.drewN n) fun e w' => e = .returned (.iface 104 (.pointer (some (ad 3)))) ∧ ∃ m, w' = (wr.drewN n).drewN m := fun n => by
                have h := slotsWrite_long (ad 3) (hM.qt ((Qt.refl wr).drewN n)).disk 3 (c1 + 1) o hfit (by omega) (by omega) hz ((errs_since HE.out (hM.qt ((Qt.refl wr).drewN n)).since).cells 2 _ rfl)
                rw [hc1] at h
                exact h
              have WLH := Lib.hid WL
              have e3 : wr.cell? ⟨2, 0, none⟩ = some (.iface 104 (.pointer (some (ad 3)))) := (errs_since HE.out hM.since).cells 2 _ rfl
              have NE := ne_same (ad 3)
              have FIN := Lib.hid (fun n => (show ApartAt w b L C os.length (.int .i64 ((k : Int) + 1)) (wr.drewN n) from ⟨k + 1, d, c0, l0, c1, l1, hlt, by push_cast; rfl, hI.more, hM.qt ((Qt.refl wr).drewN n)⟩))
              have HLT := Lib.hid hlt
              clear hI hM hS hz hfit WL hc1 hck hlt hk
              go_wp2
              go_quiet ((go_at_call 16; exact Calls.quiet_of (WLH.out _)))
              go_wp2
              exact ⟨FIN.out _, by have := HLT.out; simp [intOf]; omega⟩
            · have zz : decide ((234 : Int) < (o.size : Int)) = false := decide_eq_false (by omega)
              have hp : o.data.toList.length ≤ 234 := by rw [dlen7]; omega
              obtain ⟨d2, a1, a2, I2⟩ := hI.step1 (p := o.data.toList) hk500 hp
              have M2 := hM.store1 o
              have k1 := keeps_setCell wr C 1 (.int .i64 ((c1 : Int) + 1))
              have b1 := k1.cellv (p := ⟨L, 1, none⟩) cl1 hM.apart
              have b2 : (wr.setCell ⟨C, 1, none⟩ (.int .i64 ((c1 : Int) + 1))).frozen? ⟨L, 1, none⟩ = false := (k1.frozen (p := ⟨L, 1, none⟩) (lt_of_block hM.last) hM.apart).trans fl0
              have WR := fun W (q : W = (wr.setCell ⟨C, 1, none⟩ (.int .i64 ((c1 : Int) + 1))).setCell ⟨L, 1, none⟩ (.string o)) => (show Calls Tryd.prog 16 #[.pointer (some ⟨b, 0, none⟩), .int .i64 3, .int .i64 ((c1 : Int) + 1), .string o] W (fun e w' => e = .returned .nilIface ∧ ApartM w b L C d2 c0 l0 (c1 + 1) o w') from by
                subst q
                have h := room_slotsWrite (M2.room HE.out HT.out) (Keeps.refl _ _) M2.disk (hI.fewer hk500) 3 ((c1 : Int) + 1) (by omega) (by omega) o
                rw [a1, a2, errV_zero] at h
                refine h.mono ?_
                rintro e w' ⟨he, hD, hK⟩
                exact ⟨he, M2.step hD hK⟩)
              have WRH := Lib.hid WR
              have HI2 := Lib.hid I2
              have HLT := Lib.hid hlt
              have g0 : ((wr.setCell ⟨C, 1, none⟩ (.int .i64 ((c1 : Int) + 1))).setCell ⟨L, 1, none⟩ (.string o)).cell? ⟨C, 1, none⟩ = some (.int .i64 ((c1 : Int) + 1)) := by have h := M2.cells.2.2.2; rw [hc1] at h; exact h
              have HNE := Lib.hid hM.apart
              clear hI hM hS hz hp WR M2 k1 a1 a2 hck hlt hk hc1 I2 e0
              go_wp2_with fail
              refine (WRH.out _ rfl).mono ?_
              rintro e w5 ⟨rfl, h5⟩
              have M5 := Lib.hid h5
              clear h5 b1 b2 cl0 cl1 cc0 cc1 fl0 fc0 g0
              go_wp2
              go_loopw [13] (fun jv wx => BothAt w5 jv wx) (fun jv _ => 2 - (intOf jv).toNat)
              case atStart => exact ⟨0, by omega, rfl, Qt.refl _⟩
              case round =>
                obtain ⟨j, hj, rfl, q⟩ := hrel
                have Q5 := Lib.hid q
                obtain ⟨cl0, cl1, cc0, cc1⟩ := (M5.out.qt q).cells
                clear q
                by_cases hj0 : j = 0
                · subst hj0
                  have RD := M5.out.reads HE.out HT.out 1 Q5.out
                  rw [HI2.out.read0] at RD
                  by_cases hn : c0 = 0
                  · rw [if_pos hn] at RD
                    unfold readT at RD
                    rw [errV_pos ad (by decide)] at RD
                    have E14 := Lib.hid (fun W (q : Qt w5 W) => (show W.cell? ⟨1, 0, none⟩ = some (.iface 104 (.pointer (some (ad 14)))) from (errs_since HE.out (M5.out.qt q).since).cells 13 _ rfl))
                    have NE := ne_same (ad 14)
                    rw [hn] at cc0
                    clear hn
                    go_wp2_with fail
                    refine RD.mono ?_
                    rintro e w6 ⟨rfl, q6⟩
                    have Q6 := Lib.hid (Qt.trans Q5.out q6)
                    have c14 := E14.out _ Q6.out
                    have cc6 := q6.cellv cc0
                    clear q6 RD
                    go_wp2
                    exact ⟨⟨1, by omega, rfl, Q6.out⟩, by simp [intOf]⟩
                  · rw [if_neg hn] at RD
                    unfold readT at RD
                    rw [errV_zero] at RD
                    simp only at RD
                    rw [show (⟨l0.data.toList.toArray⟩ : ByteArray) = l0 from (of_list rfl).symm] at RD
                    have zn : (((c0 : Nat) : Int) == 0) = false := by rw [beq_eq_false_iff_ne]; omega
                    obtain ⟨N, hN⟩ : ∃ N, N = c0 := ⟨_, rfl⟩
                    rw [← hN] at RD cc0 zn
                    clear hn hN
                    go_wp2_with fail
                    refine RD.mono ?_
                    rintro e w6 ⟨rfl, q6⟩
                    have Q6 := Lib.hid (Qt.trans Q5.out q6)
                    have cc6 := q6.cellv cc0
                    have cl6 := q6.cellv cl0
                    clear q6 RD
                    go_wp2
                    exact ⟨⟨1, by omega, rfl, Q6.out⟩, by simp [intOf]⟩
                · by_cases hj1 : j = 1
                  · subst hj1
                    have RD := M5.out.reads HE.out HT.out 3 Q5.out
                    rw [HI2.out.read1] at RD
                    by_cases hn : (c1 + 1) = 0
                    · rw [if_pos hn] at RD
                      unfold readT at RD
                      rw [errV_pos ad (by decide)] at RD
                      have E14 := Lib.hid (fun W (q : Qt w5 W) => (show W.cell? ⟨1, 0, none⟩ = some (.iface 104 (.pointer (some (ad 14)))) from (errs_since HE.out (M5.out.qt q).since).cells 13 _ rfl))
                      have NE := ne_same (ad 14)
                      rw [hn] at cc1
                      clear hn
                      go_wp2_with fail
                      refine RD.mono ?_
                      rintro e w6 ⟨rfl, q6⟩
                      have Q6 := Lib.hid (Qt.trans Q5.out q6)
                      have c14 := E14.out _ Q6.out
                      have cc6 := q6.cellv cc1
                      clear q6 RD
                      go_wp2
                      exact ⟨⟨2, by omega, rfl, Q6.out⟩, by simp [intOf]⟩
                    · rw [if_neg hn] at RD
                      unfold readT at RD
                      rw [errV_zero] at RD
                      simp only at RD
                      rw [show (⟨o.data.toList.toArray⟩ : ByteArray) = o from (of_list rfl).symm] at RD
                      have zn : ((((c1 + 1) : Nat) : Int) == 0) = false := by rw [beq_eq_false_iff_ne]; omega
                      obtain ⟨N, hN⟩ : ∃ N, N = (c1 + 1) := ⟨_, rfl⟩
                      rw [← hN] at RD cc1 zn
                      clear hn hN
                      go_wp2_with fail
                      refine RD.mono ?_
                      rintro e w6 ⟨rfl, q6⟩
                      have Q6 := Lib.hid (Qt.trans Q5.out q6)
                      have cc6 := q6.cellv cc1
                      have cl6 := q6.cellv cl1
                      clear q6 RD
                      go_wp2
                      exact ⟨⟨2, by omega, rfl, Q6.out⟩, by simp [intOf]⟩
                  · obtain rfl : j = 2 := by omega
                    go_wp2
                    exact ⟨⟨k + 1, d2, c0, l0, (c1 + 1), o, HLT.out, by push_cast; rfl, HI2.out, M5.out.qt Q5.out⟩, by have := HLT.out; simp [intOf]; omega⟩
          -- behind them
      · obtain rfl : k = os.length := by omega
        obtain ⟨e1, e2, e3, e4⟩ := hI.ends
        have RD := fun (i : Int) => room_read (hM.room HE.out HT.out) (Keeps.refl _ _) hM.disk i
        have R0 := RD 0
        have R5 := RD 5
        rw [e1, e2, errV_zero] at R0
        rw [e3, e4, errV_zero] at R5
        have Z := Lib.hid (fun W => zeros8_any W)
        have FIN := Lib.hid hS.qt
        have RH0 := Lib.hid R0
        have RH5 := Lib.hid R5
        clear hI hM hS hlt RD R0 R5 e1 e2 e3 e4
        generalize (⟨zeros.toArray⟩ : ByteArray) = ZT at *
        go_wp2_with fail
        refine RH0.out.mono ?_
        rintro e w6 ⟨rfl, rfl⟩
        go_wp2_with fail
        refine RH5.out.mono ?_
        rintro e w6 ⟨rfl, rfl⟩
        go_wp2_with fail
        refine (Z.out _).mono ?_
        rintro e w7 ⟨rfl, q7⟩
        have Q7 := Lib.hid (Qt.trans FIN.out q7)
        clear q7
        go_wp2_with fail
        refine (Z.out _).mono ?_
        rintro e w8 ⟨rfl, q8⟩
        have Q8 := Lib.hid (Qt.trans Q7.out q8)
        clear q8
        go_wp2
        go_ret
        exact ⟨rfl, Q8.out⟩
  · clear hs hE hT
    have z0 : decide ((500 : Int) < (os.length : Int)) = true := decide_eq_true (by omega)
    clear h500 hle
    go_enter Tryd.func6, Tryd.ntmps6
    go_wp2_with fail
    refine LV.mono ?_
    rintro e w1 ⟨rfl, q1⟩
    have K1 := Lib.hid q1
    clear q1 LV
    go_wp2
    go_ret
    exact ⟨rfl, K1.out⟩
end Go.Proofs.YtnnkibhlildojaaDoor
