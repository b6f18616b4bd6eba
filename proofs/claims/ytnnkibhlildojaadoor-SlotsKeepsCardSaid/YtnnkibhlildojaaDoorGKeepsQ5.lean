/-
  The contract of remitlaw08.SlotsKeeps: it answers true.
-/
import Derived.Test.YtnnkibhlildojaaDoorGLivesQ5
import Derived.Test.YtnnkibhlildojaaDoorGKeepsPQ5
import Derived.Test.YtnnkibhlildojaaDoorRecsQ5
import Derived.Test.YtnnkibhlildojaaDoorGStepQ5
import Derived.WalkLawsBesides
import Derived.Deep.DeepCutAuto
import Derived.Outline
import Derived.BigQuiet
namespace Go.Proofs.YtnnkibhlildojaaDoor
open Go.RowKit Go.WideShapes
set_option maxRecDepth 100000

/-- The next version's value. -/
def cutG (s : ByteArray) : ByteArray := if s.size ≤ 234 then s else s.extract 0 234
theorem cutG_le (s : ByteArray) : (cutG s).data.toList.length ≤ 234 := by
  unfold cutG
  split
  · rw [dlen7]; assumption
  · rw [dslice, List.length_take]; omega
theorem cut234 (s : ByteArray) (h : ¬ s.size ≤ 234) (wx : World) : (Instr.slice 9 (.string s) none (some (.int .i64 234)) none).run Tryd.prog wx = .ok (.string (s.extract 0 234)) wx := by
  have := run_slice_string_h (P := Tryd.prog) wx 9 s Tryd.underlying9 .i64 234 (by omega) (by omega)
  rw [this]; rfl

/-- A Step loaded into a block of its own. -/
theorem laid_step8 (w : World) (o : StD) : ∃ W, w.alloc (.cells #[.string o.s, .int .i64 o.arm, .bool o.crash, o.kv, .int .i64 o.f.torn, .int .i64 o.f.bytes] 51) = W ∧ Qt w W ∧ W.heap.size = w.heap.size + 1 ∧ (∀ (S : Nat → Prop) W', ¬ S w.heap.size → Keeps S W W' → W'.cell? ⟨w.heap.size, 0, none⟩ = some (.string o.s) ∧ W'.cell? ⟨w.heap.size, 1, none⟩ = some (.int .i64 o.arm) ∧ W'.cell? ⟨w.heap.size, 2, none⟩ = some (.bool o.crash) ∧ W'.cell? ⟨w.heap.size, 3, none⟩ = some o.kv ∧ W'.cell? ⟨w.heap.size, 4, none⟩ = some (.int .i64 o.f.torn) ∧ W'.cell? ⟨w.heap.size, 5, none⟩ = some (.int .i64 o.f.bytes)) := by
  refine ⟨_, rfl, (Qt.refl w).alloc _, World.size_alloc _ _, fun S W' hS k => ?_⟩
  have hb := heap_alloc_new w (.cells #[.string o.s, .int .i64 o.arm, .bool o.crash, o.kv, .int .i64 o.f.torn, .int .i64 o.f.bytes] 51)
  have hc : ∀ (i : Nat) (v : Value), (#[.string o.s, .int .i64 o.arm, .bool o.crash, o.kv, .int .i64 o.f.torn, .int .i64 o.f.bytes] : Array Value)[i]? = some v → W'.cell? ⟨w.heap.size, i, none⟩ = some v := by
    intro i v hv
    refine k.cellv (p := ⟨w.heap.size, i, none⟩) ?_ hS
    rw [Lib.cell_of_heap hb]
    exact hv
  exact ⟨hc 0 _ rfl, hc 1 _ rfl, hc 2 _ rfl, hc 3 _ rfl, hc 4 _ rfl, hc 5 _ rfl⟩

/-- What the loop keeps. -/
def KeepsAt (w0 : World) (b N : Nat) (vv ver nx fr iv : Value) (wr : World) : Prop :=
  ∃ (k n : Nat) (d : DS) (val next : ByteArray) (fresh : Bool), k ≤ N ∧ vv = .string val ∧ ver = .int .i64 n ∧ nx = .string next ∧ fr = .bool fresh ∧ iv = .int .i64 k ∧ KeptI k d n val.data.toList next.data.toList fresh ∧ Own w0.heap.size wr b d ∧ Since w0.heap.size w0 wr
/-- What may turn in a round: what is new, but not the Step's own block. -/
def RoundS (w0 : World) (B : Nat) (k : Nat) : Prop := w0.heap.size ≤ k ∧ k ≠ B
theorem RoundS.room {ad : Nat → Addr} {w0 wr W : World} (hE : Errs ad w0) (hT : Tab w0) (hS : Since w0.heap.size w0 wr) (q : Qt wr W) (hz : W.heap.size = wr.heap.size + 1) : Room ad (RoundS w0 wr.heap.size) W := by
  have R := Room.of hE hT
  have hS2 := since_qt hS q
  refine ⟨errs_since hE hS2, hT.qt hS2.qt, (off_since hE).mono (fun k h => h.1), fun h => R.offTab h.1, fun k hk => ⟨?_, ?_⟩⟩
  · have := hS2.size; omega
  · omega
theorem RoundS.disk {w0 wr W : World} {b : Nat} {d : DS} (h : Own w0.heap.size wr b d) (q : Qt wr W) : DiskAt W b d (RoundS w0 wr.heap.size) := by
  obtain ⟨gd, mb, uv, P, hS⟩ := h
  exact DiskAt.qt ⟨gd, mb, uv, P, fun k hk => ⟨hS k hk, by have := P.lt k hk; omega⟩⟩ q
theorem RoundS.back {w0 wr W W' : World} (hS : Since w0.heap.size w0 wr) (q : Qt wr W) (k : Keeps (RoundS w0 wr.heap.size) W W') : Since w0.heap.size w0 W' := Keeps.trans (since_qt hS q) k (fun _ _ e => e.1)

set_option maxHeartbeats 3200000 in
theorem keeps8_any (ad : Nat → Addr) (v : Value) (g off : Nat) (os : List StD) (w : World) (hok : ∀ (k : Nat) (o : StD), os[k]? = some o → o.Ok w) (hs : Recs 6 StD.list w v g off os) (hE : Errs ad w) (hT : Tab w) :
    Calls Tryd.prog 5 #[v] w fun e w' => e = .returned (.bool true) ∧ Qt w w' := by
  have HE := Lib.hid hE
  have HT := Lib.hid hT
  have HSC := Lib.hid hs
  have HOK := Lib.hid hok
  have hle := hs.le
  have LV := lives8_any ad w hE hT
  obtain ⟨va, vc, rfl, _⟩ := hs.val
  by_cases h2000 : os.length ≤ 2000
  · have FEW0 := Lib.hid (fun (W : World) (q : Since w.heap.size w W) => own_new q 3 (by decide) (by decide))
    clear hok hs hE hT
    have z0 : decide ((2000 : Int) < (os.length : Int)) = false := decide_eq_false (by omega)
    have H2000 := Lib.hid h2000
    clear h2000 hle
    go_enter Tryd.func5, Tryd.ntmps5
    go_wp2_with fail
    refine LV.mono ?_
    rintro e w1 ⟨rfl, q1⟩
    have K1 := Lib.hid (Qt.since (B := w.heap.size) q1)
    clear q1 LV
    go_wp2_with fail
    refine (FEW0.out _ K1.out).mono ?_
    rintro e w2 ⟨b, rfl, h2, S2⟩
    have START := Lib.hid (show KeepsAt w b os.length (.string ⟨#[]⟩) (.int .i64 0) (.string ⟨#[]⟩) (.bool true) (.int .i64 0) w2 from ⟨0, 0, DS.newD 3, ⟨#[]⟩, ⟨#[]⟩, true, Nat.zero_le _, rfl, rfl, rfl, rfl, rfl, KeptI.start, h2, S2⟩)
    clear h2 S2
    go_wp2
    go_loopw [6, 7, 8, 9, 36] (fun vv ver nx fr iv wr => KeepsAt w b os.length vv ver nx fr iv wr) (fun _ _ _ _ iv _ => os.length - (intOf iv).toNat)
    case atStart => exact START.out
    case round =>
      obtain ⟨k, n, d, val, next, fresh, hk, rfl, rfl, rfl, rfl, rfl, hI, hO, hS⟩ := hrel
      by_cases hlt : k < os.length
      · obtain ⟨o, cap, ho, hval⟩ := HSC.out.elem hlt
        injection hval with hva _ hvc
        subst hva hvc
        have HO := HOK.out k o ho
        have hq := hS.qt
        have c0 : wr.cell? ⟨g, off + k * 6, none⟩ = some (.string o.s) := HSC.out.qt hq ho 0 _ rfl
        have c1 := HSC.out.qt hq ho 1 (.int .i64 o.arm) rfl
        have c2 := HSC.out.qt hq ho 2 (.bool o.crash) rfl
        have c3 := HSC.out.qt hq ho 3 o.kv rfl
        have c4 := HSC.out.qt hq ho 4 (.int .i64 o.f.torn) rfl
        have c5 := HSC.out.qt hq ho 5 (.int .i64 o.f.bytes) rfl
        obtain ⟨WA, hWA, qA, hzA, hCA⟩ := laid_step8 wr o
        obtain ⟨d0, d1, d2, d3, d4, d5⟩ := hCA (fun _ => False) WA (fun e => e) (Qt.refl _)
        have HWA := Lib.hid hWA
        obtain ⟨ka, kc, hkv, _⟩ := id HO.kept
        have HCA := Lib.hid (hCA (RoundS w wr.heap.size))
        have RM := Lib.hid (RoundS.room HE.out HT.out hS qA hzA)
        have DK := Lib.hid (RoundS.disk hO qA)
        have BK := Lib.hid (fun W' => RoundS.back (W' := W') hS qA)
        have KQ := Lib.hid (since_qt hS qA).qt
        have HI := Lib.hid hI
        obtain ⟨nxt, hnxt⟩ : ∃ nxt, nxt = if fresh = true then cutG o.s else next := ⟨_, rfl⟩
        have NX1 := Lib.hid (show fresh = false → nxt.data.toList = next.data.toList from fun h => by rw [hnxt, h]; rfl)
        have NX2 := Lib.hid (show nxt.data.toList.length ≤ 234 from by
          rw [hnxt]
          cases fresh with
          | true => exact cutG_le o.s
          | false => exact hI.next rfl)
        have HNX := Lib.hid hnxt
        have HOA := Lib.hid HO
        clear hWA hCA hI hO hS hq qA hnxt HO
        obtain ⟨st, arm, crash, kv, f⟩ := o
        simp only at hkv
        subst hkv
        simp only at c0 c1 c2 c3 c4 c5 d0 d1 d2 d3 d4 d5 HWA HCA HNX
        go_upto_if 40 with (fail)
        rw [HWA.out]
        go_cut [8, 9] from 41 to 47 (fun a b wx => WA = wx ∧ a = .string nxt ∧ b = .bool false)
        case first =>
          cases fresh with
          | true =>
            have NE := HNX.out
            rw [if_pos rfl] at NE
            by_cases hc : st.size ≤ 234
            · have N2 := Lib.hid (NE.trans (if_pos hc))
              have zc : decide ((234 : Int) < (st.size : Int)) = false := decide_eq_false (by omega)
              clear NE hc
              go_wp2
              go_meet
              exact ⟨rfl, by rw [N2.out], rfl⟩
            · have N2 := Lib.hid (NE.trans (if_neg hc))
              have zc : decide ((234 : Int) < (st.size : Int)) = true := decide_eq_true (by omega)
              have SL := cut234 st hc
              clear NE hc
              go_wp2
              go_meet
              exact ⟨rfl, by rw [N2.out], rfl⟩
          | false =>
            have N2 := Lib.hid (HNX.out.trans (if_neg (by decide)))
            go_wp2
            go_meet
            exact ⟨rfl, by rw [N2.out], rfl⟩
        case rest =>
          obtain ⟨rfl, rfl, rfl⟩ := hcut
          have hkk : k ≤ 2000 := by have := H2000.out; omega
          have hnb : (n : Int) < 4000 := by have := HI.out.nk; omega
          have ARM := Lib.hid (room_arm RM.out (Keeps.refl _ WA) DK.out arm HOA.out.a1)
          have FEWR := Lib.hid (HI.out.fewer (arm := arm) hkk)
          have WRT := fun W (q : Keeps (RoundS w wr.heap.size) WA W) (h : DiskAt W b (d.armD arm) (RoundS w wr.heap.size)) => room_slotsWrite RM.out q h FEWR.out 1 ((n : Int) + 1) (by omega) (by omega) nxt
          have BO := Lib.hid (fun W (q : Keeps (RoundS w wr.heap.size) WA W) => (show Bools W (.slice ka f.kept.length kc) f.kept from HOA.out.kept.qt (BK.out W q).qt))
          have HB := Lib.hid (show ∀ a n c, Value.slice ka f.kept.length kc = .slice (some a) n c → n ≠ 0 → ¬ RoundS w wr.heap.size a.block from fun a n c e n0 h => by
            have := HOA.out.kept.block a n c e n0
            have := h.1
            omega)
          have C12 := Lib.hid (fun W (q : Keeps (RoundS w wr.heap.size) WA W) => (show W.cell? ⟨0, 0, none⟩ = some (.iface 104 (.pointer (some (ad 12)))) from (RM.out.errs' q).cells 11 _ rfl))
          have C14 := Lib.hid (fun W (q : Keeps (RoundS w wr.heap.size) WA W) => (show W.cell? ⟨1, 0, none⟩ = some (.iface 104 (.pointer (some (ad 14)))) from (RM.out.errs' q).cells 13 _ rfl))
          have HBN := Lib.hid (show ¬ RoundS w wr.heap.size wr.heap.size from fun h => h.2 rfl)
          clear c0 c1 c2 c3 c4 c5 d0 d1 d2 d3 d4 d5 ho HWA HNX hzA
          obtain ⟨d0, d1, d2, d3, d4, d5⟩ := HCA.out WA HBN.out (Keeps.refl _ _)
          have FN1 := Lib.hid (fun (dd : DS) (W : World) (q : Keeps (RoundS w wr.heap.size) WA W) (h : DiskAt W b dd (RoundS w wr.heap.size)) (I : KeptI (k + 1) dd (n + 1) nxt.data.toList nxt.data.toList true) => (show KeepsAt w b os.length (.string nxt) (.int .i64 ((n : Int) + 1)) (.string nxt) (.bool true) (.int .i64 ((k : Int) + 1)) W from ⟨k + 1, n + 1, dd, nxt, nxt, true, hlt, rfl, by push_cast; rfl, rfl, rfl, by push_cast; rfl, I, h.mono (fun _ hk => hk.1), BK.out W q⟩))
          have FN2 := Lib.hid (fun (dd : DS) (W : World) (q : Keeps (RoundS w wr.heap.size) WA W) (h : DiskAt W b dd (RoundS w wr.heap.size)) (I : KeptI (k + 1) dd n val.data.toList nxt.data.toList false) => (show KeepsAt w b os.length (.string val) (.int .i64 (n : Int)) (.string nxt) (.bool false) (.int .i64 ((k : Int) + 1)) W from ⟨k + 1, n, dd, val, nxt, false, hlt, rfl, rfl, rfl, rfl, by push_cast; rfl, I, h.mono (fun _ hk => hk.1), BK.out W q⟩))
          by_cases ha : arm = 0 ∨ arm = 1
          · obtain ⟨dk, e1, e2, few2, fin⟩ := HI.out.down hkk NX1.out NX2.out ha
            rw [e1, e2, errV_pos ad (by decide)] at WRT
            have W2 := Lib.hid WRT
            have CR := Lib.hid (fun W (q : Keeps (RoundS w wr.heap.size) WA W) (h : DiskAt W b dk (RoundS w wr.heap.size)) => room_crash RM.out q h few2 (.slice ka f.kept.length kc) f (BO.out W q) HB.out)
            have FN := Lib.hid (fin f)
            have RD := Lib.hid (fun W (q : Keeps (RoundS w wr.heap.size) WA W) (h : DiskAt W b (dk.crashD f) (RoundS w wr.heap.size)) => room_slotsRead RM.out q h 1)
            have HA := Lib.hid ha
            have EQ := eq_same (ad 12)
            have NE := ne_same (ad 12)
            clear WRT fin few2 e1 e2 ha
            go_wp2_with fail
            refine ARM.out.mono ?_
            rintro e w3 ⟨rfl, h3, k3⟩
            have H3 := Lib.hid h3
            have K3 := Lib.hid k3
            clear h3 k3
            go_wp2_with fail
            refine (W2.out _ K3.out H3.out).mono ?_
            rintro e w4 ⟨rfl, h4, k4⟩
            have H4 := Lib.hid h4
            have K4 := Lib.hid k4
            have c12 := C12.out w4 k4
            clear d0 d1 d2 d3 d4 d5
            obtain ⟨f0, f1, f2, f3, f4, f5⟩ := HCA.out w4 HBN.out k4
            clear h4 k4
            rcases HA.out with rfl | rfl
            all_goals
              go_wp2
              go_quiet (fail)
              go_wp2_with fail
              refine (CR.out _ (K4.out.drewN _) (H4.out.qt ((Qt.refl _).drewN _))).mono ?_
              rintro e w5 ⟨rfl, h5, k5⟩
              have H5 := Lib.hid h5
              have K5 := Lib.hid k5
              clear h5 k5
              have R5 := RD.out _ K5.out H5.out
              rcases FN.out with ⟨r, I⟩ | ⟨rfl, r, I⟩ | ⟨hn0, r, I⟩
              · rw [r] at R5
                unfold readT at R5
                rw [errV_zero] at R5
                have HI2 := Lib.hid I
                clear r I
                go_wp2_with fail
                refine R5.mono ?_
                rintro e w6 ⟨rfl, h6, k6⟩
                have H6 := Lib.hid h6
                have K6 := Lib.hid k6
                clear h6 k6 R5
                go_wp2
                exact ⟨FN1.out _ _ K6.out H6.out HI2.out, by have := hlt; simp [intOf]; omega⟩
              · rw [r] at R5
                unfold readT at R5
                rw [errV_pos ad (by decide)] at R5
                have HI2 := Lib.hid I
                clear r I
                go_wp2_with fail
                refine R5.mono ?_
                rintro e w6 ⟨rfl, h6, k6⟩
                have H6 := Lib.hid h6
                have K6 := Lib.hid k6
                have c14 := C14.out w6 k6
                have NE14 := ne_same (ad 14)
                clear h6 k6 R5
                go_wp2
                exact ⟨FN2.out _ _ K6.out H6.out HI2.out, by have := hlt; simp [intOf]; omega⟩
              · rw [r] at R5
                unfold readT at R5
                rw [errV_zero] at R5
                simp only at R5
                have HI2 := Lib.hid I
                have zn : ((n : Int) == (n : Int) + 1) = false := by rw [beq_eq_false_iff_ne]; omega
                have zn0 : ((n : Int) == 0) = false := by rw [beq_eq_false_iff_ne]; omega
                have HN0 := Lib.hid hn0
                have hvv : (⟨val.data.toList.toArray⟩ : ByteArray) = val := (of_list rfl).symm
                rw [hvv] at R5
                clear r I hn0 hvv
                go_wp2_with fail
                refine R5.mono ?_
                rintro e w6 ⟨rfl, h6, k6⟩
                have H6 := Lib.hid h6
                have K6 := Lib.hid k6
                clear h6 k6 R5
                go_wp2
                exact ⟨FN2.out _ _ K6.out H6.out HI2.out, by have := hlt; simp [intOf]; omega⟩
          · obtain ⟨dk, e1, e2, few2, ⟨r0, i0⟩, fin⟩ := HI.out.up hkk NX1.out NX2.out HOA.out.a1 (fun h => ha (.inl h)) (fun h => ha (.inr h))
            rw [e1, e2, errV_zero] at WRT
            have W2 := Lib.hid WRT
            obtain ⟨r1, i1⟩ := fin f
            have CR := Lib.hid (fun W (q : Keeps (RoundS w wr.heap.size) WA W) (h : DiskAt W b dk (RoundS w wr.heap.size)) => room_crash RM.out q h few2 (.slice ka f.kept.length kc) f (BO.out W q) HB.out)
            have RD0 := fun W (q : Keeps (RoundS w wr.heap.size) WA W) (h : DiskAt W b dk (RoundS w wr.heap.size)) => room_slotsRead RM.out q h 1
            have RD1 := fun W (q : Keeps (RoundS w wr.heap.size) WA W) (h : DiskAt W b (dk.crashD f) (RoundS w wr.heap.size)) => room_slotsRead RM.out q h 1
            have hvv : (⟨nxt.data.toList.toArray⟩ : ByteArray) = nxt := (of_list rfl).symm
            rw [r0] at RD0
            rw [r1] at RD1
            unfold readT at RD0 RD1
            rw [errV_zero] at RD0 RD1
            simp only at RD0 RD1
            rw [hvv] at RD0 RD1
            have R0 := Lib.hid RD0
            have R1 := Lib.hid RD1
            have I0 := Lib.hid i0
            have I1 := Lib.hid i1
            have za0 : (arm == 0) = false := by rw [beq_eq_false_iff_ne]; exact fun h => ha (.inl h)
            have za1 : (arm == 1) = false := by rw [beq_eq_false_iff_ne]; exact fun h => ha (.inr h)
            have a0 : ¬ arm = 0 := fun h => ha (.inl h)
            have a1 : ¬ arm = 1 := fun h => ha (.inr h)
            have NL := eq_nil (ad 12)
            have zn0 : ((n : Int) + 1 == 0) = false := by rw [beq_eq_false_iff_ne]; omega
            clear WRT fin few2 e1 e2 ha r0 r1 i0 i1 RD0 RD1 hvv
            go_wp2_with fail
            refine ARM.out.mono ?_
            rintro e w3 ⟨rfl, h3, k3⟩
            have H3 := Lib.hid h3
            have K3 := Lib.hid k3
            clear h3 k3
            go_wp2_with fail
            refine (W2.out _ K3.out H3.out).mono ?_
            rintro e w4 ⟨rfl, h4, k4⟩
            have H4 := Lib.hid h4
            have K4 := Lib.hid k4
            have c12 := C12.out w4 k4
            clear d0 d1 d2 d3 d4 d5
            obtain ⟨f0, f1, f2, f3, f4, f5⟩ := HCA.out w4 HBN.out k4
            clear h4 k4
            cases crash with
            | true =>
              go_wp2
              go_quiet (fail)
              go_wp2_with fail
              refine (CR.out _ (K4.out.drewN _) (H4.out.qt ((Qt.refl _).drewN _))).mono ?_
              rintro e w5 ⟨rfl, h5, k5⟩
              have H5 := Lib.hid h5
              have K5 := Lib.hid k5
              clear h5 k5
              go_wp2_with fail
              refine (R1.out _ K5.out H5.out).mono ?_
              rintro e w6 ⟨rfl, h6, k6⟩
              have H6 := Lib.hid h6
              have K6 := Lib.hid k6
              clear h6 k6
              go_wp2
              exact ⟨FN1.out _ _ K6.out H6.out I1.out, by have := hlt; simp [intOf]; omega⟩
            | false =>
              go_wp2
              go_quiet (fail)
              go_wp2_with fail
              refine (R0.out _ (K4.out.drewN _) (H4.out.qt ((Qt.refl _).drewN _))).mono ?_
              rintro e w6 ⟨rfl, h6, k6⟩
              have H6 := Lib.hid h6
              have K6 := Lib.hid k6
              clear h6 k6
              go_wp2
              exact ⟨FN1.out _ _ K6.out H6.out I0.out, by have := hlt; simp [intOf]; omega⟩
      · obtain rfl : k = os.length := by omega
        have FIN := Lib.hid hS.qt
        clear hI hO hS hlt
        go_wp2
        go_ret
        exact ⟨rfl, FIN.out⟩
  · clear hok hs hE hT
    have z0 : decide ((2000 : Int) < (os.length : Int)) = true := decide_eq_true (by omega)
    clear h2000 hle
    go_enter Tryd.func5, Tryd.ntmps5
    go_wp2_with fail
    refine LV.mono ?_
    rintro e w1 ⟨rfl, q1⟩
    have K1 := Lib.hid q1
    clear q1 LV
    go_wp2
    go_ret
    exact ⟨rfl, K1.out⟩
end Go.Proofs.YtnnkibhlildojaaDoor
