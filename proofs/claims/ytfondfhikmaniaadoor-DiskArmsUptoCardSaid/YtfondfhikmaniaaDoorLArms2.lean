/-
  DiskArms, walked.
-/
import Derived.Test.YtfondfhikmaniaaDoorLArms
import Derived.Deep.RegionHeld
namespace Go.Proofs.YtfondfhikmaniaaDoor
open Go.RowKit Go.WideShapes
set_option maxRecDepth 100000

def ArmsAt (k : Int) (w : World) (b : Nat) (os : List OpD) (dv iv : Value) (wr : World) : Prop :=
  ∃ (n dn : Nat) (d : DS), n ≤ os.length ∧ iv = .int .i64 n ∧ dv = .int .i64 dn ∧ ArmsI k n d dn ∧ Own w.heap.size wr b d ∧ Since w.heap.size w wr

set_option maxHeartbeats 3200000 in
theorem arms_any (ad : Nat → Addr) (k : Int) (k1 : k ≤ 9223372036854775807) (v : Value) (g off : Nat) (os : List OpD) (w : World) (hE : Errs ad w) (hs : Script w v g off os) :
    Calls Tryd.prog 8 #[.int .i64 k, v] w fun e w' => e = .returned (.bool true) ∧ Qt w w' := by
  have HE := Lib.hid hE
  have HSC := Lib.hid hs
  have hle := hs.le
  obtain ⟨va, vc, rfl, _⟩ := hs.val
  have v0 := Lib.hid (errV_zero ad)
  clear hs
  go_enter Tryd.func8, Tryd.ntmps8
  go_wp2_with fail
  refine (lives_any ad w hE).mono ?_
  rintro e w1 ⟨rfl, q1⟩
  have HS1 := Lib.hid (Qt.since (B := w.heap.size) q1)
  clear q1 hE
  go_wp2_with fail
  refine (own_new HS1.out 3 (by decide) (by decide)).mono ?_
  rintro e w2 ⟨b, rfl, h2, S2⟩
  have H2 := Lib.hid h2
  have HS2 := Lib.hid S2
  clear h2 S2
  go_wp2_with fail
  refine (own_arm HS2.out H2.out k k1).mono ?_
  rintro e w3 ⟨rfl, h3, S3⟩
  have H3 := Lib.hid h3
  have HS3 := Lib.hid S3
  clear h3 S3
  go_wp2_with fail
  go_loopw [7, 30] (fun dv iv wr => ArmsAt k w b os dv iv wr) (fun _ iv _ => os.length - (intOf iv).toNat)
  case atStart => exact ⟨0, 0, _, Nat.zero_le _, rfl, rfl, ArmsI.start k1, H3.out, HS3.out⟩
  case round =>
    obtain ⟨n, dn, d, hn, rfl, rfl, hI, hO, hS⟩ := hrel
    by_cases hlt : n < os.length
    · obtain ⟨o, cap, ho, hval⟩ := HSC.out.elem hlt
      injection hval with hva _ hvc
      subst hva hvc
      have HEA := Lib.hid (HSC.out.each n o ho)
      obtain ⟨ka, kc, hkv, _⟩ := HEA.out.2
      obtain ⟨kind, i, s, fill, kv, f⟩ := o
      simp only at hkv
      subst hkv
      have c0 : wr.cell? ⟨g, off + n * 7, none⟩ = some (.int .i64 kind) := HSC.out.since hS ho 0 (.int .i64 kind) rfl
      have c1 := HSC.out.since hS ho 1 (.int .i64 i) rfl
      have c2 := HSC.out.since hS ho 2 (.string s) rfl
      have c3 := HSC.out.since hS ho 3 (.int .u8 fill.toNat) rfl
      have c4 := HSC.out.since hS ho 4 (.slice ka f.kept.length kc) rfl
      have c5 := HSC.out.since hS ho 5 (.int .i64 f.torn) rfl
      have c6 := HSC.out.since hS ho 6 (.int .i64 f.bytes) rfl
      obtain ⟨WA, hWA, qA, hCA⟩ := laid_op wr ⟨kind, i, s, fill, .slice ka f.kept.length kc, f⟩
      simp only at hWA
      have HCA := Lib.hid (fun W' (q : Keeps (fun j => w.heap.size ≤ j ∧ j < wr.heap.size) WA W') => hCA (fun j => w.heap.size ≤ j ∧ j < wr.heap.size) W' (fun e => Nat.lt_irrefl _ e.2) q)
      have HOA := Lib.hid (DiskAt.qt hO.there qA)
      have HI := Lib.hid hI
      have HF := Lib.hid (hI.few (by omega))
      have HSA := Lib.hid (hS.step qA (fun _ e => e.elim))
      have HWA := Lib.hid hWA
      have HSR := Lib.hid hS
      clear hI hO hS hWA qA hCA
      by_cases hk1 : kind = 1
      · have b1 : (kind == 1) = true := beq_iff_eq.2 hk1
        clear hk1
        go_wp2_with fail
        rw [HWA.out]
        go_region_held (fun W' => W'.cell? ⟨wr.heap.size, 0, none⟩ = some (.int .i64 kind) ∧ W'.cell? ⟨wr.heap.size, 1, none⟩ = some (.int .i64 i) ∧ W'.cell? ⟨wr.heap.size, 2, none⟩ = some (.string s) ∧ W'.cell? ⟨wr.heap.size, 3, none⟩ = some (.int .u8 fill.toNat) ∧ W'.cell? ⟨wr.heap.size, 4, none⟩ = some (.slice ka f.kept.length kc) ∧ W'.cell? ⟨wr.heap.size, 5, none⟩ = some (.int .i64 f.torn) ∧ W'.cell? ⟨wr.heap.size, 6, none⟩ = some (.int .i64 f.bytes)) (first | exact HCA.out _ (Keeps.trans (Keeps.mono QS (fun _ _ e => e.elim)) kW (fun _ _ e => e)) | exact HCA.out _ (Keeps.mono QS (fun _ _ e => e.elim)) | exact HCA.out _ (Keeps.drew (Keeps.refl _ _)))
          (first | (go_at_call 24; refine (sector_any ⟨kind, i, s, fill, .slice ka f.kept.length kc, f⟩ _).mono ?_; rintro e wS ⟨rfl, kS⟩; have QS := Qt.trans (Keeps.drew (Qt.refl WA)) kS) | (go_at_call 25; refine (write_any ad (errs_since HE.out (HSA.out.step QS (fun _ e => e.elim))) (OffErrs.mono (off_since HE.out) (fun _ e => e.1)) (DiskAt.qt HOA.out QS) HF.out i _).mono ?_; rintro e wW ⟨rfl, dW, kW⟩))
        -- GEN
        have HOW := Lib.hid (Own.grow (S := fun j => w.heap.size ≤ j ∧ j < wr.heap.size) (HSA.out.step QS (fun _ e => e.elim)).size (fun _ e => e.1) dW)
        have HSW := Lib.hid ((HSA.out.step QS (fun _ e => e.elim)).step kW (fun _ e => e.1))
        clear dW kW QS kS
        rcases HI.out.write i (strL ⟨(OpD.sector ⟨kind, i, s, fill, .slice ka f.kept.length kc, f⟩).toArray⟩) with ⟨e0, I2, hle2⟩ | ⟨e12, hk0, hkd, hoff⟩ | ⟨e67, hdd⟩
        · rw [e0]
          go_wp2_with fail
          refine (own_num HE.out HSW.out HOW.out 0 (by decide)).mono ?_
          rintro e w8 ⟨rfl, O8, S8, _⟩
          have FIN := Lib.hid (show ArmsAt k w b os (.int .i64 ((dn : Int) + 1)) (.int .i64 ((n : Int) + 1)) w8 from ⟨n + 1, dn + 1, _, hlt, by simp, by simp, I2, O8, S8⟩)
          have hbn : dn ≤ n := HI.out.le
          rw [show ((0 : Nat) : Int) = 0 from rfl]
          clear O8 S8 I2 e0
          by_cases hkk : 0 ≤ k
          · have g2 : decide (k < (dn : Int) + 1) = false := by rw [decide_eq_false_iff_not]; have := hle2 hkk; omega
            clear hle2
            go_wp2
            go_roundw
            case rel => exact FIN.out
            case measure => simp [intOf]; omega
          · have g1 : decide (0 ≤ k) = false := decide_eq_false hkk
            clear hle2
            go_wp2
            go_roundw
            case rel => exact FIN.out
            case measure => simp [intOf]; omega
        · rw [e12]
          go_wp2_with fail
          refine (own_num HE.out HSW.out HOW.out 12 (by decide)).mono ?_
          rintro e w8 ⟨rfl, O8, S8, _⟩
          rw [show ((12 : Nat) : Int) = 12 from rfl]
          have g1 : decide (0 ≤ k) = true := decide_eq_true hk0
          have g2 : ((dn : Int) == k) = true := beq_iff_eq.2 hkd
          have HO8 := Lib.hid O8
          have HS8 := Lib.hid (Since.qt S8)
          have HOF := Lib.hid hoff
          clear O8 S8 hoff hkd e12
          go_wp2_with fail
          refine (off_any HO8.out).mono ?_
          rintro e w9 ⟨rfl, rfl⟩
          rw [HOF.out]
          go_wp2
          go_ret
          exact ⟨rfl, HS8.out⟩
        · have FIN := Lib.hid (fun w8 (O8 : Own w.heap.size w8 b (d.writeD i (strL ⟨(OpD.sector ⟨kind, i, s, fill, .slice ka f.kept.length kc, f⟩).toArray⟩))) (S8 : Since w.heap.size w w8) => (show ArmsAt k w b os (.int .i64 (dn : Int)) (.int .i64 ((n : Int) + 1)) w8 from ⟨n + 1, dn, _, hlt, by simp, rfl, HI.out.skip, hdd ▸ O8, S8⟩))
          rcases e67 with e6 | e7
          · rw [e6]
            go_wp2_with fail
            refine (own_num HE.out HSW.out HOW.out 6 (by decide)).mono ?_
            rintro e w8 ⟨rfl, O8, S8, _⟩
            rw [show ((6 : Nat) : Int) = 6 from rfl]
            have FF := Lib.hid (FIN.out w8 O8 S8)
            clear O8 S8 hdd e6
            go_wp2
            go_roundw
            case rel => exact FF.out
            case measure => simp [intOf]; omega
          · rw [e7]
            go_wp2_with fail
            refine (own_num HE.out HSW.out HOW.out 7 (by decide)).mono ?_
            rintro e w8 ⟨rfl, O8, S8, _⟩
            rw [show ((7 : Nat) : Int) = 7 from rfl]
            have FF := Lib.hid (FIN.out w8 O8 S8)
            clear O8 S8 hdd e7
            go_wp2
            go_roundw
            case rel => exact FF.out
            case measure => simp [intOf]; omega
      · have b1 : (kind == 1) = false := beq_eq_false_iff_ne.2 hk1
        clear hk1
        by_cases hk2 : kind = 2
        · have b2 : (kind == 2) = true := beq_iff_eq.2 hk2
          clear hk2
          go_wp2_with fail
          rw [HWA.out]
          refine (flush_any ad (errs_since HE.out HSA.out) (OffErrs.mono (off_since HE.out) (fun _ e => e.1)) HOA.out HF.out).mono ?_
          rintro e wW ⟨rfl, dW, kW⟩
          have HOW := Lib.hid (Own.grow (S := fun j => w.heap.size ≤ j ∧ j < wr.heap.size) HSA.out.size (fun _ e => e.1) dW)
          have HSW := Lib.hid (HSA.out.step kW (fun _ e => e.1))
          clear dW kW
          rcases HI.out.flush with ⟨e0, I2, hle2⟩ | ⟨e12, hk0, hkd, hoff⟩
          · rw [e0]
            go_wp2_with fail
            refine (own_num HE.out HSW.out HOW.out 0 (by decide)).mono ?_
            rintro e w8 ⟨rfl, O8, S8, _⟩
            have FIN := Lib.hid (show ArmsAt k w b os (.int .i64 ((dn : Int) + 1)) (.int .i64 ((n : Int) + 1)) w8 from ⟨n + 1, dn + 1, _, hlt, by simp, by simp, I2, O8, S8⟩)
            have hbn : dn ≤ n := HI.out.le
            rw [show ((0 : Nat) : Int) = 0 from rfl]
            clear O8 S8 I2 e0
            by_cases hkk : 0 ≤ k
            · have g2 : decide (k < (dn : Int) + 1) = false := by rw [decide_eq_false_iff_not]; have := hle2 hkk; omega
              clear hle2
              go_wp2
              go_roundw
              case rel => exact FIN.out
              case measure => simp [intOf]; omega
            · have g1 : decide (0 ≤ k) = false := decide_eq_false hkk
              clear hle2
              go_wp2
              go_roundw
              case rel => exact FIN.out
              case measure => simp [intOf]; omega
          · rw [e12]
            go_wp2_with fail
            refine (own_num HE.out HSW.out HOW.out 12 (by decide)).mono ?_
            rintro e w8 ⟨rfl, O8, S8, _⟩
            rw [show ((12 : Nat) : Int) = 12 from rfl]
            have g1 : decide (0 ≤ k) = true := decide_eq_true hk0
            have g2 : ((dn : Int) == k) = true := beq_iff_eq.2 hkd
            have HO8 := Lib.hid O8
            have HS8 := Lib.hid (Since.qt S8)
            have HOF := Lib.hid hoff
            clear O8 S8 hoff hkd e12
            go_wp2_with fail
            refine (off_any HO8.out).mono ?_
            rintro e w9 ⟨rfl, rfl⟩
            rw [HOF.out]
            go_wp2
            go_ret
            exact ⟨rfl, HS8.out⟩
        · have b2 : (kind == 2) = false := beq_eq_false_iff_ne.2 hk2
          clear hk2
          have FIN := Lib.hid (show ArmsAt k w b os (.int .i64 (dn : Int)) (.int .i64 ((n : Int) + 1)) WA from ⟨n + 1, dn, d, hlt, by simp, rfl, HI.out.skip, HOA.out.mono (fun _ e => e.1), HSA.out⟩)
          go_wp2
          rw [HWA.out]
          go_roundw
          case rel => exact FIN.out
          case measure => simp [intOf]; omega
    · obtain rfl : n = os.length := by omega
      have HI := Lib.hid hI
      have HOW := Lib.hid hO
      have HSW := Lib.hid hS
      have hsum := hI.sum
      have hoff := Lib.hid hI.off
      have hbd := hI.le
      have g1 : (((d.wr : Int) + d.fl) == (dn : Int)) = true := by rw [beq_iff_eq]; omega
      clear hI hO hS hlt
      go_wp2_with fail
      refine (counts_any HOW.out).mono ?_
      rintro e w8 ⟨rfl, q8⟩
      have HO8 := Lib.hid (HOW.out.qt q8)
      have HS8 := Lib.hid (Since.qt (HSW.out.step q8 (fun _ e => e.elim)))
      clear q8
      go_wp2_with fail
      refine (off_any HO8.out).mono ?_
      rintro e w9 ⟨rfl, rfl⟩
      rw [hoff.out]
      go_wp2
      go_ret
      exact ⟨rfl, HS8.out⟩
end Go.Proofs.YtfondfhikmaniaaDoor
