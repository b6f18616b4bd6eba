/-
  Num, beside a disk of the law's own.
  What package area's calls answer, by hypothesis; the contract of remitlaw09.lives.
  The contract of remitlaw09.lives, over area's calls.
-/
import Derived.Test.YtcapifhmmkmboaaDoorP14
import Derived.Test.YtcapifhmmkmboaaDoorP23
import Derived.Test.YtcapifhmmkmboaaDoorP18
import Derived.Test.YtcapifhmmkmboaaDoorP22
namespace Go.Proofs.YtcapifhmmkmboaaDoor
open Go.RowKit Go.WideShapes
set_option maxRecDepth 100000

section
variable {ad : Nat → Addr} {w0 w : World} {b : Nat} {d : DS}
theorem own_num (hE : Errs ad w0) (hS : Since w0.heap.size w0 w) (h : Own w0.heap.size w b d) (n : Nat) (hn : n ≤ 37) :
    Calls Tryd.prog 22 #[errV ad n] w fun e w' => e = .returned (.int .i64 n) ∧ Own w0.heap.size w' b d ∧ Since w0.heap.size w0 w' ∧ Qt w w' := by
  refine (num_any ad n w (errs_since hE hS) hn).mono ?_
  rintro e w' ⟨he, hQ⟩
  exact ⟨he, h.qt hQ, hS.step hQ (fun _ h => h.elim), hQ⟩
end
end Go.Proofs.YtcapifhmmkmboaaDoor
namespace Go.Proofs.YtcapifhmmkmboaaDoor
open Go.RowKit Go.WideShapes
set_option maxRecDepth 100000

/-- No count is so great that a Write ends it. -/
structure DS.FewA (d : DS) : Prop where
  ways : d.ways.length ≤ 1073000000
  wr : d.wr ≤ 576460752303423488
  fl : d.fl ≤ 576460752303423488
  cr : d.cr ≤ 576460752303423488
theorem DS.FewA.few {d : DS} (h : d.FewA) : d.Few := ⟨Nat.le_trans h.ways (by decide), Nat.le_trans h.wr (by decide), Nat.le_trans h.fl (by decide), Nat.le_trans h.cr (by decide)⟩

/-- What area's Write answers. -/
def AWriteH (ad : Nat → Addr) : Prop := ∀ (S : Nat → Prop) (w0 w : World) (b : Nat) (d : DS), Room ad S w0 → Keeps S w0 w → DiskAt w b d S → d.FewA → ∀ (i n : Int) (st : Nat) (s : ByteArray), st < 18446744073709551616 → n ≤ 9223372036854775807 →
  Calls Tryd.prog 21 #[.pointer (some ⟨b, 0, none⟩), .int .i64 i, .int .i64 n, .int .u64 st, .string s] w fun e w' => e = .returned (errV ad (d.areaW i n st s.data.toList).1) ∧ DiskAt w' b (d.areaW i n st s.data.toList).2 S ∧ Keeps S w0 w'
def readE9 (ad : Nat → Addr) (r : List UInt8 × Nat) : Value := .tuple #[.string ⟨r.1.toArray⟩, errV ad r.2]
def AReadH (ad : Nat → Addr) : Prop := ∀ (S : Nat → Prop) (w0 w : World) (b : Nat) (d : DS), Room ad S w0 → Keeps S w0 w → DiskAt w b d S → ∀ (i n : Int) (st : Nat) (z : Int), st < 18446744073709551616 → n ≤ 9223372036854775807 →
  Calls Tryd.prog 24 #[.pointer (some ⟨b, 0, none⟩), .int .i64 i, .int .i64 n, .int .u64 st, .int .i64 z] w fun e w' => e = .returned (readE9 ad (d.areaR i n st z)) ∧ DiskAt w' b d S ∧ Keeps S w0 w'
def ARoomH : Prop := ∀ (n : Int) (w : World), Calls Tryd.prog 9 #[.int .i64 n] w fun e w' => e = .returned (.int .i64 (roomZ n)) ∧ w' = w
def ASecsH : Prop := ∀ (x : Int) (w : World), x ≤ 9223372036854775807 → Calls Tryd.prog 8 #[.int .i64 x] w fun e w' => e = .returned (.int .i64 (secsZ x)) ∧ w' = w
/-- All four. -/
structure AreaH (ad : Nat → Addr) : Prop where
  write : AWriteH ad
  read : AReadH ad
  room : ARoomH
  secs : ASecsH

/-! ### The fixed facts -/
theorem area_tells {d : DS} {i n st b : Nat} (hC : d.Calm) (hm : d.mayA i n st) (hb : b ≤ 234 * min n 65536) :
    d.areaR i n st b = match V.readA (fun k => d.dur.getD (i + k) []) st b with | some out => (out, 0) | none => ([], 15) := by
  have hr : (fun k => d.read ((i : Int).toNat + k)) = fun k => d.dur.getD (i + k) [] := by
    funext k
    rw [Int.toNat_natCast]
    exact hC.read _
  unfold DS.areaR
  rw [if_neg (by rintro (k | k); exact k hm; omega), if_neg (by rw [Int.toNat_natCast, Int.toNat_natCast]; omega), if_neg (by rw [hC.off]; simp), hr, Int.toNat_natCast]
  rfl
theorem lives_way (v : List UInt8) (hv : v.length = 235) : ∃ d2, (DS.newD 4).areaW 1 2 9 v = (0, d2) ∧ d2.areaR 1 2 9 235 = (v, 0) ∧ d2.areaR 1 2 8 235 = ([], 15) := by
  have hl : (DS.newD 4).dur.length = 4 := by simp [DS.newD]
  have hK : V.nsec v.length = 2 := by rw [hv]; rfl
  have hm : (DS.newD 4).mayA 1 2 9 := ⟨by decide, by decide, by rw [hl]; decide, by rw [hl]; decide, by decide⟩
  have hW : (DS.newD 4).areaW 1 2 9 v = DS.areaGo 1 9 v (V.nsec v.length) 0 (DS.newD 4) := by
    unfold DS.areaW
    rw [if_neg (fun q => q hm), if_neg (by show ¬ 234 * min 2 65536 < _; omega)]
    rfl
  rcases area_go (i := 1) (st := 9) (v := v) (V.nsec v.length) 0 (DS.newD 4) rfl rfl (by omega) (by rw [hl]; omega) (by decide) with ⟨⟨q, _⟩, _⟩ | ⟨_, d2, e1, e2, e3, e4, _⟩
  · exact absurd q (by decide)
  · have e3 : d2.dur = flushTo (DS.newD 4).dur (V.waysA 1 9 v (0 + V.nsec v.length)) (0 + V.nsec v.length) := e3
    rw [Nat.zero_add] at e3
    have hC : d2.Calm := ⟨e4, e2⟩
    have hlen : d2.dur.length = 4 := by rw [e3, flushTo_length]; exact hl
    have hin := V.flush_in (DS.newD 4).dur 1 9 v (V.nsec v.length) (V.nsec v.length) (Nat.le_refl _) (by rw [hl]; omega)
    rw [← e3] at hin
    have hm2 : ∀ st : Nat, st ≠ 0 → d2.mayA (1 : Nat) (2 : Nat) st := fun st h => ⟨by decide, by decide, by rw [hlen]; decide, by rw [hlen]; decide, h⟩
    refine ⟨d2, hW.trans e1, ?_, ?_⟩
    · have h := area_tells hC (hm2 9 (by decide)) (b := v.length) (by omega)
      rw [V.readA_all (by decide) v hin, hv] at h
      exact h
    · have h := area_tells hC (hm2 8 (by decide)) (b := v.length) (by omega)
      have hn : V.readA (fun k => d2.dur.getD (1 + k) []) 8 v.length = none := by
        refine V.readTo_none (k := 1) ?_ _ (by omega)
        rw [V.readTo, V.readTo, Option.bind_some, hin 0 (by omega)]
        have ho := E.open_other (st := 9) (o := 8) (by decide) (by decide) (by decide) (V.piece_le v 0)
        have : E.openS 8 (E.sct 9 (V.piece v 0)) = none := by
          cases hq : E.openS 8 (E.sct 9 (V.piece v 0)) with
          | none => rfl
          | some p => unfold E.counts at ho; rw [hq] at ho; simp at ho
        rw [this]; rfl
      rw [hn, hv] at h
      exact h
end Go.Proofs.YtcapifhmmkmboaaDoor
namespace Go.Proofs.YtcapifhmmkmboaaDoor
open Go.RowKit Go.WideShapes
set_option maxRecDepth 100000

theorem newA (n : Nat) : (DS.newD n).FewA := ⟨by simp [DS.newD], by simp [DS.newD], by simp [DS.newD], by simp [DS.newD]⟩

set_option maxHeartbeats 1600000 in
theorem lives9_any (ad : Nat → Addr) (H : AreaH ad) (w : World) (hE : Errs ad w) (hT : Tab w) : Calls Tryd.prog 7 #[] w fun e w' => e = .returned (.bool true) ∧ Qt w w' := by
  have HR := Lib.hid (Room.of hE hT)
  have hS := Lib.hid (Keeps.refl (fun k => w.heap.size ≤ k) w)
  have TX := Lib.hid (fun W => text9_any 7 235 (by decide) W)
  have WR := Lib.hid (fun (W : World) (b : Nat) (q : Since w.heap.size w W) (h : DiskAt W b (DS.newD 4) (fun k => w.heap.size ≤ k)) (T : ByteArray) => H.write _ w W b _ HR.out q h (newA 4) 1 2 9 T (by decide) (by decide))
  have RD := Lib.hid (fun (d : DS) (W : World) (b : Nat) (q : Since w.heap.size w W) (h : DiskAt W b d (fun k => w.heap.size ≤ k)) (st : Nat) (hst : st < 18446744073709551616) => H.read _ w W b d HR.out q h 1 2 st 235 hst (by decide))
  have RM := H.room 2
  have SC := fun W => H.secs 235 W (by decide)
  rw [show roomZ 2 = 468 by decide] at RM
  rw [show secsZ 235 = 2 by decide] at SC
  have HE := Lib.hid hE
  clear hE hT
  go_enter Tryd.func7, Tryd.ntmps7
  go_wp2_with fail
  refine (own_new hS.out 4 (by decide) (by decide)).mono ?_
  rintro e w1 ⟨b, rfl, h1, S1⟩
  have H1 := Lib.hid h1
  have K1 := Lib.hid S1
  clear h1 S1
  go_wp2_with fail
  refine (RM _).mono ?_
  rintro e w2 ⟨rfl, rfl⟩
  go_wp2_with fail
  refine (SC _).mono ?_
  rintro e w2 ⟨rfl, rfl⟩
  go_wp2_with fail
  refine (TX.out _).mono ?_
  rintro e w3 ⟨T, hT, rfl, q3⟩
  have H3 := Lib.hid (H1.out.qt q3)
  have K3 := Lib.hid (keeps_qt K1.out q3)
  obtain ⟨d2, e1, e2, e3⟩ := lives_way T.data.toList (by simp; exact hT)
  have W3 := WR.out w3 b K3.out H3.out T
  rw [e1, errV_zero] at W3
  have R9 := RD.out d2
  have E2 := Lib.hid e2
  have E3 := Lib.hid e3
  clear q3 hT e1 e2 e3
  go_wp2_with fail
  refine W3.mono ?_
  rintro e w4 ⟨rfl, h4, k4⟩
  have H4 := Lib.hid h4
  have K4 := Lib.hid k4
  clear h4 k4 W3
  have R4 := R9 w4 b K4.out H4.out 9 (by decide)
  rw [E2.out] at R4
  unfold readE9 at R4
  rw [errV_zero] at R4
  simp only at R4
  rw [show (⟨T.data.toList.toArray⟩ : ByteArray) = T from (of_list rfl).symm] at R4
  go_wp2_with fail
  refine R4.mono ?_
  rintro e w5 ⟨rfl, h5, k5⟩
  have H5 := Lib.hid h5
  have K5 := Lib.hid k5
  clear h5 k5 R4
  have R5 := R9 w5 b K5.out H5.out 8 (by decide)
  rw [E3.out] at R5
  unfold readE9 at R5
  rw [errV_pos ad (by decide)] at R5
  simp only at R5
  go_wp2_with fail
  refine R5.mono ?_
  rintro e w6 ⟨rfl, h6, k6⟩
  have K6 := Lib.hid k6
  clear h6 k6 R5
  have NU := num_any ad 15 w6 (errs_since HE.out K6.out) (by decide)
  rw [errV_pos ad (by decide)] at NU
  go_wp2_with fail
  refine NU.mono ?_
  rintro e w7 ⟨rfl, q7⟩
  have K7 := Lib.hid (keeps_qt K6.out q7)
  clear q7 NU
  go_wp2
  go_ret
  exact ⟨rfl, Since.qt K7.out⟩
end Go.Proofs.YtcapifhmmkmboaaDoor
