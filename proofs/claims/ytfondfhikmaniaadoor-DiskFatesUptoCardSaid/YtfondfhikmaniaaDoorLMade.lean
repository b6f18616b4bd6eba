/-
  The contract of remitlaw06.made.
-/
import Derived.Test.YtfondfhikmaniaaDoorLSpare
import Derived.Deep.RegionHeld
import Derived.IntWalk
namespace Go.Proofs.YtfondfhikmaniaaDoor
open Go.RowKit Go.WideShapes
set_option maxRecDepth 100000

/-- A number as an unsigned one. -/
def unsig (n : Int) : Nat := (n % 18446744073709551616).toNat
/-- How many sectors. -/
def madeN (n : Int) : Nat := 1 + unsig n % 40
theorem madeN_bd (n : Int) : 1 ≤ madeN n ∧ madeN n ≤ 40 := by unfold madeN; omega

theorem u64_wrap (n : Int) : IntKind.u64.wrap n = (unsig n : Int) := by
  unfold unsig
  simp [IntKind.wrap, IntKind.bits, IntKind.signed]
  omega
theorem made_wrap (n : Int) : wrap64 (1 + wrap64 ((IntKind.u64.wrap n).tmod 40)) = (madeN n : Int) := by
  rw [u64_wrap]
  have h : ((unsig n : Int)).tmod 40 = ((unsig n % 40 : Nat) : Int) := by rw [Int.tmod_eq_emod_of_nonneg (by omega)]; omega
  rw [h]
  have hb : unsig n % 40 < 40 := Nat.mod_lt _ (by decide)
  rw [IntWalk.wrap64_in ((unsig n % 40 : Nat) : Int) ⟨by omega, by omega⟩]
  unfold madeN
  rw [IntWalk.wrap64_in (1 + ((unsig n % 40 : Nat) : Int)) ⟨by omega, by omega⟩]
  omega

structure MadeI (N k : Nat) (d : DS) : Prop where
  off : d.off = false
  armed : d.armed = -1
  len : d.dur.length = N
  ways : d.ways.length ≤ k
  wr : d.wr ≤ k
  fl : d.fl ≤ k
  cr : d.cr ≤ k
theorem MadeI.few {N k : Nat} {d : DS} (h : MadeI N k d) (hk : k ≤ 1048577) : d.Few := ⟨by have := h.ways; omega, by have := h.wr; omega, by have := h.fl; omega, by have := h.cr; omega⟩
theorem MadeI.new (N : Nat) : MadeI N 0 (DS.newD N) := ⟨rfl, rfl, by simp [DS.newD], Nat.le_refl _, Nat.le_refl _, Nat.le_refl _, Nat.le_refl _⟩
theorem MadeI.skip {N k : Nat} {d : DS} (h : MadeI N k d) : MadeI N (k + 1) d := ⟨h.off, h.armed, h.len, Nat.le_succ_of_le h.ways, Nat.le_succ_of_le h.wr, Nat.le_succ_of_le h.fl, Nat.le_succ_of_le h.cr⟩
theorem MadeI.write {N k : Nat} {d : DS} (h : MadeI N k d) (i : Int) (s : List UInt8) : MadeI N (k + 1) (d.writeD i s) := by
  have ha : d.armed ≠ 0 := by rw [h.armed]; decide
  have h1 := h.ways; have h2 := h.wr; have h3 := h.fl; have h4 := h.cr
  by_cases hr : d.reach i = 0
  · by_cases hs : s.length = 256
    · have e : d.writeD i s = { d with ways := d.ways ++ [(i.toNat, s)], armed := dec d.armed, wr := d.wr + 1 } := by unfold DS.writeD; rw [if_neg (by simp [hr]), if_neg (by simp [hs]), if_neg ha]
      rw [e]
      exact ⟨h.off, by simp only [dec]; rw [h.armed]; rfl, h.len, by simp; omega, by simp only; omega, by simp only; omega, by simp only; omega⟩
    · have e : d.writeD i s = d := by unfold DS.writeD; rw [if_neg (by simp [hr]), if_pos hs]
      rw [e]; exact h.skip
  · have e : d.writeD i s = d := by unfold DS.writeD; rw [if_pos hr]
    rw [e]; exact h.skip
theorem MadeI.flush {N k : Nat} {d : DS} (h : MadeI N k d) : MadeI N (k + 1) d.flushD := by
  have ha : d.armed ≠ 0 := by rw [h.armed]; decide
  have h1 := h.ways; have h2 := h.wr; have h3 := h.fl; have h4 := h.cr
  have e : d.flushD = { d with dur := flushTo d.dur d.ways d.ways.length, ways := [], armed := dec d.armed, fl := d.fl + 1 } := by unfold DS.flushD; rw [if_neg (by simp [h.off]), if_neg ha]
  rw [e]
  exact ⟨h.off, by simp only [dec]; rw [h.armed]; rfl, by simp only [flushTo_length]; exact h.len, by simp, by simp only; omega, by simp only; omega, by simp only; omega⟩
theorem MadeI.crash {N k : Nat} {d : DS} (h : MadeI N k d) (f : FT) : MadeI N (k + 1) (d.crashD f) := by
  have h1 := h.ways; have h2 := h.wr; have h3 := h.fl; have h4 := h.cr
  exact ⟨rfl, rfl, by simp only [DS.crashD, crashTo_length]; exact h.len, by simp [DS.crashD], by simp only [DS.crashD]; omega, by simp only [DS.crashD]; omega, by simp only [DS.crashD]; omega⟩

/-- The state of made's loop. -/
def MadeAt (N : Nat) (w0 : World) (b : Nat) (os : List OpD) (iv : Value) (wr : World) : Prop :=
  ∃ (k : Nat) (d : DS), k ≤ os.length ∧ iv = .int .i64 k ∧ MadeI N k d ∧ Own w0.heap.size wr b d ∧ Since w0.heap.size w0 wr

/-- Where an Op writes. -/
theorem place_wrap {N : Nat} (hN0 : 1 ≤ N) (hN : N ≤ 40) (i : Int) : IntKind.i64.wrap ((IntKind.u64.wrap i).tmod (IntKind.u64.wrap (N : Int))) = ((unsig i % N : Nat) : Int) := by
  rw [u64_wrap, u64_wrap]
  have e : unsig (N : Int) = N := by unfold unsig; omega
  rw [e]
  have h : ((unsig i : Int)).tmod (N : Int) = ((unsig i % N : Nat) : Int) := by rw [Int.tmod_eq_emod_of_nonneg (by omega)]; omega
  rw [h]
  have hb : unsig i % N < N := Nat.mod_lt _ (by omega)
  rw [IntWalk.i64_in ((unsig i % N : Nat) : Int) ⟨by omega, by omega⟩]

def MadeP (n : Int) (len : Nat) (w0 : World) (e : Ending) (w' : World) : Prop :=
  ∃ (b : Nat) (d : DS), e = .returned (.tuple #[.pointer (some ⟨b, 0, none⟩), .int .i64 (madeN n)]) ∧ MadeI (madeN n) len d ∧ Own w0.heap.size w' b d ∧ Since w0.heap.size w0 w'

set_option maxHeartbeats 3200000 in
theorem made_any (ad : Nat → Addr) (n : Int) (v : Value) (g off : Nat) (os : List OpD) (w0 w : World) (hE : Errs ad w0) (hs : Script w0 v g off os) (hS : Since w0.heap.size w0 w) :
    Calls Tryd.prog 16 #[.int .i64 n, v] w (MadeP n os.length w0) := by
  have hle := hs.le
  obtain ⟨va, vc, rfl, _⟩ := hs.val
  have HE := Lib.hid hE
  have HSC := Lib.hid hs
  have HS0 := Lib.hid hS
  obtain ⟨hN0, hN1⟩ := madeN_bd n
  have HMW := Lib.hid (made_wrap n)
  have HPL := Lib.hid (fun i => place_wrap hN0 hN1 i)
  have FIN := Lib.hid (fun w' b d (hI : MadeI (madeN n) os.length d) (hO : Own w0.heap.size w' b d) (hS : Since w0.heap.size w0 w') => (show MadeP n os.length w0 (.returned (.tuple #[.pointer (some ⟨b, 0, none⟩), .int .i64 (madeN n)])) w' from ⟨b, d, rfl, hI, hO, hS⟩))
  clear hs hE hS
  go_enter Tryd.func16, Tryd.ntmps16
  go_wp2_with fail
  rw [HMW.out]
  obtain ⟨N, hN⟩ : ∃ N, madeN n = N := ⟨_, rfl⟩
  rw [hN] at HPL FIN hN0 hN1
  rw [hN]
  clear hN HMW
  refine (own_new HS0.out N hN0 (by omega)).mono ?_
  rintro e w1 ⟨b, rfl, h1, S1⟩
  have H1 := Lib.hid h1
  have HS1 := Lib.hid S1
  clear h1 S1
  go_wp2_with fail
  go_loopw [30] (fun iv wr => MadeAt N w0 b os iv wr) (fun iv _ => os.length - (intOf iv).toNat)
  case atStart => exact ⟨0, _, Nat.zero_le _, rfl, MadeI.new N, H1.out, HS1.out⟩
  case round =>
    obtain ⟨k, d, hk, rfl, hI, hO, hS⟩ := hrel
    by_cases hlt : k < os.length
    · obtain ⟨o, cap, ho, hval⟩ := HSC.out.elem hlt
      injection hval with hva _ hvc
      subst hva hvc
      have HEA := Lib.hid (HSC.out.each k o ho)
      obtain ⟨ka, kc, hkv, _⟩ := HEA.out.2
      obtain ⟨kind, i, s, fill, kv, f⟩ := o
      simp only at hkv
      subst hkv
      have c0 : wr.cell? ⟨g, off + k * 7, none⟩ = some (.int .i64 kind) := HSC.out.since hS ho 0 (.int .i64 kind) rfl
      have c1 := HSC.out.since hS ho 1 (.int .i64 i) rfl
      have c2 := HSC.out.since hS ho 2 (.string s) rfl
      have c3 := HSC.out.since hS ho 3 (.int .u8 fill.toNat) rfl
      have c4 := HSC.out.since hS ho 4 (.slice ka f.kept.length kc) rfl
      have c5 := HSC.out.since hS ho 5 (.int .i64 f.torn) rfl
      have c6 := HSC.out.since hS ho 6 (.int .i64 f.bytes) rfl
      obtain ⟨WA, hWA, qA, hCA⟩ := laid_op wr ⟨kind, i, s, fill, .slice ka f.kept.length kc, f⟩
      simp only at hWA
      have HCA := Lib.hid (fun W' (q : Keeps (fun j => w0.heap.size ≤ j ∧ j < wr.heap.size) WA W') => hCA (fun j => w0.heap.size ≤ j ∧ j < wr.heap.size) W' (fun e => Nat.lt_irrefl _ e.2) q)
      have HOA := Lib.hid (DiskAt.qt hO.there qA)
      have HI := Lib.hid hI
      have HF := Lib.hid (hI.few (by omega))
      have HSA := Lib.hid (hS.step qA (fun _ e => e.elim))
      have HWA := Lib.hid hWA
      have HZ := Lib.hid (show w0.heap.size ≤ wr.heap.size from hS.size)
      have HZA := Lib.hid (show wr.heap.size ≤ WA.heap.size from qA.size)
      clear hI hO hS hWA qA hCA
      by_cases hk1 : kind = 1
      · have b1 : (kind == 1) = true := beq_iff_eq.2 hk1
        have hnz2 : ¬ IntKind.u64.wrap (N : Int) = 0 := by rw [u64_wrap]; unfold unsig; omega
        have hnz : (IntKind.u64.wrap (N : Int) == 0) = false := beq_eq_false_iff_ne.2 hnz2
        clear hk1
        go_wp2_with fail
        rw [HWA.out]
        go_region_held (fun W' => W'.cell? ⟨wr.heap.size, 0, none⟩ = some (.int .i64 kind) ∧ W'.cell? ⟨wr.heap.size, 1, none⟩ = some (.int .i64 i) ∧ W'.cell? ⟨wr.heap.size, 2, none⟩ = some (.string s) ∧ W'.cell? ⟨wr.heap.size, 3, none⟩ = some (.int .u8 fill.toNat) ∧ W'.cell? ⟨wr.heap.size, 4, none⟩ = some (.slice ka f.kept.length kc) ∧ W'.cell? ⟨wr.heap.size, 5, none⟩ = some (.int .i64 f.torn) ∧ W'.cell? ⟨wr.heap.size, 6, none⟩ = some (.int .i64 f.bytes)) (first | exact HCA.out _ (Keeps.trans (Keeps.mono QS (fun _ _ e => e.elim)) kW (fun _ _ e => e)) | exact HCA.out _ (Keeps.mono QS (fun _ _ e => e.elim)) | exact HCA.out _ (Keeps.drew (Keeps.refl _ _)))
          (first | (go_at_call 24; refine (sector_any ⟨kind, i, s, fill, .slice ka f.kept.length kc, f⟩ _).mono ?_; rintro e wS ⟨rfl, kS⟩; have QS := Qt.trans (Keeps.drew (Qt.refl WA)) kS) | (go_at_call 25; rw [HPL.out]; refine (write_any ad (errs_since HE.out (HSA.out.step QS (fun _ e => e.elim))) (OffErrs.mono (off_since HE.out) (fun _ e => e.1)) (DiskAt.qt HOA.out QS) HF.out ((unsig i % N : Nat) : Int) _).mono ?_; rintro e wW ⟨rfl, dW, kW⟩))
        have FF := Lib.hid (show MadeAt N w0 b os (.int .i64 ((k : Int) + 1)) wW from ⟨k + 1, _, hlt, by simp, HI.out.write ((unsig i % N : Nat) : Int) _, Own.grow (S := fun j => w0.heap.size ≤ j ∧ j < wr.heap.size) (HSA.out.step QS (fun _ e => e.elim)).size (fun _ e => e.1) dW, (HSA.out.step QS (fun _ e => e.elim)).step kW (fun _ e => e.1)⟩)
        clear dW kW QS kS
        go_wp2
        go_roundw
        case rel => exact FF.out
        case measure => simp [intOf]; omega
      · have b1 : (kind == 1) = false := beq_eq_false_iff_ne.2 hk1
        clear hk1
        by_cases hk2 : kind = 2
        · have b2 : (kind == 2) = true := beq_iff_eq.2 hk2
          clear hk2
          go_wp2_with fail
          rw [HWA.out]
          refine (flush_any ad (errs_since HE.out HSA.out) (OffErrs.mono (off_since HE.out) (fun _ e => e.1)) HOA.out HF.out).mono ?_
          rintro e wW ⟨rfl, dW, kW⟩
          have FF := Lib.hid (show MadeAt N w0 b os (.int .i64 ((k : Int) + 1)) wW from ⟨k + 1, _, hlt, by simp, HI.out.flush, Own.grow (S := fun j => w0.heap.size ≤ j ∧ j < wr.heap.size) HSA.out.size (fun _ e => e.1) dW, HSA.out.step kW (fun _ e => e.1)⟩)
          clear dW kW
          go_wp2
          go_roundw
          case rel => exact FF.out
          case measure => simp [intOf]; omega
        · have b2 : (kind == 2) = false := beq_eq_false_iff_ne.2 hk2
          clear hk2
          by_cases hk4 : kind = 4
          · have b4 : (kind == 4) = true := beq_iff_eq.2 hk4
            clear hk4
            have HB := Lib.hid (Bools.kept HEA.out.2 HSA.out (fun a n c e hn q => by have := Bools.block HEA.out.2 a n c e hn; omega))
            have hkl : f.kept.length ≤ 1048576 := HEA.out.1.kl
            go_wp2_with fail
            rw [HWA.out]
            refine (spare_any (.slice ka f.kept.length kc) f WA HB.out hkl).mono ?_
            rintro e wS ⟨v', full, B, cc, rfl, SP⟩
            have HSP := Lib.hid SP
            clear SP
            obtain rfl := HSP.out.v
            have qS := HSP.out.qt
            have qF := Qt.trans qS ((Qt.refl wS).alloc (.cells #[.slice (some ⟨B, 0, none⟩) f.kept.length cc, .int .i64 f.torn, .int .i64 f.bytes] 40))
            have HCR := crash_any _ b d (fun j => w0.heap.size ≤ j ∧ j < wr.heap.size) (DiskAt.qt HOA.out qF) HF.out (.slice (some ⟨B, 0, none⟩) f.kept.length cc) f (HSP.out.bools (by omega) ((Qt.refl wS).alloc _)) (fun a n c e hn q => by
              injection e with e _ _
              injection e with e
              subst e
              have h1 := HSP.out.new
              have h2 := HZA.out
              exact absurd q.2 (by simp only; omega))
            have hsF := HSA.out.step qF (fun _ e => e.elim)
            have HCRH := Lib.hid HCR
            have HSF := Lib.hid hsF
            clear HCR hsF qF qS
            unfold fateV at HCRH ⊢
            go_wp2_with fail
            refine HCRH.out.mono ?_
            rintro e wC ⟨rfl, dW, kW⟩
            have FF := Lib.hid (show MadeAt N w0 b os (.int .i64 ((k : Int) + 1)) wC from ⟨k + 1, _, hlt, by simp, HI.out.crash f, Own.grow (S := fun j => w0.heap.size ≤ j ∧ j < wr.heap.size) HSF.out.size (fun _ e => e.1) dW, HSF.out.step kW (fun _ e => e.1)⟩)
            clear dW kW
            go_wp2
            go_roundw
            case rel => exact FF.out
            case measure => simp [intOf]; omega
          · have b4 : (kind == 4) = false := beq_eq_false_iff_ne.2 hk4
            clear hk4
            have FF := Lib.hid (show MadeAt N w0 b os (.int .i64 ((k : Int) + 1)) WA from ⟨k + 1, d, hlt, by simp, HI.out.skip, HOA.out.mono (fun _ e => e.1), HSA.out⟩)
            go_wp2
            rw [HWA.out]
            go_roundw
            case rel => exact FF.out
            case measure => simp [intOf]; omega
    · obtain rfl : k = os.length := by omega
      have FF := Lib.hid (FIN.out wr b d hI hO hS)
      clear hI hO hS hlt
      go_wp2
      go_ret2
      exact FF.out
end Go.Proofs.YtfondfhikmaniaaDoor
