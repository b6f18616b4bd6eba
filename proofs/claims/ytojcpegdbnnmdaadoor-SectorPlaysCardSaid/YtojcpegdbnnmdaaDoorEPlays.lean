/-
  The contract of remitlaw07.SectorPlays: it answers true.
-/
import Derived.Test.YtojcpegdbnnmdaaDoorEOneForm
import Derived.Test.YtojcpegdbnnmdaaDoorERefO
import Derived.Test.YtojcpegdbnnmdaaDoorELift
namespace Go.Proofs.YtojcpegdbnnmdaaDoor
open Go.RowKit Go.WideShapes
set_option maxRecDepth 100000

/-- An Op laid into a new block. -/
theorem laid_op7 (w : World) (o : Op7) : ∃ W, w.alloc (.cells #[.int .i64 o.kind, .int .u64 o.u, .int .i64 o.n, .int .i64 o.m, .string o.s, .string o.t] 26) = W ∧ Qt w W ∧ (∀ W', Qt W W' → W'.cell? ⟨w.heap.size, 0, none⟩ = some (.int .i64 o.kind) ∧ W'.cell? ⟨w.heap.size, 1, none⟩ = some (.int .u64 o.u) ∧ W'.cell? ⟨w.heap.size, 2, none⟩ = some (.int .i64 o.n) ∧ W'.cell? ⟨w.heap.size, 3, none⟩ = some (.int .i64 o.m) ∧ W'.cell? ⟨w.heap.size, 4, none⟩ = some (.string o.s) ∧ W'.cell? ⟨w.heap.size, 5, none⟩ = some (.string o.t)) := by
  refine ⟨_, rfl, (Qt.refl w).alloc _, fun W' q => ?_⟩
  have hb := heap_alloc_new w (.cells #[.int .i64 o.kind, .int .u64 o.u, .int .i64 o.n, .int .i64 o.m, .string o.s, .string o.t] 26)
  have hb' := (q.block _ (lt_of_block hb) (fun e => e)).trans hb
  refine ⟨?_, ?_, ?_, ?_, ?_, ?_⟩ <;> (rw [cell_of_row W' _ _ _ _ _ hb']; rfl)

def PlaysAt (w : World) (N : Nat) (iv : Value) (wr : World) : Prop := ∃ m : Nat, m ≤ N ∧ iv = .int .i64 m ∧ Qt w wr

/-! ### Both answers -/
theorem both_seal (ad : Nat → Addr) (u : Nat) (s : ByteArray) (hu : u < 18446744073709551616) : ∃ (X : ByteArray) (n : Nat), n ≤ 37 ∧
    (∀ W, Errs ad W → Tab W → Calls Tryd.prog 9 #[.int .u64 u, .string s] W fun e w' => e = .returned (.tuple #[.string X, errV ad n]) ∧ Qt W w') ∧
    (∀ W, Calls Tryd.prog 10 #[.int .u64 u, .string s] W fun e w' => e = .returned (.tuple #[.string X, .int .i64 n]) ∧ Qt W w') :=
  ⟨_, _, by have := sealR_cases u s.data.toList; omega, fun W hE hT => seal_errs ad u s W hu hE hT, fun W => refSeal_any u s W hu⟩
theorem both_open (ad : Nat → Addr) (u : Nat) (s : ByteArray) (hu : u < 18446744073709551616) : ∃ (X : ByteArray) (b : Bool),
    (∀ W, Errs ad W → Tab W → Calls Tryd.prog 12 #[.int .u64 u, .string s] W fun e w' => e = .returned (.tuple #[.string X, .bool b]) ∧ Qt W w') ∧
    (∀ W, Calls Tryd.prog 13 #[.int .u64 u, .string s] W fun e w' => e = .returned (.tuple #[.string X, .bool b]) ∧ Qt W w') := by
  cases h : E.openS u s.data.toList with
  | none => exact ⟨_, _, fun W hE hT => openV_none (open_any _ _ _ u s W hu hE.e3 hT) h, fun W => openV_none (refOpen_any u s W hu) h⟩
  | some p => exact ⟨_, _, fun W hE hT => openV_some (open_any _ _ _ u s W hu hE.e3 hT) h, fun W => openV_some (refOpen_any u s W hu) h⟩
theorem both_ends (ad : Nat → Addr) (s : ByteArray) : ∃ (f b n : Nat), n ≤ 37 ∧
    (∀ W, Errs ad W → Calls Tryd.prog 14 #[.string s] W fun e w' => e = .returned (.tuple #[.int .u64 f, .int .u64 b, errV ad n]) ∧ Qt W w') ∧
    (∀ W, Calls Tryd.prog 15 #[.string s] W fun e w' => e = .returned (.tuple #[.int .u64 f, .int .u64 b, .int .i64 n]) ∧ Qt W w') := by
  by_cases h : s.size = 256
  · refine ⟨E.front s.data.toList, E.back s.data.toList, 0, by omega, fun W hE => ?_, fun W => ?_⟩
    · have k := ends_any _ _ _ s W hE.e3
      rw [if_pos h] at k
      exact k
    · have k := refEnds_any s W
      rw [if_pos h] at k
      exact k
  · refine ⟨0, 0, 7, by omega, fun W hE => ?_, fun W => ?_⟩
    · have k := ends_any _ _ _ s W hE.e3
      rw [if_neg h] at k
      exact k
    · have k := refEnds_any s W
      rw [if_neg h] at k
      exact k
theorem both_log (ad : Nat → Addr) (v i : Int) (hv0 : -9223372036854775808 ≤ v) (hv1 : v ≤ 9223372036854775807) (hi0 : -9223372036854775808 ≤ i) (hi1 : i ≤ 9223372036854775807) : ∃ (x : Int) (n : Nat), n ≤ 37 ∧
    (∀ W, Errs ad W → Calls Tryd.prog 16 #[.int .i64 v, .int .i64 i] W fun e w' => e = .returned (.tuple #[.int .u64 x, errV ad n]) ∧ Qt W w') ∧
    (∀ W, Calls Tryd.prog 17 #[.int .i64 v, .int .i64 i] W fun e w' => e = .returned (.tuple #[.int .u64 x, .int .i64 n]) ∧ Qt W w') :=
  ⟨_, _, by have := logR_cases v i; omega, fun W hE => by
    have k := log_any _ _ _ v i W hv0 hv1 hi0 hi1 hE.e3
    rw [e3V_errs ad (by have := logR_cases v i; omega)] at k
    exact k, fun W => refLog_any v i W hv0 hv1 hi0 hi1⟩
theorem tearR_cases (a b : List UInt8) (n : Int) : (E.tearR a b n).2 = 0 ∨ (E.tearR a b n).2 = 6 ∨ (E.tearR a b n).2 = 7 := by
  unfold E.tearR; split
  · exact .inr (.inr rfl)
  · split
    · exact .inr (.inl rfl)
    · exact .inl rfl
theorem both_tear (ad : Nat → Addr) (a b : ByteArray) (n : Int) (hn0 : -9223372036854775808 ≤ n) (hn1 : n ≤ 9223372036854775807) : ∃ (X : ByteArray) (k : Nat), k ≤ 37 ∧
    (∀ W, Errs ad W → Calls Tryd.prog 18 #[.string a, .string b, .int .i64 n] W fun e w' => e = .returned (.tuple #[.string X, errV ad k]) ∧ Qt W w') ∧
    (∀ W, Calls Tryd.prog 19 #[.string a, .string b, .int .i64 n] W fun e w' => e = .returned (.tuple #[.string X, .int .i64 k]) ∧ Qt W w') :=
  ⟨_, _, by have := tearR_cases a.data.toList b.data.toList n; omega, fun W hE => by
    have k := tear_any _ _ _ a b n W hn0 hn1 hE.e3
    rw [e3V_errs ad (by have := tearR_cases a.data.toList b.data.toList n; omega)] at k
    exact k, fun W => refTear_any a b n W hn0 hn1⟩

set_option maxHeartbeats 6400000 in
theorem plays_any (ad : Nat → Addr) (v : Value) (g off : Nat) (os : List Op7) (w : World) (hok : ∀ (k : Nat) (o : Op7), os[k]? = some o → o.Ok) (hs : Recs 6 Op7.list w v g off os) (hE : Errs ad w) (hT : Tab w) :
    Calls Tryd.prog 3 #[v] w fun e w' => e = .returned (.bool true) ∧ Qt w w' := by
  have FX := Lib.hid (fixed_any _ _ _ w hE.e3 hT)
  have HE := Lib.hid (fun (W : World) (q : Qt w W) => hE.kept q (OffErrs.none ad))
  have HT := Lib.hid (fun (W : World) (q : Qt w W) => hT.qt q)
  have HSC := Lib.hid hs
  have HOK := Lib.hid hok
  have hle := hs.le
  obtain ⟨va, vc, rfl, _⟩ := hs.val
  have NM := Lib.hid (fun (n : Nat) (hn : n ≤ 37) (W : World) (q : Qt w W) => num_any ad n W (HE.out W q) hn)
  clear hs hok hE hT
  go_enter Tryd.func3, Tryd.ntmps3
  go_wp2_with fail
  refine FX.out.mono ?_
  rintro e w1 ⟨rfl, k⟩
  have K1 := Lib.hid k; clear k
  have START := Lib.hid (show PlaysAt w os.length (.int .i64 0) w1 from ⟨0, Nat.zero_le _, rfl, K1.out⟩)
  go_wp2
  go_loopw [31] (fun iv wr => PlaysAt w os.length iv wr) (fun iv _ => os.length - (intOf iv).toNat)
  case atStart => exact START.out
  case round =>
    obtain ⟨m, hm, rfl, q⟩ := hrel
    by_cases hlt : m < os.length
    · obtain ⟨o, cap, ho, hval⟩ := HSC.out.elem hlt
      injection hval with hva _ hvc
      subst hva hvc
      have hom := HOK.out m o ho
      have c0 : wr.cell? ⟨g, off + m * 6, none⟩ = some (.int .i64 o.kind) := HSC.out.qt q ho 0 (.int .i64 o.kind) rfl
      have c1 := HSC.out.qt q ho 1 (.int .u64 o.u) rfl
      have c2 := HSC.out.qt q ho 2 (.int .i64 o.n) rfl
      have c3 := HSC.out.qt q ho 3 (.int .i64 o.m) rfl
      have c4 := HSC.out.qt q ho 4 (.string o.s) rfl
      have c5 := HSC.out.qt q ho 5 (.string o.t) rfl
      obtain ⟨WA, hWA, qA, hCA⟩ := laid_op7 wr o
      obtain ⟨kind, u, n, x, s, t⟩ := o
      obtain ⟨hu, hn0, hn1, hx0, hx1⟩ := hom
      simp only at hu hn0 hn1 hx0 hx1 c0 c1 c2 c3 c4 c5 hWA hCA
      have HCA := Lib.hid hCA
      have HQA := Lib.hid (Qt.trans q qA)
      have HWA := Lib.hid hWA
      obtain ⟨d0, d1, d2, d3, d4, d5⟩ := hCA WA (Qt.refl _)
      have NX := Lib.hid (fun (W : World) (q : Qt w W) => (show PlaysAt w os.length (.int .i64 ((m : Int) + 1)) W from ⟨m + 1, hlt, by push_cast; rfl, q⟩))
      clear hCA hWA q qA ho
      by_cases hk1 : kind = 1
      · subst hk1
        obtain ⟨X, r, hr, P1, P2⟩ := both_seal ad u s hu
        have A1 := Lib.hid (fun W (q : Qt w W) => P1 W (HE.out W q) (HT.out W q))
        have A2 := Lib.hid P2
        have N1 := Lib.hid (fun W (q : Qt w W) => NM.out r hr W q)
        clear P1 P2
        generalize errV ad r = ev at *
        go_wp2_with fail
        rw [HWA.out]
        go_wp2_with fail
        refine (A1.out _ HQA.out).mono ?_
        rintro e w2 ⟨rfl, k2⟩
        have K2 := Lib.hid (Qt.trans HQA.out k2)
        obtain ⟨g0, g1, g2, g3, g4, g5⟩ := HCA.out _ k2
        clear k2 d0 d1 d2 d3 d4 d5 HCA
        go_wp2_with fail
        refine (A2.out _).mono ?_
        rintro e w3 ⟨rfl, k3⟩
        have K3 := Lib.hid (Qt.trans K2.out k3)
        clear k3 g0 g1 g2 g3 g4 g5
        go_wp2_with fail
        refine (N1.out _ K3.out).mono ?_
        rintro e w4 ⟨rfl, k4⟩
        have FIN := Lib.hid (NX.out _ (Qt.trans K3.out k4))
        clear k4
        go_wp2
        exact ⟨FIN.out, by simp [intOf]; omega⟩
      by_cases hk2 : kind = 2
      · subst hk2
        clear hk1
        obtain ⟨X, r, P1, P2⟩ := both_open ad u s hu
        have A1 := Lib.hid (fun W (q : Qt w W) => P1 W (HE.out W q) (HT.out W q))
        have A2 := Lib.hid P2
        clear P1 P2
        go_wp2_with fail
        rw [HWA.out]
        go_wp2_with fail
        refine (A1.out _ HQA.out).mono ?_
        rintro e w2 ⟨rfl, k2⟩
        have K2 := Lib.hid (Qt.trans HQA.out k2)
        obtain ⟨g0, g1, g2, g3, g4, g5⟩ := HCA.out _ k2
        clear k2 d0 d1 d2 d3 d4 d5 HCA
        go_wp2_with fail
        refine (A2.out _).mono ?_
        rintro e w3 ⟨rfl, k3⟩
        have K3 := Lib.hid (Qt.trans K2.out k3)
        clear k3 g0 g1 g2 g3 g4 g5
        have FIN := Lib.hid (NX.out _ K3.out)
        go_wp2
        exact ⟨FIN.out, by simp [intOf]; omega⟩
      by_cases hk3 : kind = 3
      · subst hk3
        clear hk1
        clear hk2
        obtain ⟨f, b, r, hr, P1, P2⟩ := both_ends ad s
        have A1 := Lib.hid (fun W (q : Qt w W) => P1 W (HE.out W q))
        have A2 := Lib.hid P2
        have N1 := Lib.hid (fun W (q : Qt w W) => NM.out r hr W q)
        clear P1 P2
        generalize errV ad r = ev at *
        go_wp2_with fail
        rw [HWA.out]
        go_wp2_with fail
        refine (A1.out _ HQA.out).mono ?_
        rintro e w2 ⟨rfl, k2⟩
        have K2 := Lib.hid (Qt.trans HQA.out k2)
        obtain ⟨g0, g1, g2, g3, g4, g5⟩ := HCA.out _ k2
        clear k2 d0 d1 d2 d3 d4 d5 HCA
        go_wp2_with fail
        refine (A2.out _).mono ?_
        rintro e w3 ⟨rfl, k3⟩
        have K3 := Lib.hid (Qt.trans K2.out k3)
        clear k3 g0 g1 g2 g3 g4 g5
        go_wp2_with fail
        refine (N1.out _ K3.out).mono ?_
        rintro e w4 ⟨rfl, k4⟩
        have FIN := Lib.hid (NX.out _ (Qt.trans K3.out k4))
        clear k4
        go_wp2
        exact ⟨FIN.out, by simp [intOf]; omega⟩
      by_cases hk4 : kind = 4
      · subst hk4
        clear hk1
        clear hk2
        clear hk3
        obtain ⟨y, r, hr, P1, P2⟩ := both_log ad n x hn0 hn1 hx0 hx1
        have A1 := Lib.hid (fun W (q : Qt w W) => P1 W (HE.out W q))
        have A2 := Lib.hid P2
        have N1 := Lib.hid (fun W (q : Qt w W) => NM.out r hr W q)
        clear P1 P2
        generalize errV ad r = ev at *
        go_wp2_with fail
        rw [HWA.out]
        go_wp2_with fail
        refine (A1.out _ HQA.out).mono ?_
        rintro e w2 ⟨rfl, k2⟩
        have K2 := Lib.hid (Qt.trans HQA.out k2)
        obtain ⟨g0, g1, g2, g3, g4, g5⟩ := HCA.out _ k2
        clear k2 d0 d1 d2 d3 d4 d5 HCA
        go_wp2_with fail
        refine (A2.out _).mono ?_
        rintro e w3 ⟨rfl, k3⟩
        have K3 := Lib.hid (Qt.trans K2.out k3)
        clear k3 g0 g1 g2 g3 g4 g5
        go_wp2_with fail
        refine (N1.out _ K3.out).mono ?_
        rintro e w4 ⟨rfl, k4⟩
        have FIN := Lib.hid (NX.out _ (Qt.trans K3.out k4))
        clear k4
        go_wp2
        exact ⟨FIN.out, by simp [intOf]; omega⟩
      by_cases hk5 : kind = 5
      · subst hk5
        clear hk1
        clear hk2
        clear hk3
        clear hk4
        obtain ⟨X, r, hr, P1, P2⟩ := both_tear ad s t n hn0 hn1
        have A1 := Lib.hid (fun W (q : Qt w W) => P1 W (HE.out W q))
        have A2 := Lib.hid P2
        have N1 := Lib.hid (fun W (q : Qt w W) => NM.out r hr W q)
        clear P1 P2
        generalize errV ad r = ev at *
        go_wp2_with fail
        rw [HWA.out]
        go_wp2_with fail
        refine (A1.out _ HQA.out).mono ?_
        rintro e w2 ⟨rfl, k2⟩
        have K2 := Lib.hid (Qt.trans HQA.out k2)
        obtain ⟨g0, g1, g2, g3, g4, g5⟩ := HCA.out _ k2
        clear k2 d0 d1 d2 d3 d4 d5 HCA
        go_wp2_with fail
        refine (A2.out _).mono ?_
        rintro e w3 ⟨rfl, k3⟩
        have K3 := Lib.hid (Qt.trans K2.out k3)
        clear k3 g0 g1 g2 g3 g4 g5
        go_wp2_with fail
        refine (N1.out _ K3.out).mono ?_
        rintro e w4 ⟨rfl, k4⟩
        have FIN := Lib.hid (NX.out _ (Qt.trans K3.out k4))
        clear k4
        go_wp2
        exact ⟨FIN.out, by simp [intOf]; omega⟩
      have e1 : (kind == 1) = false := beq_eq_false_iff_ne.2 hk1
      have e2 : (kind == 2) = false := beq_eq_false_iff_ne.2 hk2
      have e3 : (kind == 3) = false := beq_eq_false_iff_ne.2 hk3
      have e4 : (kind == 4) = false := beq_eq_false_iff_ne.2 hk4
      have e5 : (kind == 5) = false := beq_eq_false_iff_ne.2 hk5
      clear hk1 hk2 hk3 hk4 hk5
      have FIN := Lib.hid (NX.out _ HQA.out)
      go_wp2_with fail
      rw [HWA.out]
      go_wp2
      exact ⟨FIN.out, by simp [intOf]; omega⟩
    · obtain rfl : m = os.length := by omega
      have HQ := Lib.hid q; clear q
      go_wp2
      go_ret
      exact ⟨rfl, HQ.out⟩
end Go.Proofs.YtojcpegdbnnmdaaDoor
