/-
  The contract of remitlaw01.WireShort: it answers true.
-/
import Derived.Test.YtilhkbohemghlaaDoorOps
namespace Go.Proofs.YtilhkbohemghlaaDoor
open Go.RowKit
set_option maxRecDepth 100000

theorem Strs.since {B : Nat} {w w' : World} {v : Value} {g o : Nat} {ss : List (List UInt8)} (h : Strs w v g o ss) (k : Since B w w') (hB : w.heap.size ≤ B) : Strs w' v g o ss := h.kept k (fun hne e => by have := h.lt hne; omega)

theorem cut_size (y : List UInt8) {c : Nat} (h : c < y.length) : ((⟨y.toArray⟩ : ByteArray).extract 0 c).size = c := by
  have e : ((⟨y.toArray⟩ : ByteArray).extract 0 c).size = ((⟨y.toArray⟩ : ByteArray).extract 0 c).data.toList.length := rfl
  rw [e, Lib.extract_data, List.length_take]
  simp
  omega

theorem cut_at (cut : Int) {n : Nat} (hn : 0 < n) (hl : n ≤ 1073741834) : ∃ c : Nat, c < n ∧ wrap64 ((IntKind.u64.wrap cut).tmod (n : Int)) = (c : Int) := by
  have h0 : 0 ≤ IntKind.u64.wrap cut := by rw [IntKind.wrap_u64]; omega
  have h1 : (IntKind.u64.wrap cut).tmod (n : Int) = IntKind.u64.wrap cut % (n : Int) := Int.tmod_eq_emod_of_nonneg h0
  have h2 : 0 ≤ IntKind.u64.wrap cut % (n : Int) := Int.emod_nonneg _ (by omega)
  have h3 : IntKind.u64.wrap cut % (n : Int) < n := Int.emod_lt_of_pos _ (by omega)
  rw [h1]
  refine ⟨(IntKind.u64.wrap cut % (n : Int)).toNat, by omega, ?_⟩
  unfold wrap64
  omega

/-- An Op's cells. -/
def OpD.cells (o : OpD) : Array Value := #[.int .i64 o.kind, .bool o.second, .int .u64 o.u, .int .i64 o.i, .int .i64 o.n, .int .i64 o.m, .string o.s, o.v]
theorem OpD.val_cells (o : OpD) : o.val = .agg o.cells := rfl

set_option maxHeartbeats 1600000 in
theorem short_none (ad : Nat → Addr) (o : OpD) (tail : ByteArray) (cut : Int) (w : World) (hE : Errs ad w) (hy : o.enc = none) :
    Calls Tryd.prog 7 #[o.val, .string tail, .int .i64 cut] w fun e w' => e = .returned (.bool true) ∧ Keeps (fun _ => False) w w' := by
  have hw0 := Lib.hid (fun (b : Nat) (r : Option Nat) (l : List UInt8) (w : World) (h : Wr b r l w) => write_0 b r l o w h (o.enc_none hy))
  clear hy
  obtain ⟨kind, sec, u, i, nn, m, os, v, ss⟩ := o
  simp only [OpD.val] at *
  have hE' := Lib.hid (fun o => hE.alloc o)
  clear hE
  go_enter Tryd.func7, Tryd.ntmps7
  go_wp2_with fail
  have cbox : ∀ C t j, (w.alloc (.cells C t)).cell? ⟨w.heap.size, j, none⟩ = C[j]? := fun C t j => cell_of_row _ _ _ _ _ _ (heap_alloc_new w _)
  have hk0 : ∀ o, Keeps (fun _ => False) w (w.alloc o) := fun o => (Keeps.refl _ _).alloc o
  have hs0 : ∀ o, w.heap.size < (w.alloc o).heap.size := fun o => by simp
  generalize hW : w.alloc _ = W
  have hcW : ∀ j, W.cell? ⟨w.heap.size, j, none⟩ = (#[Value.int .i64 kind, .bool sec, .int .u64 u, .int .i64 i, .int .i64 nn, .int .i64 m, .string os, v] : Array Value)[j]? := fun j => by rw [← hW, cbox]
  have hcW' := Lib.hid hcW
  have hKW := Lib.hid (hW ▸ hk0 _)
  have hSW := (hW ▸ hs0 _ : w.heap.size < W.heap.size)
  have hEW := Lib.hid (hW ▸ hE'.out _)
  clear cbox hk0 hs0 hE' hcW hW
  refine (fixed_any ad W hEW.out).mono ?_
  rintro e W1 ⟨rfl, k1⟩
  go_wp2_with fail
  refine (wnew_any W1).mono ?_
  rintro e W2 ⟨rfl, h2, k2, s2⟩
  have hk2 := k1.trans k2 (fun _ _ h => h)
  have c0 : W2.cell? ⟨w.heap.size, 0, none⟩ = some (.int .i64 kind) := (hk2.cell hSW (fun h => h)).trans (hcW'.out 0)
  have c1 : W2.cell? ⟨w.heap.size, 1, none⟩ = some (.bool sec) := (hk2.cell hSW (fun h => h)).trans (hcW'.out 1)
  have c2 : W2.cell? ⟨w.heap.size, 2, none⟩ = some (.int .u64 u) := (hk2.cell hSW (fun h => h)).trans (hcW'.out 2)
  have c3 : W2.cell? ⟨w.heap.size, 3, none⟩ = some (.int .i64 i) := (hk2.cell hSW (fun h => h)).trans (hcW'.out 3)
  have c4 : W2.cell? ⟨w.heap.size, 4, none⟩ = some (.int .i64 nn) := (hk2.cell hSW (fun h => h)).trans (hcW'.out 4)
  have c5 : W2.cell? ⟨w.heap.size, 5, none⟩ = some (.int .i64 m) := (hk2.cell hSW (fun h => h)).trans (hcW'.out 5)
  have c6 : W2.cell? ⟨w.heap.size, 6, none⟩ = some (.string os) := (hk2.cell hSW (fun h => h)).trans (hcW'.out 6)
  have c7 : W2.cell? ⟨w.heap.size, 7, none⟩ = some v := (hk2.cell hSW (fun h => h)).trans (hcW'.out 7)
  have hk2' := Lib.hid (hKW.out.trans hk2 (fun _ _ h => h))
  have hs1 := k1.size
  clear k1 k2 hk2 hKW hEW
  go_wp2_with fail
  refine (hw0.out _ _ _ _ h2).mono ?_
  rintro e W3 ⟨rfl, ⟨r3, h3, k3⟩⟩
  have fin := Lib.hid (Keeps.fresh (Kept.since (B := w.heap.size) (hk2'.out.mono (fun _ _ h => h.elim)) k3 (by omega) (fun g h => by cases h)))
  clear k3 hk2'
  go_wp2
  go_ret
  exact ⟨rfl, fin.out⟩

set_option maxHeartbeats 1600000 in
theorem short_some (ad : Nat → Addr) (o : OpD) (tail : ByteArray) (cut : Int) (w : World) (hE : Errs ad w) (y : List UInt8) (hy : o.enc = some y) (ho : o.Ok) (hsm : o.Small) (htl : tail.size ≤ 16777216) (hc0 : -9223372036854775808 ≤ cut) (hc1 : cut ≤ 9223372036854775807) (g g0 : Nat) (hst : Strs w o.v g g0 o.ss) :
    Calls Tryd.prog 7 #[o.val, .string tail, .int .i64 cut] w fun e w' => e = .returned (.bool true) ∧ Keeps (fun _ => False) w w' := by
  obtain ⟨hy0, hyl⟩ := o.enc_len hy ho hsm
  obtain ⟨c, hcy, hcut⟩ := cut_at cut hy0 hyl
  have hw0 := Lib.hid (fun (b : Nat) (r : Option Nat) (w : World) (h : Wr b r [] w) (hs : Strs w o.v g g0 o.ss) (hd : o.ss ≠ [] → g ≠ b ∧ some g ≠ r) => write_any b r [] o w y h ho hsm hy g g0 hs hd (by simp))
  have hr0 := Lib.hid (fun (b : Nat) (s : ByteArray) (w : World) (t : List UInt8) (h : Rd b s 0 w) (hE : Errs ad w) (hO : OffErrs ad (fun k => k = b)) (hr : rest s 0 = y ++ t) (h40 : s.size ≤ 1099511627776) (hs : Strs w o.v g g0 o.ss) (hg : o.ss ≠ [] → g ≠ b) => reads_any ad b s 0 o w y t h hE hO ho hsm hy hr h40 g g0 hs hg)
  have hc0' := Lib.hid (fun (b : Nat) (s : ByteArray) (w : World) (c : Nat) (h : Rd b s 0 w) (hE : Errs ad w) (hO : OffErrs ad (fun k => k = b)) (hc : c < y.length) (hr : rest s 0 = y.take c) (h40 : s.size ≤ 1099511627776) (hs : Strs w o.v g g0 o.ss) => shorts_any ad b s 0 o w y c h hE hO ho hsm hy hc hr h40 g g0 hs)
  clear hy ho hsm
  obtain ⟨kind, sec, u, i, nn, m, os, v, ss⟩ := o
  simp only [OpD.val] at *
  have hst' := Lib.hid (fun o => hst.alloc o)
  have hglt := Lib.hid hst.lt
  have HST := Lib.hid hst
  have HE := Lib.hid hE
  clear hst
  have hE' := Lib.hid (fun o => hE.alloc o)
  clear hE
  go_enter Tryd.func7, Tryd.ntmps7
  go_wp2_with fail
  have cbox : ∀ C t j, (w.alloc (.cells C t)).cell? ⟨w.heap.size, j, none⟩ = C[j]? := fun C t j => cell_of_row _ _ _ _ _ _ (heap_alloc_new w _)
  have hk0 : ∀ o, Keeps (fun _ => False) w (w.alloc o) := fun o => (Keeps.refl _ _).alloc o
  have hs0 : ∀ o, w.heap.size < (w.alloc o).heap.size := fun o => by simp
  generalize hW : w.alloc _ = W
  have hcW : ∀ j, W.cell? ⟨w.heap.size, j, none⟩ = (#[Value.int .i64 kind, .bool sec, .int .u64 u, .int .i64 i, .int .i64 nn, .int .i64 m, .string os, v] : Array Value)[j]? := fun j => by rw [← hW, cbox]
  have hcW' := Lib.hid hcW
  have hKW := Lib.hid (hW ▸ hk0 _)
  have hSW := (hW ▸ hs0 _ : w.heap.size < W.heap.size)
  have hEW := Lib.hid (hW ▸ hE'.out _)
  have hTW := Lib.hid (hW ▸ hst'.out _)
  clear hst'
  clear cbox hk0 hs0 hE' hcW hW
  refine (fixed_any ad W hEW.out).mono ?_
  rintro e W1 ⟨rfl, k1⟩
  go_wp2_with fail
  refine (wnew_any W1).mono ?_
  rintro e W2 ⟨rfl, h2, k2, s2⟩
  have hk2 := k1.trans k2 (fun _ _ h => h)
  have c0 : W2.cell? ⟨w.heap.size, 0, none⟩ = some (.int .i64 kind) := (hk2.cell hSW (fun h => h)).trans (hcW'.out 0)
  have c1 : W2.cell? ⟨w.heap.size, 1, none⟩ = some (.bool sec) := (hk2.cell hSW (fun h => h)).trans (hcW'.out 1)
  have c2 : W2.cell? ⟨w.heap.size, 2, none⟩ = some (.int .u64 u) := (hk2.cell hSW (fun h => h)).trans (hcW'.out 2)
  have c3 : W2.cell? ⟨w.heap.size, 3, none⟩ = some (.int .i64 i) := (hk2.cell hSW (fun h => h)).trans (hcW'.out 3)
  have c4 : W2.cell? ⟨w.heap.size, 4, none⟩ = some (.int .i64 nn) := (hk2.cell hSW (fun h => h)).trans (hcW'.out 4)
  have c5 : W2.cell? ⟨w.heap.size, 5, none⟩ = some (.int .i64 m) := (hk2.cell hSW (fun h => h)).trans (hcW'.out 5)
  have c6 : W2.cell? ⟨w.heap.size, 6, none⟩ = some (.string os) := (hk2.cell hSW (fun h => h)).trans (hcW'.out 6)
  have c7 : W2.cell? ⟨w.heap.size, 7, none⟩ = some v := (hk2.cell hSW (fun h => h)).trans (hcW'.out 7)
  have hk2' := Lib.hid (hKW.out.trans hk2 (fun _ _ h => h))
  have hs1 := k1.size
  have hE2 := Lib.hid (hEW.out.kept hk2 (OffErrs.none ad))
  have hT2 := Lib.hid (hTW.out.kept hk2 (fun _ h => h))
  have hs2 := k2.size
  have hgb : ss ≠ [] → g ≠ W1.heap.size ∧ some g ≠ (none : Option Nat) := fun hne => ⟨fun e => by have := hglt.out hne; omega, by simp⟩
  have hgb' := Lib.hid hgb
  have hcW2 : ∀ j, W2.cell? ⟨w.heap.size, j, none⟩ = W.cell? ⟨w.heap.size, j, none⟩ := fun j => hk2.cell hSW (fun h => h)
  have hcW2' := Lib.hid hcW2
  clear k1 k2 hk2 hKW hEW hTW hgb hcW2
  go_wp2_with fail
  refine (hw0.out _ _ _ h2 hT2.out hgb'.out).mono ?_
  rintro e W3 ⟨rfl, ⟨r3, h3, k3⟩⟩
  have R3 : ∀ g', r3 = some g' → W2.heap.size ≤ g' := fun g' hg' => by
    rcases k3.later with e | ⟨g2, e, hge⟩
    · rw [e] at hg'; cases hg'
    · rw [e] at hg'; injection hg' with hg'; omega
  have S3 : Since w.heap.size w W3 := Kept.since (B := w.heap.size) (hk2'.out.mono (fun _ _ h => h.elim)) k3 (by omega) (fun g h => by cases h)
  have hB3 : ∀ j, W3.cell? ⟨w.heap.size, j, none⟩ = W.cell? ⟨w.heap.size, j, none⟩ := fun j => (k3.keeps.cell (by simp only; omega) (fun e => by rcases e with e | e; simp only at e; omega; cases e)).trans (hcW2'.out j)
  have S3' := Lib.hid S3
  have hB3' := Lib.hid hB3
  have R3' := Lib.hid R3
  have hs3 := k3.keeps.size
  clear S3 hB3 k3 h2 R3 c0 c1 c2 c3 c4 c5 c6 c7
  rw [List.nil_append] at h3
  go_wp2_with fail
  refine (wout_any _ _ _ W3 h3).mono ?_
  rintro e W4 ⟨rfl, h4, k4⟩
  have S4 := Lib.hid (S3'.out.step k4 (fun i e => by have := R3'.out i e.symm; omega))
  have hB4 : ∀ j, W4.cell? ⟨w.heap.size, j, none⟩ = W.cell? ⟨w.heap.size, j, none⟩ := fun j => (k4.cell (by simp only; omega) (fun e => by have := R3'.out _ e.symm; simp only at this; omega)).trans (hB3'.out j)
  have hB4' := Lib.hid hB4
  have hs4 := k4.size
  clear k4 h3 h4 hB4 S3' hB3' R3'
  go_wp2_with fail
  have hSz : ((⟨y.toArray⟩ : ByteArray) ++ tail).size = y.length + tail.size := by simp; rfl
  have hSr : rest ((⟨y.toArray⟩ : ByteArray) ++ tail) 0 = y ++ tail.data.toList := by simp [rest]
  generalize ((⟨y.toArray⟩ : ByteArray) ++ tail) = S at *
  have hS1 : S.size ≤ y.length + tail.size := by omega
  have hS2 : y.length + tail.size ≤ S.size := by omega
  have hSr' := Lib.hid hSr
  clear hSz hSr
  refine (rread_any S W4 (by omega)).mono ?_
  rintro e W5 ⟨rfl, h5, k5⟩
  have S5 := Lib.hid (S4.out.step k5 (fun i e => e.elim))
  have hB5 : ∀ j, W5.cell? ⟨w.heap.size, j, none⟩ = (#[Value.int .i64 kind, .bool sec, .int .u64 u, .int .i64 i, .int .i64 nn, .int .i64 m, .string os, v] : Array Value)[j]? := fun j => ((k5.cell (by simp only; omega) (fun e => e)).trans (hB4'.out j)).trans (hcW'.out j)
  have c0 := hB5 0; have c1 := hB5 1; have c2 := hB5 2; have c3 := hB5 3; have c4 := hB5 4; have c5 := hB5 5; have c6 := hB5 6; have c7 := hB5 7
  have hB5' := Lib.hid hB5
  have hE5 := Lib.hid (HE.out.since (Nat.le_refl _) S5.out)
  have hT5 := Lib.hid (HST.out.since S5.out (Nat.le_refl _))
  have hO5 := Lib.hid (OffErrs.of_ge HE.out (S := fun k => k = W4.heap.size) (fun k e => by omega))
  have hg5 := Lib.hid (fun (hne : ss ≠ []) => show g ≠ W4.heap.size from fun e => by have := hglt.out hne; omega)
  have hs5 := k5.size
  clear k5 hB5 hB4'
  go_wp2_with fail
  refine (hr0.out _ S W5 _ h5 hE5.out hO5.out hSr'.out (by omega) hT5.out hg5.out).mono ?_
  rintro e W6 ⟨rfl, h6⟩
  have S6 := Lib.hid (S5.out.step h6.keeps (fun i e => by omega))
  have hB6 : ∀ j, W6.cell? ⟨w.heap.size, j, none⟩ = (#[Value.int .i64 kind, .bool sec, .int .u64 u, .int .i64 i, .int .i64 nn, .int .i64 m, .string os, v] : Array Value)[j]? := fun j => (h6.keeps.cell (by simp only; omega) (fun e => by simp only at e; omega)).trans (hB5'.out j)
  have hB6' := Lib.hid hB6
  have hr6 := h6.rd
  have hs6 := h6.keeps.size
  clear h6 h5 hB6 c0 c1 c2 c3 c4 c5 c6 c7 hB5' hE5 hT5 S5 S4
  go_wp2_with fail
  refine (rat_any _ _ _ _ hr6).mono ?_
  rintro e W7 ⟨rfl, rfl⟩
  go_wp2_with fail
  refine (rleft_any _ _ _ _ hr6).mono ?_
  rintro e W8 ⟨rfl, n8, rfl⟩
  go_wp2_with fail
  have hTz : ((⟨y.toArray⟩ : ByteArray).extract 0 c).size = c := cut_size y hcy
  have hTr : rest ((⟨y.toArray⟩ : ByteArray).extract 0 c) 0 = y.take c := by unfold rest; rw [Lib.extract_data]; simp
  generalize ((⟨y.toArray⟩ : ByteArray).extract 0 c) = T at *
  have S8 := Lib.hid (S6.out.drewN n8)
  have hT1 : T.size ≤ c := by omega
  have hTr' := Lib.hid hTr
  clear hTz hTr
  refine (rread_any T _ (by omega)).mono ?_
  rintro e W9 ⟨rfl, h9, k9⟩
  have S9 := Lib.hid (Since.step S8.out k9 (fun i e => e.elim))
  have hB9 : ∀ j, W9.cell? ⟨w.heap.size, j, none⟩ = (#[Value.int .i64 kind, .bool sec, .int .u64 u, .int .i64 i, .int .i64 nn, .int .i64 m, .string os, v] : Array Value)[j]? := fun j => (k9.cell (by simp only [World.heap_drewN]; omega) (fun e => e)).trans (hB6'.out j)
  have c0 := hB9 0; have c1 := hB9 1; have c2 := hB9 2; have c3 := hB9 3; have c4 := hB9 4; have c5 := hB9 5; have c6 := hB9 6; have c7 := hB9 7
  have hE9 := Lib.hid (HE.out.since (Nat.le_refl _) S9.out)
  have hT9 := Lib.hid (HST.out.since S9.out (Nat.le_refl _))
  have hO9 := Lib.hid (OffErrs.of_ge HE.out (S := fun k => k = (W7.drewN n8).heap.size) (fun k e => by simp only [World.heap_drewN] at e; omega))
  have hb9 : w.heap.size ≤ (W7.drewN n8).heap.size := by simp only [World.heap_drewN]; omega
  generalize (W7.drewN n8).heap.size = b9 at *
  clear k9 hB9 hB6' S6 S8 hr6 hr0 hw0
  go_wp2_with fail
  refine (hc0'.out _ T W9 c h9 hE9.out hO9.out hcy hTr'.out (by omega) hT9.out).mono ?_
  rintro e W10 ⟨rfl, h10⟩
  have S10 := Lib.hid (Keeps.fresh (Since.step S9.out h10.keeps (fun i e => by omega)))
  have hr10 := h10.rd
  clear h10 h9 S9 hE9 hT9 hO9 c0 c1 c2 c3 c4 c5 c6 c7
  go_wp2_with fail
  refine (rat_any _ _ _ _ hr10).mono ?_
  rintro e W11 ⟨rfl, rfl⟩
  go_wp2
  go_ret
  exact ⟨rfl, S10.out⟩
end Go.Proofs.YtilhkbohemghlaaDoor
