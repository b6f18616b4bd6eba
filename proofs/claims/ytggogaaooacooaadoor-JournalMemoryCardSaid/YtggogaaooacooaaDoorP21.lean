/-
  The contracts of remitref06's New and From.
  A disk of the law's own: its contracts, over the world in which the law began.
  A disk and the document's own, side by side.
-/
import Derived.Test.YtggogaaooacooaaDoorP18
import Derived.Test.YtggogaaooacooaaDoorP20
namespace Go.Proofs.YtggogaaooacooaaDoor
open Go.RowKit Go.WideShapes
set_option maxRecDepth 100000

theorem infoStr7 : (Tryd.prog.info? 9).map (fun i => (i.zero, i.size, i.bytes)) = some (some (.string ⟨#[]⟩), 1, 16) := by kernel_rfl

/-- A reference in the making: its sectors so far. -/
structure NewI (w W : World) (b : Nat) (sv : Value) (D : List (List UInt8)) : Prop where
  cells : W.heap[b]? = some (.cells (refCells sv (.slice none 0 0) ⟨D, [], -1, false, 0, 0, 0⟩) 84 (0, 0))
  secs : W.ownsRow 0 9 1 sv D.length (D.map strV)
  nb : w.heap.size ≤ b
  ns : ∀ k, sv.ownBlock = some k → w.heap.size ≤ k ∧ k ≠ b
  qt : Qt w W

theorem NewI.start (w : World) : NewI w (w.alloc (.cells #[.slice none 0 0, .slice none 0 0, .bool false, .bool false, .int .i64 0, .int .i64 0, .int .i64 0, .int .i64 0] 84)) w.heap.size (.slice none 0 0) [] :=
  ⟨heap_alloc_new w _, World.ownsRow_nil _ 0 _ 1, Nat.le_refl _, fun k e => (by cases e), (Qt.refl w).alloc _⟩

theorem NewI.qt' {w W W' : World} {b : Nat} {sv : Value} {D : List (List UInt8)} (h : NewI w W b sv D) (q : Qt W W') : NewI w W' b sv D :=
  ⟨(q.block _ (lt_of_block h.cells) (fun e => e)).trans h.cells, ownsRow_kept h.secs q (fun _ _ e => e), h.nb, h.ns, Qt.trans h.qt q⟩

theorem NewI.blk1 {w W W1 : World} {b : Nat} {sv : Value} {D : List (List UInt8)} (h : NewI w W b sv D) (hg : W.grownBy W1 sv.ownBlock) : W1.heap[b]? = some (.cells (refCells sv (.slice none 0 0) ⟨D, [], -1, false, 0, 0, 0⟩) 84 (0, 0)) :=
  ((Keeps.grown (Keeps.refl _ W) hg (fun _ _ e => e) : Keeps (fun k => some k = sv.ownBlock) W W1).block b (lt_of_block h.cells) (fun e => (h.ns b e.symm).2 rfl)).trans h.cells

theorem NewI.push {w W W1 : World} {b : Nat} {sv v' : Value} {D : List (List UInt8)} {s : List UInt8} (h : NewI w W b sv D)
    (ho : W1.ownsRow 0 9 1 v' (D.length + 1) (D.map strV ++ [strV s])) (hg : W.grownBy W1 sv.ownBlock) (hl : Later W sv.ownBlock v'.ownBlock) : NewI w (W1.setCell ⟨b, 0, none⟩ v') b v' (D ++ [s]) := by
  have K1 : Keeps (fun k => some k = sv.ownBlock) W W1 := Keeps.grown (Keeps.refl _ W) hg (fun _ _ e => e)
  have hn : ∀ k, v'.ownBlock = some k → w.heap.size ≤ k ∧ k ≠ b := by
    intro k hk
    rcases hl with q | ⟨g, q, hq⟩
    · exact h.ns k (q ▸ hk)
    · rw [hk] at q; injection q with q; subst q
      have := lt_of_block h.cells
      have := h.qt.size
      exact ⟨by omega, by omega⟩
  have K2 := keeps_setCell W1 b 0 v'
  refine ⟨?_, ?_, h.nb, hn, ?_⟩
  · rw [setCell_row (h.blk1 hg)]
    simp [refCells]
  · have := ownsRow_kept ho K2 (fun k e q => (hn k e).2 q)
    simpa using this
  · exact Keeps.trans (Keeps.trans h.qt K1 (fun k hk e => by have := (h.ns k e.symm).1; omega)) K2 (fun k hk e => by have := h.nb; omega)

theorem grownBy_none {W W1 : World} (h : W.grownBy W1 none) (r : Option Nat) : W.grownBy W1 r := ⟨h.os, h.tape, h.output, h.size, fun k hk _ => h.block k hk (by simp)⟩

/-- As a step of a region says it. -/
theorem NewI.push2 {w W W1 : World} {b g' cap' n : Nat} {sv u : Value} {s : List UInt8} {D : List (List UInt8)} (h : NewI w W b sv D) (hn : D.length = n) (hu : u = strV s)
    (ho : W1.ownsRow 0 9 1 (.slice (some ⟨g', 0, none⟩) (n + 1) cap') (n + 1) (D.map strV ++ [u]))
    (hc : (some g' = sv.ownBlock ∧ W.grownBy W1 sv.ownBlock) ∨ (W.heap.size ≤ g' ∧ W.grownBy W1 none)) :
    NewI w (W1.setCell ⟨b, 0, none⟩ (.slice (some ⟨g', 0, none⟩) (n + 1) cap')) b (.slice (some ⟨g', 0, none⟩) (n + 1) cap') (D ++ [s]) ∧ W1.cell? ⟨b, 0, none⟩ = some sv ∧ W1.frozen? ⟨b, 0, none⟩ = false := by
  subst hn hu
  have hg : W.grownBy W1 sv.ownBlock := by
    rcases hc with ⟨_, q⟩ | ⟨_, q⟩
    · exact q
    · exact grownBy_none q _
  have hl : Later W sv.ownBlock (Value.slice (some ⟨g', 0, none⟩) (D.length + 1) cap').ownBlock := by
    rcases hc with ⟨q, _⟩ | ⟨q, _⟩
    · exact .inl (by rw [← q]; rfl)
    · exact .inr ⟨g', rfl, q⟩
  have hb := h.blk1 hg
  exact ⟨h.push ho hg hl, by rw [cell_of_row _ _ _ _ _ _ hb]; rfl, frozen_of_row hb 0⟩

theorem NewI.done {w W : World} {b : Nat} {sv : Value} {D : List (List UInt8)} (h : NewI w W b sv D) (hok : (DS.mk D [] (-1) false 0 0 0).Ok) : RefAt W b ⟨D, [], -1, false, 0, 0, 0⟩ (Grow (fun _ => False) w W) := by
  refine ⟨sv, .slice none 0 0, ⟨hok, h.cells, h.secs, World.ownsRow_nil _ 0 _ 2⟩, ?_⟩
  rintro k (rfl | e | e)
  · exact .inr ⟨h.nb, lt_of_block h.cells⟩
  · exact .inr ⟨(h.ns k e).1, ownsRow_lt h.secs e⟩
  · cases e

/-- The state of New's loop. -/
def SNewAt (w : World) (b n : Nat) (iv : Value) (wr : World) : Prop := ∃ (k : Nat) (sv : Value), k ≤ n ∧ iv = .int .i64 k ∧ NewI w wr b sv (List.replicate k zeros)

def SNewP (n : Int) (w : World) (e : Ending) (w' : World) : Prop :=
  (¬ (1 ≤ n ∧ n ≤ 65536) ∧ e = .returned (.tuple #[.pointer none, .int .i64 6]) ∧ Qt w w') ∨
  (1 ≤ n ∧ n ≤ 65536 ∧ ∃ b, e = .returned (.tuple #[.pointer (some ⟨b, 0, none⟩), .int .i64 0]) ∧ RefAt w' b (DS.newD n.toNat) (Grow (fun _ => False) w w') ∧ Qt w w')

theorem ref_new_no (n : Int) (w : World) (h : ¬ (1 ≤ n ∧ n ≤ 65536)) : Calls Tryd.prog 10 #[.int .i64 n] w (SNewP n w) := by
  have FIN := Lib.hid (show SNewP n w (.returned (.tuple #[.pointer none, .int .i64 6])) w from .inl ⟨h, rfl, Qt.refl _⟩)
  by_cases h1 : n < 1
  · have g1 : decide (n < 1) = true := decide_eq_true h1
    clear h
    go_enter Tryd.func10, Tryd.ntmps10
    go_wp2
    go_ret2
    exact FIN.out
  · have g1 : decide (n < 1) = false := decide_eq_false h1
    have g2 : decide (65536 < n) = true := decide_eq_true (by omega)
    clear h
    go_enter Tryd.func10, Tryd.ntmps10
    go_wp2
    go_ret2
    exact FIN.out

set_option maxHeartbeats 3200000 in
theorem ref_new_ok (n : Nat) (w : World) (h1 : 1 ≤ n) (h2 : n ≤ 65536) : Calls Tryd.prog 10 #[.int .i64 n] w (SNewP n w) := by
  have g1 : decide ((n : Int) < 1) = false := decide_eq_false (by omega)
  have g2 : decide ((65536 : Int) < (n : Int)) = false := decide_eq_false (by omega)
  have g3 : ¬ n < 1 := by omega
  have g4 : ¬ 65536 < n := by omega
  have HST := Lib.hid (NewI.start w)
  obtain ⟨w1, hw1⟩ : ∃ W, w.alloc (.cells #[.slice none 0 0, .slice none 0 0, .bool false, .bool false, .int .i64 0, .int .i64 0, .int .i64 0, .int .i64 0] 84) = W := ⟨_, rfl⟩
  rw [hw1] at HST
  have HW1 := Lib.hid hw1
  obtain ⟨b, hb⟩ : ∃ b, w.heap.size = b := ⟨_, rfl⟩
  rw [hb] at HST
  have HBB := Lib.hid hb
  clear hw1 hb
  go_enter Tryd.func10, Tryd.ntmps10
  go_wp2_with fail
  rw [HW1.out, HBB.out]
  go_loopw [5] (fun iv wr => SNewAt w b n iv wr) (fun iv _ => n - (intOf iv).toNat)
  case atStart => exact ⟨0, _, Nat.zero_le _, rfl, HST.out⟩
  case round =>
    obtain ⟨k, sv, hk, rfl, hI⟩ := hrel
    by_cases hlt : k < n
    · obtain ⟨sa, sc, hsv, _⟩ := own_slice hI.secs
      subst hsv
      rw [List.length_replicate] at hI
      have c0 : wr.cell? ⟨b, 0, none⟩ = some (.slice sa k sc) := by rw [cell_of_row _ _ _ _ _ _ hI.cells]; rfl
      have HI := Lib.hid hI
      clear hI
      have hmk := fun W => make_bytes W
      have qA : Qt wr (wr.alloc (.cells (madeCells #[Value.int .u8 0] 256) 5)) := (Qt.refl wr).alloc _
      have qB : Qt wr ((wr.alloc (.cells (madeCells #[Value.int .u8 0] 256) 5)).alloc (.cells #[.string ⟨zeros.toArray⟩] 9)).drew := Keeps.drew (qA.alloc (.cells #[.string ⟨zeros.toArray⟩] 9))
      have cA : (wr.alloc (.cells (madeCells #[Value.int .u8 0] 256) 5)).cell? ⟨b, 0, none⟩ = some (.slice sa k sc) := Qt.cellv qA c0
      have cB : ((wr.alloc (.cells (madeCells #[Value.int .u8 0] 256) 5)).alloc (.cells #[.string ⟨zeros.toArray⟩] 9)).cell? ⟨b, 0, none⟩ = some (.slice sa k sc) := Qt.cellv (qA.alloc (.cells #[.string ⟨zeros.toArray⟩] 9)) c0
      have hcv : (convert 75 9 (.slice (some ⟨wr.heap.size, 0, none⟩) 256 256)).run Tryd.prog (wr.alloc (.cells (madeCells #[Value.int .u8 0] 256) 5)).drew = .ok (.string ⟨zeros.toArray⟩) (wr.alloc (.cells (madeCells #[Value.int .u8 0] 256) 5)).drew := conv_kept wr _ (Keeps.drew (Qt.refl _))
      have OW := Lib.hid (show (((wr.alloc (.cells (madeCells #[Value.int .u8 0] 256) 5)).alloc (.cells #[.string ⟨zeros.toArray⟩] 9)).drew).ownsRow 0 9 1 (.slice sa k sc) k ((List.replicate k zeros).map strV) from by have := (HI.out.qt' qB).secs; rw [List.length_replicate] at this; exact this)
      have nw := World.news_of_block (cs := #[.string ⟨zeros.toArray⟩]) (heap_alloc_new (wr.alloc (.cells (madeCells #[Value.int .u8 0] 256) 5)) (.cells #[.string ⟨zeros.toArray⟩] 9))
      rw [World.size_alloc] at nw
      have NW := Lib.hid (show ∀ (j : Nat) (y : Value), [Value.string ⟨zeros.toArray⟩][j]? = some y → (((wr.alloc (.cells (madeCells #[Value.int .u8 0] 256) 5)).alloc (.cells #[.string ⟨zeros.toArray⟩] 9)).drew).cell? ((⟨wr.heap.size + 1, 0, none⟩ : Addr).add j) = some y from nw)
      have F := Lib.hid (fun (g' cap' : Nat) (w4 : World) (ho : w4.ownsRow 0 9 1 (.slice (some ⟨g', 0, none⟩) (k + 1) cap') (k + 1) ((List.replicate k zeros).map strV ++ [.string ⟨zeros.toArray⟩]))
        (hc : (some g' = (Value.slice sa k sc).ownBlock ∧ (((wr.alloc (.cells (madeCells #[Value.int .u8 0] 256) 5)).alloc (.cells #[.string ⟨zeros.toArray⟩] 9)).drew).grownBy w4 (Value.slice sa k sc).ownBlock) ∨ ((((wr.alloc (.cells (madeCells #[Value.int .u8 0] 256) 5)).alloc (.cells #[.string ⟨zeros.toArray⟩] 9)).drew).heap.size ≤ g' ∧ (((wr.alloc (.cells (madeCells #[Value.int .u8 0] 256) 5)).alloc (.cells #[.string ⟨zeros.toArray⟩] 9)).drew).grownBy w4 none)) => NewI.push2 (s := zeros) (HI.out.qt' qB) (List.length_replicate ..) rfl ho hc)
      obtain ⟨j0, hi, hz0, hz1, hz2⟩ := info_parts infoStr7
      obtain ⟨Z, hZ⟩ : ∃ Z : ByteArray, ⟨zeros.toArray⟩ = Z := ⟨_, rfl⟩
      rw [hZ] at cB hcv OW NW F
      clear qA qB hZ nw
      go_wp2_with fail
      go_region_law ((refine step_append_one _ (by rfl) _ _ _ (by rfl) 9 j0 (.string ⟨#[]⟩) 16 Tryd.underlying66 hi hz0 hz1 hz2 rfl _ k _ (by rfl) OW.out ⟨wr.heap.size + 1, 0, none⟩ 1 (.string Z) (by rfl) NW.out rfl (by unfold maxLen; omega) (by omega) ?_; intro g' cap' w4 hown4 hcase4; obtain ⟨q1, q2, q3⟩ := F.out g' cap' w4 hown4 hcase4; have HQ1 := Lib.hid q1; clear hown4 hcase4 q1))
      all_goals
        have FF := Lib.hid (show SNewAt w b n (.int .i64 ((k : Int) + 1)) (w4.setCell ⟨b, 0, none⟩ (.slice (some ⟨g', 0, none⟩) (k + 1) cap')) from ⟨k + 1, _, hlt, by simp, by rw [List.replicate_succ']; exact HQ1.out⟩)
        clear cA cB hcv q2 q3 c0
        go_wp2_with fail
        go_roundw
        case rel => exact FF.out
        case measure => simp [intOf]; omega
    · obtain rfl : k = n := by omega
      have FIN := Lib.hid (show SNewP k w (.returned (.tuple #[.pointer (some ⟨b, 0, none⟩), .int .i64 0])) wr from .inr ⟨by omega, by omega, b, rfl, by
        rw [Int.toNat_natCast]
        exact hI.done (DS.Ok.new h1 h2), hI.qt⟩)
      clear hI hlt
      go_wp2_with fail
      go_ret2
      exact FIN.out

theorem ref_new (n : Int) (w : World) : Calls Tryd.prog 10 #[.int .i64 n] w (SNewP n w) := by
  by_cases h : 1 ≤ n ∧ n ≤ 65536
  · obtain ⟨h1, h2⟩ := h
    obtain ⟨k, rfl⟩ := Int.eq_ofNat_of_zero_le (show 0 ≤ n by omega)
    exact ref_new_ok k w (by omega) (by omega)
  · exact ref_new_no n w h
end Go.Proofs.YtggogaaooacooaaDoor
namespace Go.Proofs.YtggogaaooacooaaDoor
open Go.RowKit Go.WideShapes
set_option maxRecDepth 100000

section
variable {ad : Nat → Addr} {w0 w : World} {b : Nat} {d : DS}

theorem errs_since (hE : Errs ad w0) (hS : Since w0.heap.size w0 w) : Errs ad w := hE.kept hS (OffErrs.of_ge hE (fun _ h => h))
theorem off_since (hE : Errs ad w0) : OffErrs ad (fun k => w0.heap.size ≤ k) := OffErrs.of_ge hE (fun _ h => h)

theorem own_new (hS : Since w0.heap.size w0 w) (n : Nat) (h1 : 1 ≤ n) (h2 : n ≤ 65536) :
    Calls Tryd.prog 9 #[.int .i64 n] w fun e w' => ∃ b, e = .returned (.tuple #[.pointer (some ⟨b, 0, none⟩), .nilIface]) ∧ Own w0.heap.size w' b (DS.newD n) ∧ Since w0.heap.size w0 w' := by
  refine (new_ok n w h1 h2).mono ?_
  rintro e w' ⟨he, hD, hQ⟩
  exact ⟨_, he, Own.grow hS.size (fun _ h => h.elim) hD, hS.step hQ (fun _ h => h.elim)⟩

theorem own_write (hE : Errs ad w0) (hS : Since w0.heap.size w0 w) (h : Own w0.heap.size w b d) (hf : d.Few) (i : Int) (s : ByteArray) :
    Calls Tryd.prog 33 #[.pointer (some ⟨b, 0, none⟩), .int .i64 i, .string s] w fun e w' => e = .returned (errV ad (d.writeE i (strL s))) ∧ Own w0.heap.size w' b (d.writeD i (strL s)) ∧ Since w0.heap.size w0 w' := by
  refine (write_any ad (errs_since hE hS) (off_since hE) h hf i s).mono ?_
  rintro e w' ⟨he, hD, hK⟩
  exact ⟨he, Own.grow hS.size (fun _ h => h) hD, hS.step hK (fun _ h => h)⟩

theorem own_flush (hE : Errs ad w0) (hS : Since w0.heap.size w0 w) (h : Own w0.heap.size w b d) (hf : d.Few) :
    Calls Tryd.prog 69 #[.pointer (some ⟨b, 0, none⟩)] w fun e w' => e = .returned (errV ad d.flushE) ∧ Own w0.heap.size w' b d.flushD ∧ Since w0.heap.size w0 w' := by
  refine (flush_any ad (errs_since hE hS) (off_since hE) h hf).mono ?_
  rintro e w' ⟨he, hD, hK⟩
  exact ⟨he, Own.grow hS.size (fun _ h => h) hD, hS.step hK (fun _ h => h)⟩

theorem own_arm (hS : Since w0.heap.size w0 w) (h : Own w0.heap.size w b d) (k : Int) (hk : k ≤ 9223372036854775807) :
    Calls Tryd.prog 36 #[.pointer (some ⟨b, 0, none⟩), .int .i64 k] w fun e w' => e = .returned (.tuple #[]) ∧ Own w0.heap.size w' b (d.armD k) ∧ Since w0.heap.size w0 w' := by
  refine (arm_any h k hk).mono ?_
  rintro e w' ⟨he, hD, hK⟩
  exact ⟨he, Own.grow hS.size (fun _ h => h) hD, hS.step hK (fun _ h => h)⟩

theorem own_crash (hS : Since w0.heap.size w0 w) (h : Own w0.heap.size w b d) (hf : d.Few) (v : Value) (f : FT) (hv : Bools w v f.kept) (hb : ∀ a n c, v = .slice (some a) n c → n ≠ 0 → a.block < w0.heap.size) :
    Calls Tryd.prog 38 #[.pointer (some ⟨b, 0, none⟩), fateV v f] w fun e w' => e = .returned (.tuple #[]) ∧ Own w0.heap.size w' b (d.crashD f) ∧ Since w0.heap.size w0 w' := by
  refine (crash_any w b d _ h hf v f hv (fun a n c e n0 k => by have := hb a n c e n0; omega)).mono ?_
  rintro e w' ⟨he, hD, hK⟩
  exact ⟨he, Own.grow hS.size (fun _ h => h) hD, hS.step hK (fun _ h => h)⟩

theorem own_read (hE : Errs ad w0) (hS : Since w0.heap.size w0 w) (h : Own w0.heap.size w b d) (i : Int) :
    Calls Tryd.prog 92 #[.pointer (some ⟨b, 0, none⟩), .int .i64 i] w fun e w' => e = .returned (.tuple #[.string ⟨(d.readE i).toArray⟩, errV ad (d.reach i)]) ∧ w = w' := read_any ad (errs_since hE hS) h i

theorem own_image (hS : Since w0.heap.size w0 w) (h : Own w0.heap.size w b d) :
    Calls Tryd.prog 13 #[.pointer (some ⟨b, 0, none⟩)] w fun e w' => e = .returned (.string ⟨d.image.toArray⟩) ∧ Own w0.heap.size w' b d ∧ Since w0.heap.size w0 w' ∧ Qt w w' := by
  refine (image_any w b d _ h).mono ?_
  rintro e w' ⟨he, hQ⟩
  exact ⟨he, h.qt hQ, hS.step hQ (fun _ h => h.elim), hQ⟩

end
end Go.Proofs.YtggogaaooacooaaDoor
namespace Go.Proofs.YtggogaaooacooaaDoor
open Go.RowKit Go.WideShapes
set_option maxRecDepth 100000

/-- Both in memory, apart, and not in block j (the step's own Op); nothing older than w0 has turned. -/
def Pair (j : Nat) (w0 W : World) (b c : Nat) (d u : DS) : Prop :=
  ∃ S T : Nat → Prop, DiskAt W b d S ∧ RefAt W c u T ∧ (∀ k, S k → T k → False) ∧ (∀ k, S k → w0.heap.size ≤ k ∧ k < W.heap.size ∧ k ≠ j) ∧ (∀ k, T k → w0.heap.size ≤ k ∧ k < W.heap.size ∧ k ≠ j) ∧ Since w0.heap.size w0 W

section
variable {ad : Nat → Addr} {w0 w : World} {j b c : Nat} {d u : DS}

theorem Pair.since (h : Pair j w0 w b c d u) : Since w0.heap.size w0 w := by obtain ⟨S, T, h1, h2, h3, h4, h5, h6⟩ := h; exact h6
theorem Pair.ok (h : Pair j w0 w b c d u) : d.Ok := by obtain ⟨S, T, h1, h2, h3, h4, h5, h6⟩ := h; exact h1.ok
theorem Pair.qt {w' : World} (h : Pair j w0 w b c d u) (q : Qt w w') : Pair j w0 w' b c d u := by
  obtain ⟨S, T, h1, h2, h3, h4, h5, h6⟩ := h
  have hz := q.size
  exact ⟨S, T, h1.qt q, h2.qt q, h3, fun k e => ⟨(h4 k e).1, by have := (h4 k e).2.1; omega, (h4 k e).2.2⟩, fun k e => ⟨(h5 k e).1, by have := (h5 k e).2.1; omega, (h5 k e).2.2⟩, h6.step q (fun _ e => e.elim)⟩

/-- A younger block is the step's own. -/
theorem Pair.mine (h : Pair j w0 w b c d u) (i : Nat) (hi : w.heap.size ≤ i) : Pair i w0 w b c d u := by
  obtain ⟨S, T, h1, h2, h3, h4, h5, h6⟩ := h
  exact ⟨S, T, h1, h2, h3, fun k e => ⟨(h4 k e).1, (h4 k e).2.1, by have := (h4 k e).2.1; omega⟩, fun k e => ⟨(h5 k e).1, (h5 k e).2.1, by have := (h5 k e).2.1; omega⟩, h6⟩

/-- The disk has turned. -/
theorem Pair.left {S : Nat → Prop} {w' : World} {d' : DS} {T : Nat → Prop} (h2 : RefAt w c u T) (h3 : ∀ k, S k → T k → False) (hj : j < w.heap.size) (h4 : ∀ k, S k → w0.heap.size ≤ k ∧ k < w.heap.size ∧ k ≠ j) (h5 : ∀ k, T k → w0.heap.size ≤ k ∧ k < w.heap.size ∧ k ≠ j) (h6 : Since w0.heap.size w0 w)
    (h1 : DiskAt w' b d' (Grow S w w')) (K : Keeps S w w') : Pair j w0 w' b c d' u := by
  have hz := K.size
  have hw := h6.size
  refine ⟨_, T, h1, h2.kept K (fun k e q => h3 k q e), ?_, ?_, fun k e => ⟨(h5 k e).1, by have := (h5 k e).2.1; omega, (h5 k e).2.2⟩, h6.step K (fun k e => (h4 k e).1)⟩
  · rintro k (e | e) q
    · exact h3 k e q
    · have := (h5 k q).2.1; omega
  · rintro k (e | e)
    · exact ⟨(h4 k e).1, by have := (h4 k e).2.1; omega, (h4 k e).2.2⟩
    · exact ⟨by omega, e.2, by omega⟩
theorem Pair.right {T : Nat → Prop} {w' : World} {u' : DS} {S : Nat → Prop} (h1 : DiskAt w b d S) (h3 : ∀ k, S k → T k → False) (hj : j < w.heap.size) (h4 : ∀ k, S k → w0.heap.size ≤ k ∧ k < w.heap.size ∧ k ≠ j) (h5 : ∀ k, T k → w0.heap.size ≤ k ∧ k < w.heap.size ∧ k ≠ j) (h6 : Since w0.heap.size w0 w)
    (h2 : RefAt w' c u' (Grow T w w')) (K : Keeps T w w') : Pair j w0 w' b c d u' := by
  have hz := K.size
  have hw := h6.size
  refine ⟨S, _, h1.kept K (fun k e q => h3 k e q), h2, ?_, fun k e => ⟨(h4 k e).1, by have := (h4 k e).2.1; omega, (h4 k e).2.2⟩, ?_, h6.step K (fun k e => (h5 k e).1)⟩
  · rintro k q (e | e)
    · exact h3 k q e
    · have := (h4 k q).2.1; omega
  · rintro k (e | e)
    · exact ⟨(h5 k e).1, by have := (h5 k e).2.1; omega, (h5 k e).2.2⟩
    · exact ⟨by omega, e.2, by omega⟩

theorem grow_ref {W W' : World} {sv wv wv' : Value} {T : Nat → Prop} {u' : DS} (hS : ∀ k, rfoot c sv wv k → T k) (P : RefP W' c sv wv' u') (hw : wv'.ownBlock = wv.ownBlock ∨ ∀ k, wv'.ownBlock = some k → W.heap.size ≤ k) : RefAt W' c u' (Grow T W W') := by
  refine ⟨sv, wv', P, ?_⟩
  intro k hk
  have hl := P.lt k hk
  rcases hk with e | e | e
  · exact .inl (hS k (.inl e))
  · exact .inl (hS k (.inr (.inl e)))
  · rcases hw with q | q
    · exact .inl (hS k (.inr (.inr (q ▸ e))))
    · exact .inr ⟨q k e, hl⟩

/-! ### the disk's calls -/
theorem pair_read (hE : Errs ad w0) (h : Pair j w0 w b c d u) (i : Int) : Calls Tryd.prog 92 #[.pointer (some ⟨b, 0, none⟩), .int .i64 i] w fun e w' => e = .returned (.tuple #[.string ⟨(d.readE i).toArray⟩, errV ad (d.reach i)]) ∧ w = w' := by
  obtain ⟨S, T, h1, h2, h3, h4, h5, h6⟩ := h
  exact read_any ad (errs_since hE h6) h1 i
theorem pair_write (hE : Errs ad w0) (hj : j < w.heap.size) (h : Pair j w0 w b c d u) (hf : d.Few) (i : Int) (s : ByteArray) : Calls Tryd.prog 33 #[.pointer (some ⟨b, 0, none⟩), .int .i64 i, .string s] w fun e w' => e = .returned (errV ad (d.writeE i (strL s))) ∧ Pair j w0 w' b c (d.writeD i (strL s)) u ∧ Keeps (fun k => k ≠ j) w w' := by
  obtain ⟨S, T, h1, h2, h3, h4, h5, h6⟩ := h
  refine (write_any ad (errs_since hE h6) (OffErrs.mono (off_since hE) (fun k e => (h4 k e).1)) h1 hf i s).mono ?_
  rintro e w' ⟨he, hD, hK⟩
  exact ⟨he, Pair.left h2 h3 hj h4 h5 h6 hD hK, hK.mono (fun k _ e => (h4 k e).2.2)⟩
theorem pair_flush (hE : Errs ad w0) (hj : j < w.heap.size) (h : Pair j w0 w b c d u) (hf : d.Few) : Calls Tryd.prog 69 #[.pointer (some ⟨b, 0, none⟩)] w fun e w' => e = .returned (errV ad d.flushE) ∧ Pair j w0 w' b c d.flushD u ∧ Keeps (fun k => k ≠ j) w w' := by
  obtain ⟨S, T, h1, h2, h3, h4, h5, h6⟩ := h
  refine (flush_any ad (errs_since hE h6) (OffErrs.mono (off_since hE) (fun k e => (h4 k e).1)) h1 hf).mono ?_
  rintro e w' ⟨he, hD, hK⟩
  exact ⟨he, Pair.left h2 h3 hj h4 h5 h6 hD hK, hK.mono (fun k _ e => (h4 k e).2.2)⟩
theorem pair_arm (hj : j < w.heap.size) (h : Pair j w0 w b c d u) (k : Int) (hk : k ≤ 9223372036854775807) : Calls Tryd.prog 36 #[.pointer (some ⟨b, 0, none⟩), .int .i64 k] w fun e w' => e = .returned (.tuple #[]) ∧ Pair j w0 w' b c (d.armD k) u ∧ Keeps (fun k => k ≠ j) w w' := by
  obtain ⟨S, T, h1, h2, h3, h4, h5, h6⟩ := h
  refine (arm_any h1 k hk).mono ?_
  rintro e w' ⟨he, hD, hK⟩
  exact ⟨he, Pair.left h2 h3 hj h4 h5 h6 hD hK, hK.mono (fun k _ e => (h4 k e).2.2)⟩
/-- Crash with a fate whose list is younger than both, or older than the law. -/
theorem pair_crash {wS : World} (hj : j < w.heap.size) (h : Pair j w0 w b c d u) (q : Qt w wS) (hf : d.Few) (v : Value) (f : FT) (hv : Bools wS v f.kept) (hb : ∀ a n cc, v = .slice (some a) n cc → n ≠ 0 → w.heap.size ≤ a.block) : Calls Tryd.prog 38 #[.pointer (some ⟨b, 0, none⟩), fateV v f] wS fun e w' => e = .returned (.tuple #[]) ∧ Pair j w0 w' b c (d.crashD f) u ∧ Keeps (fun k => k ≠ j) wS w' := by
  obtain ⟨S, T, h1, h2, h3, h4, h5, h6⟩ := h
  have hz := q.size
  refine (crash_any wS b d _ (h1.qt q) hf v f hv (fun a n cc e n0 m => by have := hb a n cc e n0; have := (h4 _ m).2.1; omega)).mono ?_
  rintro e w' ⟨he, hD, hK⟩
  exact ⟨he, Pair.left (h2.qt q) h3 (by omega) (fun k e => ⟨(h4 k e).1, by have := (h4 k e).2.1; omega, (h4 k e).2.2⟩) (fun k e => ⟨(h5 k e).1, by have := (h5 k e).2.1; omega, (h5 k e).2.2⟩) (h6.step q (fun _ e => e.elim)) hD hK, hK.mono (fun k _ e => (h4 k e).2.2)⟩
theorem pair_image (h : Pair j w0 w b c d u) : Calls Tryd.prog 13 #[.pointer (some ⟨b, 0, none⟩)] w fun e w' => e = .returned (.string ⟨d.image.toArray⟩) ∧ Qt w w' := by
  obtain ⟨S, T, h1, h2, h3, h4, h5, h6⟩ := h
  exact image_any w b d _ h1

/-! ### the reference's calls -/
theorem pairR_read (h : Pair j w0 w b c d u) (hf : u.Few) (i : Int) : Calls Tryd.prog 98 #[.pointer (some ⟨c, 0, none⟩), .int .i64 i] w fun e w' => e = .returned (.tuple #[.string ⟨(u.readE i).toArray⟩, .int .i64 (u.reach i)]) ∧ Qt w w' := by
  obtain ⟨S, T, h1, ⟨sv, wv, P, hT⟩, h3, h4, h5, h6⟩ := h
  exact ref_read P hf i
theorem pairR_image (h : Pair j w0 w b c d u) : Calls Tryd.prog 14 #[.pointer (some ⟨c, 0, none⟩)] w fun e w' => e = .returned (.string ⟨u.image.toArray⟩) ∧ Qt w w' := by
  obtain ⟨S, T, h1, ⟨sv, wv, P, hT⟩, h3, h4, h5, h6⟩ := h
  exact ref_image P
theorem pairR_write (hj : j < w.heap.size) (h : Pair j w0 w b c d u) (hf : u.Few) (i : Int) (s : ByteArray) : Calls Tryd.prog 40 #[.pointer (some ⟨c, 0, none⟩), .int .i64 i, .string s] w fun e w' => e = .returned (.int .i64 (u.writeE i (strL s))) ∧ Pair j w0 w' b c d (u.writeD i (strL s)) ∧ Keeps (fun k => k ≠ j) w w' := by
  obtain ⟨S, T, h1, ⟨sv, wv, P, hT⟩, h3, h4, h5, h6⟩ := h
  refine (ref_write P hf i s).mono ?_
  rintro e w' ⟨he, wv', P', K, hw⟩
  exact ⟨he, Pair.right h1 h3 hj h4 h5 h6 (grow_ref hT P' hw) (K.mono (fun k _ e => hT k e)), K.mono (fun k _ e => (h5 k (hT k e)).2.2)⟩
theorem pairR_flush (hj : j < w.heap.size) (h : Pair j w0 w b c d u) (hf : u.Few) : Calls Tryd.prog 70 #[.pointer (some ⟨c, 0, none⟩)] w fun e w' => e = .returned (.int .i64 u.flushE) ∧ Pair j w0 w' b c d u.flushD ∧ Keeps (fun k => k ≠ j) w w' := by
  obtain ⟨S, T, h1, ⟨sv, wv, P, hT⟩, h3, h4, h5, h6⟩ := h
  refine (ref_flush P hf).mono ?_
  rintro e w' ⟨he, wv', P', K, hw⟩
  refine ⟨he, Pair.right h1 h3 hj h4 h5 h6 (grow_ref hT P' ?_) (K.mono (fun k _ e => hT k e)), K.mono (fun k _ e => (h5 k (hT k e)).2.2)⟩
  rcases hw with q | q
  · exact .inl (by rw [q])
  · exact .inr (fun k e => by rw [q] at e; cases e)
theorem pairR_arm (hj : j < w.heap.size) (h : Pair j w0 w b c d u) (k : Int) (hk : k ≤ 9223372036854775807) : Calls Tryd.prog 37 #[.pointer (some ⟨c, 0, none⟩), .int .i64 k] w fun e w' => e = .returned (.tuple #[]) ∧ Pair j w0 w' b c d (u.armD k) ∧ Keeps (fun k => k ≠ j) w w' := by
  obtain ⟨S, T, h1, ⟨sv, wv, P, hT⟩, h3, h4, h5, h6⟩ := h
  refine (ref_arm P k hk).mono ?_
  rintro e w' ⟨he, P', K⟩
  exact ⟨he, Pair.right h1 h3 hj h4 h5 h6 (grow_ref hT P' (.inl rfl)) (K.mono (fun k _ e => by subst e; exact hT _ (.inl rfl))), K.mono (fun k _ e => (h5 k (hT k (.inl e))).2.2)⟩
theorem pairR_crash (hj : j < w.heap.size) (h : Pair j w0 w b c d u) (hf : u.Few) (v : Value) (f : FT) (hv : Bools w v f.kept) (hb : ∀ a n cc, v = .slice (some a) n cc → n ≠ 0 → a.block < w0.heap.size) : Calls Tryd.prog 39 #[.pointer (some ⟨c, 0, none⟩), fateV v f] w fun e w' => e = .returned (.tuple #[]) ∧ Pair j w0 w' b c d (u.crashD f) ∧ Keeps (fun k => k ≠ j) w w' := by
  obtain ⟨S, T, h1, ⟨sv, wv, P, hT⟩, h3, h4, h5, h6⟩ := h
  refine (ref_crash P hf v f hv (fun a n cc e n0 m => by have := hb a n cc e n0; have := (h5 _ (hT _ m)).1; omega)).mono ?_
  rintro e w' ⟨he, P', K⟩
  exact ⟨he, Pair.right h1 h3 hj h4 h5 h6 (grow_ref hT P' (.inr (fun k e => by cases e))) (K.mono (fun k _ e => hT k e)), K.mono (fun k _ e => (h5 k (hT k e)).2.2)⟩
end
end Go.Proofs.YtggogaaooacooaaDoor
