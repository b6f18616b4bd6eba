/-
  Both disks side by side, apart from several blocks: crashes.
  Both disks side by side, apart from several blocks: what turns those blocks; writes, flushes, armed counts.
-/
import Derived.Test.YtggogaaooacooaaDoorP20
namespace Go.Proofs.YtggogaaooacooaaDoor
open Go.RowKit Go.WideShapes
set_option maxRecDepth 100000

def PairJ (J : Nat → Prop) (w0 W : World) (b c : Nat) (d u : DS) : Prop :=
  ∃ S T : Nat → Prop, DiskAt W b d S ∧ RefAt W c u T ∧ (∀ k, S k → T k → False) ∧ (∀ k, S k → w0.heap.size ≤ k ∧ k < W.heap.size ∧ ¬ J k) ∧ (∀ k, T k → w0.heap.size ≤ k ∧ k < W.heap.size ∧ ¬ J k) ∧ Since w0.heap.size w0 W
section
variable {w0 w : World} {J : Nat → Prop} {b c : Nat} {d u : DS}

theorem PairJ.of {j : Nat} {W : World} (h : Pair j w0 w b c d u) (q : Qt w W) (hJ : ∀ k, J k → k = j ∨ w.heap.size ≤ k) : PairJ J w0 W b c d u := by
  obtain ⟨S, T, h1, h2, h3, h4, h5, h6⟩ := h
  have hz := q.size
  refine ⟨S, T, h1.qt q, h2.qt q, h3, fun k e => ⟨(h4 k e).1, by have := (h4 k e).2.1; omega, fun m => ?_⟩, fun k e => ⟨(h5 k e).1, by have := (h5 k e).2.1; omega, fun m => ?_⟩, h6.step q (fun _ e => e.elim)⟩
  · rcases hJ k m with r | r
    · exact (h4 k e).2.2 r
    · have := (h4 k e).2.1; omega
  · rcases hJ k m with r | r
    · exact (h5 k e).2.2 r
    · have := (h5 k e).2.1; omega
theorem PairJ.pair {j : Nat} (h : PairJ J w0 w b c d u) (hj : J j) : Pair j w0 w b c d u := by
  obtain ⟨S, T, h1, h2, h3, h4, h5, h6⟩ := h
  exact ⟨S, T, h1, h2, h3, fun k e => ⟨(h4 k e).1, (h4 k e).2.1, fun r => (h4 k e).2.2 (r ▸ hj)⟩, fun k e => ⟨(h5 k e).1, (h5 k e).2.1, fun r => (h5 k e).2.2 (r ▸ hj)⟩, h6⟩
theorem PairJ.since (h : PairJ J w0 w b c d u) : Since w0.heap.size w0 w := by obtain ⟨S, T, h1, h2, h3, h4, h5, h6⟩ := h; exact h6

theorem pairJ_crash (hJ : ∀ k, J k → k < w.heap.size) (h : PairJ J w0 w b c d u) (hf : d.Few) (v : Value) (f : FT) (hv : Bools w v f.kept) (hb : ∀ a n cc, v = .slice (some a) n cc → n ≠ 0 → J a.block ∨ a.block < w0.heap.size) : Calls Tryd.prog 38 #[.pointer (some ⟨b, 0, none⟩), fateV v f] w fun e w' => e = .returned (.tuple #[]) ∧ PairJ J w0 w' b c (d.crashD f) u ∧ Keeps (fun k => w0.heap.size ≤ k ∧ ¬ J k) w w' := by
  obtain ⟨S, T, h1, h2, h3, h4, h5, h6⟩ := h
  refine (crash_any w b d _ h1 hf v f hv (fun a n cc e n0 m => by
    rcases hb a n cc e n0 with r | r
    · exact (h4 _ m).2.2 r
    · have := (h4 _ m).1; omega)).mono ?_
  rintro e w' ⟨he, hD, K⟩
  have hz := K.size
  have hw := h6.size
  refine ⟨he, ⟨_, T, hD, h2.kept K (fun k e q => h3 k q e), ?_, ?_, fun k e => ⟨(h5 k e).1, by have := (h5 k e).2.1; omega, (h5 k e).2.2⟩, h6.step K (fun k e => (h4 k e).1)⟩, K.mono (fun k _ e => ⟨(h4 k e).1, (h4 k e).2.2⟩)⟩
  · rintro k (e | e) q
    · exact h3 k e q
    · have := (h5 k q).2.1; omega
  · rintro k (e | e)
    · exact ⟨(h4 k e).1, by have := (h4 k e).2.1; omega, (h4 k e).2.2⟩
    · exact ⟨by omega, e.2, fun m => by have := hJ k m; omega⟩

theorem pairJR_crash (hJ : ∀ k, J k → k < w.heap.size) (h : PairJ J w0 w b c d u) (hf : u.Few) (v : Value) (f : FT) (hv : Bools w v f.kept) (hb : ∀ a n cc, v = .slice (some a) n cc → n ≠ 0 → J a.block ∨ a.block < w0.heap.size) : Calls Tryd.prog 39 #[.pointer (some ⟨c, 0, none⟩), fateV v f] w fun e w' => e = .returned (.tuple #[]) ∧ PairJ J w0 w' b c d (u.crashD f) ∧ Keeps (fun k => w0.heap.size ≤ k ∧ ¬ J k) w w' := by
  obtain ⟨S, T, h1, ⟨sv, wv, P, hT⟩, h3, h4, h5, h6⟩ := h
  refine (ref_crash P hf v f hv (fun a n cc e n0 m => by
    rcases hb a n cc e n0 with r | r
    · exact (h5 _ (hT _ m)).2.2 r
    · have := (h5 _ (hT _ m)).1; omega)).mono ?_
  rintro e w' ⟨he, P', K0⟩
  have K : Keeps T w w' := K0.mono (fun k _ e => hT k e)
  have hR : RefAt w' c (u.crashD f) (Grow T w w') := grow_ref hT P' (.inr (fun k e => by cases e))
  have hz := K.size
  have hw := h6.size
  refine ⟨he, ⟨S, _, h1.kept K (fun k e q => h3 k e q), hR, ?_, fun k e => ⟨(h4 k e).1, by have := (h4 k e).2.1; omega, (h4 k e).2.2⟩, ?_, h6.step K (fun k e => (h5 k e).1)⟩, K.mono (fun k _ e => ⟨(h5 k e).1, (h5 k e).2.2⟩)⟩
  · rintro k q (e | e)
    · exact h3 k q e
    · have := (h4 k q).2.1; omega
  · rintro k (e | e)
    · exact ⟨(h5 k e).1, by have := (h5 k e).2.1; omega, (h5 k e).2.2⟩
    · exact ⟨by omega, e.2, fun m => by have := hJ k m; omega⟩
end
end Go.Proofs.YtggogaaooacooaaDoor
namespace Go.Proofs.YtggogaaooacooaaDoor
open Go.RowKit Go.WideShapes
set_option maxRecDepth 100000

section
variable {ad : Nat → Addr} {w0 w : World} {J : Nat → Prop} {b c : Nat} {d u : DS}
/-- What a call over one of the disks may turn. -/
abbrev OutJ (w0 : World) (J : Nat → Prop) (k : Nat) : Prop := w0.heap.size ≤ k ∧ ¬ J k

theorem PairJ.qt {w' : World} (h : PairJ J w0 w b c d u) (q : Qt w w') : PairJ J w0 w' b c d u := by
  obtain ⟨S, T, h1, h2, h3, h4, h5, h6⟩ := h
  have hz := q.size
  exact ⟨S, T, h1.qt q, h2.qt q, h3, fun k e => ⟨(h4 k e).1, by have := (h4 k e).2.1; omega, (h4 k e).2.2⟩, fun k e => ⟨(h5 k e).1, by have := (h5 k e).2.1; omega, (h5 k e).2.2⟩, h6.step q (fun _ e => e.elim)⟩
/-- Blocks of J alone have turned. -/
theorem PairJ.turn {w' : World} (h : PairJ J w0 w b c d u) (hJ : ∀ k, J k → w0.heap.size ≤ k) (K : Keeps J w w') : PairJ J w0 w' b c d u := by
  obtain ⟨S, T, h1, h2, h3, h4, h5, h6⟩ := h
  have hz := K.size
  exact ⟨S, T, h1.kept K (fun k e => (h4 k e).2.2), h2.kept K (fun k e => (h5 k e).2.2), h3, fun k e => ⟨(h4 k e).1, by have := (h4 k e).2.1; omega, (h4 k e).2.2⟩, fun k e => ⟨(h5 k e).1, by have := (h5 k e).2.1; omega, (h5 k e).2.2⟩, h6.step K hJ⟩
/-- More blocks are the caller's own: younger ones. -/
theorem PairJ.more {I : Nat → Prop} (h : PairJ J w0 w b c d u) (hI : ∀ k, I k → J k ∨ w.heap.size ≤ k) : PairJ I w0 w b c d u := by
  obtain ⟨S, T, h1, h2, h3, h4, h5, h6⟩ := h
  refine ⟨S, T, h1, h2, h3, fun k e => ⟨(h4 k e).1, (h4 k e).2.1, fun m => ?_⟩, fun k e => ⟨(h5 k e).1, (h5 k e).2.1, fun m => ?_⟩, h6⟩
  · rcases hI k m with r | r
    · exact (h4 k e).2.2 r
    · have := (h4 k e).2.1; omega
  · rcases hI k m with r | r
    · exact (h5 k e).2.2 r
    · have := (h5 k e).2.1; omega
theorem PairJ.left {S T : Nat → Prop} {w' : World} {d' : DS} (h2 : RefAt w c u T) (h3 : ∀ k, S k → T k → False) (hJ : ∀ k, J k → k < w.heap.size) (h4 : ∀ k, S k → w0.heap.size ≤ k ∧ k < w.heap.size ∧ ¬ J k) (h5 : ∀ k, T k → w0.heap.size ≤ k ∧ k < w.heap.size ∧ ¬ J k) (h6 : Since w0.heap.size w0 w)
    (hD : DiskAt w' b d' (Grow S w w')) (K : Keeps S w w') : PairJ J w0 w' b c d' u ∧ Keeps (OutJ w0 J) w w' := by
  have hz := K.size
  have hw := h6.size
  refine ⟨⟨_, T, hD, h2.kept K (fun k e q => h3 k q e), ?_, ?_, fun k e => ⟨(h5 k e).1, by have := (h5 k e).2.1; omega, (h5 k e).2.2⟩, h6.step K (fun k e => (h4 k e).1)⟩, K.mono (fun k _ e => ⟨(h4 k e).1, (h4 k e).2.2⟩)⟩
  · rintro k (e | e) q
    · exact h3 k e q
    · have := (h5 k q).2.1; omega
  · rintro k (e | e)
    · exact ⟨(h4 k e).1, by have := (h4 k e).2.1; omega, (h4 k e).2.2⟩
    · exact ⟨by omega, e.2, fun m => by have := hJ k m; omega⟩
theorem PairJ.right {S T : Nat → Prop} {w' : World} {u' : DS} (h1 : DiskAt w b d S) (h3 : ∀ k, S k → T k → False) (hJ : ∀ k, J k → k < w.heap.size) (h4 : ∀ k, S k → w0.heap.size ≤ k ∧ k < w.heap.size ∧ ¬ J k) (h5 : ∀ k, T k → w0.heap.size ≤ k ∧ k < w.heap.size ∧ ¬ J k) (h6 : Since w0.heap.size w0 w)
    (hR : RefAt w' c u' (Grow T w w')) (K : Keeps T w w') : PairJ J w0 w' b c d u' ∧ Keeps (OutJ w0 J) w w' := by
  have hz := K.size
  have hw := h6.size
  refine ⟨⟨S, _, h1.kept K (fun k e q => h3 k e q), hR, ?_, fun k e => ⟨(h4 k e).1, by have := (h4 k e).2.1; omega, (h4 k e).2.2⟩, ?_, h6.step K (fun k e => (h5 k e).1)⟩, K.mono (fun k _ e => ⟨(h5 k e).1, (h5 k e).2.2⟩)⟩
  · rintro k q (e | e)
    · exact h3 k q e
    · have := (h4 k q).2.1; omega
  · rintro k (e | e)
    · exact ⟨(h5 k e).1, by have := (h5 k e).2.1; omega, (h5 k e).2.2⟩
    · exact ⟨by omega, e.2, fun m => by have := hJ k m; omega⟩

theorem pairJ_write (hE : Errs ad w0) (hJ : ∀ k, J k → k < w.heap.size) (h : PairJ J w0 w b c d u) (hf : d.Few) (i : Int) (s : ByteArray) : Calls Tryd.prog 33 #[.pointer (some ⟨b, 0, none⟩), .int .i64 i, .string s] w fun e w' => e = .returned (errV ad (d.writeE i (strL s))) ∧ PairJ J w0 w' b c (d.writeD i (strL s)) u ∧ Keeps (OutJ w0 J) w w' := by
  obtain ⟨S, T, h1, h2, h3, h4, h5, h6⟩ := h
  refine (write_any ad (errs_since hE h6) (OffErrs.mono (off_since hE) (fun k e => (h4 k e).1)) h1 hf i s).mono ?_
  rintro e w' ⟨he, hD, hK⟩
  exact ⟨he, PairJ.left h2 h3 hJ h4 h5 h6 hD hK⟩
theorem pairJ_flush (hE : Errs ad w0) (hJ : ∀ k, J k → k < w.heap.size) (h : PairJ J w0 w b c d u) (hf : d.Few) : Calls Tryd.prog 69 #[.pointer (some ⟨b, 0, none⟩)] w fun e w' => e = .returned (errV ad d.flushE) ∧ PairJ J w0 w' b c d.flushD u ∧ Keeps (OutJ w0 J) w w' := by
  obtain ⟨S, T, h1, h2, h3, h4, h5, h6⟩ := h
  refine (flush_any ad (errs_since hE h6) (OffErrs.mono (off_since hE) (fun k e => (h4 k e).1)) h1 hf).mono ?_
  rintro e w' ⟨he, hD, hK⟩
  exact ⟨he, PairJ.left h2 h3 hJ h4 h5 h6 hD hK⟩
theorem pairJ_arm (hJ : ∀ k, J k → k < w.heap.size) (h : PairJ J w0 w b c d u) (k : Int) (hk : k ≤ 9223372036854775807) : Calls Tryd.prog 36 #[.pointer (some ⟨b, 0, none⟩), .int .i64 k] w fun e w' => e = .returned (.tuple #[]) ∧ PairJ J w0 w' b c (d.armD k) u ∧ Keeps (OutJ w0 J) w w' := by
  obtain ⟨S, T, h1, h2, h3, h4, h5, h6⟩ := h
  refine (arm_any h1 k hk).mono ?_
  rintro e w' ⟨he, hD, hK⟩
  exact ⟨he, PairJ.left h2 h3 hJ h4 h5 h6 hD hK⟩
theorem pairJR_read (h : PairJ J w0 w b c d u) (hf : u.Few) (i : Int) : Calls Tryd.prog 98 #[.pointer (some ⟨c, 0, none⟩), .int .i64 i] w fun e w' => e = .returned (.tuple #[.string ⟨(u.readE i).toArray⟩, .int .i64 (u.reach i)]) ∧ Qt w w' := by
  obtain ⟨S, T, h1, ⟨sv, wv, P, hT⟩, h3, h4, h5, h6⟩ := h
  exact ref_read P hf i
theorem pairJR_write (hJ : ∀ k, J k → k < w.heap.size) (h : PairJ J w0 w b c d u) (hf : u.Few) (i : Int) (s : ByteArray) : Calls Tryd.prog 40 #[.pointer (some ⟨c, 0, none⟩), .int .i64 i, .string s] w fun e w' => e = .returned (.int .i64 (u.writeE i (strL s))) ∧ PairJ J w0 w' b c d (u.writeD i (strL s)) ∧ Keeps (OutJ w0 J) w w' := by
  obtain ⟨S, T, h1, ⟨sv, wv, P, hT⟩, h3, h4, h5, h6⟩ := h
  refine (ref_write P hf i s).mono ?_
  rintro e w' ⟨he, wv', P', K, hw⟩
  exact ⟨he, PairJ.right h1 h3 hJ h4 h5 h6 (grow_ref hT P' hw) (K.mono (fun k _ e => hT k e))⟩
theorem pairJR_flush (hJ : ∀ k, J k → k < w.heap.size) (h : PairJ J w0 w b c d u) (hf : u.Few) : Calls Tryd.prog 70 #[.pointer (some ⟨c, 0, none⟩)] w fun e w' => e = .returned (.int .i64 u.flushE) ∧ PairJ J w0 w' b c d u.flushD ∧ Keeps (OutJ w0 J) w w' := by
  obtain ⟨S, T, h1, ⟨sv, wv, P, hT⟩, h3, h4, h5, h6⟩ := h
  refine (ref_flush P hf).mono ?_
  rintro e w' ⟨he, wv', P', K, hw⟩
  refine ⟨he, PairJ.right h1 h3 hJ h4 h5 h6 (grow_ref hT P' ?_) (K.mono (fun k _ e => hT k e))⟩
  rcases hw with q | q
  · exact .inl (by rw [q])
  · exact .inr (fun k e => by rw [q] at e; cases e)
theorem pairJR_arm (hJ : ∀ k, J k → k < w.heap.size) (h : PairJ J w0 w b c d u) (k : Int) (hk : k ≤ 9223372036854775807) : Calls Tryd.prog 37 #[.pointer (some ⟨c, 0, none⟩), .int .i64 k] w fun e w' => e = .returned (.tuple #[]) ∧ PairJ J w0 w' b c d (u.armD k) ∧ Keeps (OutJ w0 J) w w' := by
  obtain ⟨S, T, h1, ⟨sv, wv, P, hT⟩, h3, h4, h5, h6⟩ := h
  refine (ref_arm P k hk).mono ?_
  rintro e w' ⟨he, P', K⟩
  exact ⟨he, PairJ.right h1 h3 hJ h4 h5 h6 (grow_ref hT P' (.inl rfl)) (K.mono (fun k _ e => by subst e; exact hT _ (.inl rfl)))⟩
/-- What the reference's disk reads as. -/
theorem PairJ.ref (h : PairJ J w0 w b c d u) : w.cell? ⟨c, 2, none⟩ = some (.bool u.off) ∧ w.cell? ⟨c, 7, none⟩ = some (.int .i64 u.cr) ∧ u.Ok := by
  obtain ⟨S, T, h1, ⟨sv, wv, P, hT⟩, h3, h4, h5, h6⟩ := h
  exact ⟨P.cell 2 _ rfl, P.cell 7 _ rfl, P.ok⟩
end
end Go.Proofs.YtggogaaooacooaaDoor
