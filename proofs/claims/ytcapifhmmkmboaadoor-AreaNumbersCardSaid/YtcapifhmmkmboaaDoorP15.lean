/-
  A disk and the document's own, side by side.
-/
import Derived.Test.YtcapifhmmkmboaaDoorP13
import Derived.Test.YtcapifhmmkmboaaDoorP14
namespace Go.Proofs.YtcapifhmmkmboaaDoor
open Go.RowKit Go.WideShapes
set_option maxRecDepth 100000

/-- Both in memory, apart, and not in block j (the step's own Op); nothing older than w0 has turned. -/
def Pair (j : Nat) (w0 W : World) (b c : Nat) (d u : DS) : Prop :=
  ∃ S T : Nat → Prop, DiskAt W b d S ∧ RefAt W c u T ∧ (∀ k, S k → T k → False) ∧ (∀ k, S k → w0.heap.size ≤ k ∧ k < W.heap.size ∧ k ≠ j) ∧ (∀ k, T k → w0.heap.size ≤ k ∧ k < W.heap.size ∧ k ≠ j) ∧ Since w0.heap.size w0 W

section
variable {ad : Nat → Addr} {w0 w : World} {j b c : Nat} {d u : DS}

theorem Pair.since (h : Pair j w0 w b c d u) : Since w0.heap.size w0 w := by obtain ⟨S, T, h1, h2, h3, h4, h5, h6⟩ := h; exact h6
theorem Pair.ok (h : Pair j w0 w b c d u) : d.Ok := by obtain ⟨S, T, h1, h2, h3, h4, h5, h6⟩ := h; exact h1.ok
theorem Pair.qt {w' : World} (h : Pair j w0 w b c d u) (q : Qt w w') : Pair j w0 w' b c d u := by
  obtain ⟨S, T, h1, h2, h3, h4, h5, h6⟩ := h
  have hz := q.size
  exact ⟨S, T, h1.qt q, h2.qt q, h3, fun k e => ⟨(h4 k e).1, by have := (h4 k e).2.1; omega, (h4 k e).2.2⟩, fun k e => ⟨(h5 k e).1, by have := (h5 k e).2.1; omega, (h5 k e).2.2⟩, h6.step q (fun _ e => e.elim)⟩

/-- A younger block is the step's own. -/
theorem Pair.mine (h : Pair j w0 w b c d u) (i : Nat) (hi : w.heap.size ≤ i) : Pair i w0 w b c d u := by
  obtain ⟨S, T, h1, h2, h3, h4, h5, h6⟩ := h
  exact ⟨S, T, h1, h2, h3, fun k e => ⟨(h4 k e).1, (h4 k e).2.1, by have := (h4 k e).2.1; omega⟩, fun k e => ⟨(h5 k e).1, (h5 k e).2.1, by have := (h5 k e).2.1; omega⟩, h6⟩

/-- The disk has turned. -/
theorem Pair.left {S : Nat → Prop} {w' : World} {d' : DS} {T : Nat → Prop} (h2 : RefAt w c u T) (h3 : ∀ k, S k → T k → False) (hj : j < w.heap.size) (h4 : ∀ k, S k → w0.heap.size ≤ k ∧ k < w.heap.size ∧ k ≠ j) (h5 : ∀ k, T k → w0.heap.size ≤ k ∧ k < w.heap.size ∧ k ≠ j) (h6 : Since w0.heap.size w0 w)
    (h1 : DiskAt w' b d' (Grow S w w')) (K : Keeps S w w') : Pair j w0 w' b c d' u := by
  have hz := K.size
  have hw := h6.size
  refine ⟨_, T, h1, h2.kept K (fun k e q => h3 k q e), ?_, ?_, fun k e => ⟨(h5 k e).1, by have := (h5 k e).2.1; omega, (h5 k e).2.2⟩, h6.step K (fun k e => (h4 k e).1)⟩
  · rintro k (e | e) q
    · exact h3 k e q
    · have := (h5 k q).2.1; omega
  · rintro k (e | e)
    · exact ⟨(h4 k e).1, by have := (h4 k e).2.1; omega, (h4 k e).2.2⟩
    · exact ⟨by omega, e.2, by omega⟩
theorem Pair.right {T : Nat → Prop} {w' : World} {u' : DS} {S : Nat → Prop} (h1 : DiskAt w b d S) (h3 : ∀ k, S k → T k → False) (hj : j < w.heap.size) (h4 : ∀ k, S k → w0.heap.size ≤ k ∧ k < w.heap.size ∧ k ≠ j) (h5 : ∀ k, T k → w0.heap.size ≤ k ∧ k < w.heap.size ∧ k ≠ j) (h6 : Since w0.heap.size w0 w)
    (h2 : RefAt w' c u' (Grow T w w')) (K : Keeps T w w') : Pair j w0 w' b c d u' := by
  have hz := K.size
  have hw := h6.size
  refine ⟨S, _, h1.kept K (fun k e q => h3 k e q), h2, ?_, fun k e => ⟨(h4 k e).1, by have := (h4 k e).2.1; omega, (h4 k e).2.2⟩, ?_, h6.step K (fun k e => (h5 k e).1)⟩
  · rintro k q (e | e)
    · exact h3 k q e
    · have := (h4 k q).2.1; omega
  · rintro k (e | e)
    · exact ⟨(h5 k e).1, by have := (h5 k e).2.1; omega, (h5 k e).2.2⟩
    · exact ⟨by omega, e.2, by omega⟩

theorem grow_ref {W W' : World} {sv wv wv' : Value} {T : Nat → Prop} {u' : DS} (hS : ∀ k, rfoot c sv wv k → T k) (P : RefP W' c sv wv' u') (hw : wv'.ownBlock = wv.ownBlock ∨ ∀ k, wv'.ownBlock = some k → W.heap.size ≤ k) : RefAt W' c u' (Grow T W W') := by
  refine ⟨sv, wv', P, ?_⟩
  intro k hk
  have hl := P.lt k hk
  rcases hk with e | e | e
  · exact .inl (hS k (.inl e))
  · exact .inl (hS k (.inr (.inl e)))
  · rcases hw with q | q
    · exact .inl (hS k (.inr (.inr (q ▸ e))))
    · exact .inr ⟨q k e, hl⟩

/-! ### the disk's calls -/
theorem pair_read (hE : Errs ad w0) (h : Pair j w0 w b c d u) (i : Int) : Calls Tryd.prog 43 #[.pointer (some ⟨b, 0, none⟩), .int .i64 i] w fun e w' => e = .returned (.tuple #[.string ⟨(d.readE i).toArray⟩, errV ad (d.reach i)]) ∧ w = w' := by
  obtain ⟨S, T, h1, h2, h3, h4, h5, h6⟩ := h
  exact read_any ad (errs_since hE h6) h1 i
theorem pair_write (hE : Errs ad w0) (hj : j < w.heap.size) (h : Pair j w0 w b c d u) (hf : d.Few) (i : Int) (s : ByteArray) : Calls Tryd.prog 25 #[.pointer (some ⟨b, 0, none⟩), .int .i64 i, .string s] w fun e w' => e = .returned (errV ad (d.writeE i (strL s))) ∧ Pair j w0 w' b c (d.writeD i (strL s)) u ∧ Keeps (fun k => k ≠ j) w w' := by
  obtain ⟨S, T, h1, h2, h3, h4, h5, h6⟩ := h
  refine (write_any ad (errs_since hE h6) (OffErrs.mono (off_since hE) (fun k e => (h4 k e).1)) h1 hf i s).mono ?_
  rintro e w' ⟨he, hD, hK⟩
  exact ⟨he, Pair.left h2 h3 hj h4 h5 h6 hD hK, hK.mono (fun k _ e => (h4 k e).2.2)⟩
theorem pair_flush (hE : Errs ad w0) (hj : j < w.heap.size) (h : Pair j w0 w b c d u) (hf : d.Few) : Calls Tryd.prog 26 #[.pointer (some ⟨b, 0, none⟩)] w fun e w' => e = .returned (errV ad d.flushE) ∧ Pair j w0 w' b c d.flushD u ∧ Keeps (fun k => k ≠ j) w w' := by
  obtain ⟨S, T, h1, h2, h3, h4, h5, h6⟩ := h
  refine (flush_any ad (errs_since hE h6) (OffErrs.mono (off_since hE) (fun k e => (h4 k e).1)) h1 hf).mono ?_
  rintro e w' ⟨he, hD, hK⟩
  exact ⟨he, Pair.left h2 h3 hj h4 h5 h6 hD hK, hK.mono (fun k _ e => (h4 k e).2.2)⟩
theorem pair_arm (hj : j < w.heap.size) (h : Pair j w0 w b c d u) (k : Int) (hk : k ≤ 9223372036854775807) : Calls Tryd.prog 20 #[.pointer (some ⟨b, 0, none⟩), .int .i64 k] w fun e w' => e = .returned (.tuple #[]) ∧ Pair j w0 w' b c (d.armD k) u ∧ Keeps (fun k => k ≠ j) w w' := by
  obtain ⟨S, T, h1, h2, h3, h4, h5, h6⟩ := h
  refine (arm_any h1 k hk).mono ?_
  rintro e w' ⟨he, hD, hK⟩
  exact ⟨he, Pair.left h2 h3 hj h4 h5 h6 hD hK, hK.mono (fun k _ e => (h4 k e).2.2)⟩
/-- Crash with a fate whose list is younger than both, or older than the law. -/
theorem pair_crash {wS : World} (hj : j < w.heap.size) (h : Pair j w0 w b c d u) (q : Qt w wS) (hf : d.Few) (v : Value) (f : FT) (hv : Bools wS v f.kept) (hb : ∀ a n cc, v = .slice (some a) n cc → n ≠ 0 → w.heap.size ≤ a.block) : Calls Tryd.prog 23 #[.pointer (some ⟨b, 0, none⟩), fateV v f] wS fun e w' => e = .returned (.tuple #[]) ∧ Pair j w0 w' b c (d.crashD f) u ∧ Keeps (fun k => k ≠ j) wS w' := by
  obtain ⟨S, T, h1, h2, h3, h4, h5, h6⟩ := h
  have hz := q.size
  refine (crash_any wS b d _ (h1.qt q) hf v f hv (fun a n cc e n0 m => by have := hb a n cc e n0; have := (h4 _ m).2.1; omega)).mono ?_
  rintro e w' ⟨he, hD, hK⟩
  exact ⟨he, Pair.left (h2.qt q) h3 (by omega) (fun k e => ⟨(h4 k e).1, by have := (h4 k e).2.1; omega, (h4 k e).2.2⟩) (fun k e => ⟨(h5 k e).1, by have := (h5 k e).2.1; omega, (h5 k e).2.2⟩) (h6.step q (fun _ e => e.elim)) hD hK, hK.mono (fun k _ e => (h4 k e).2.2)⟩
theorem pair_image (h : Pair j w0 w b c d u) : Calls Tryd.prog 17 #[.pointer (some ⟨b, 0, none⟩)] w fun e w' => e = .returned (.string ⟨d.image.toArray⟩) ∧ Qt w w' := by
  obtain ⟨S, T, h1, h2, h3, h4, h5, h6⟩ := h
  exact image_any w b d _ h1

/-! ### the reference's calls -/
theorem pairR_read (h : Pair j w0 w b c d u) (hf : u.Few) (i : Int) : Calls Tryd.prog 32 #[.pointer (some ⟨c, 0, none⟩), .int .i64 i] w fun e w' => e = .returned (.tuple #[.string ⟨(u.readE i).toArray⟩, .int .i64 (u.reach i)]) ∧ Qt w w' := by
  obtain ⟨S, T, h1, ⟨sv, wv, P, hT⟩, h3, h4, h5, h6⟩ := h
  exact ref_read P hf i
theorem pairR_image (h : Pair j w0 w b c d u) : Calls Tryd.prog 18 #[.pointer (some ⟨c, 0, none⟩)] w fun e w' => e = .returned (.string ⟨u.image.toArray⟩) ∧ Qt w w' := by
  obtain ⟨S, T, h1, ⟨sv, wv, P, hT⟩, h3, h4, h5, h6⟩ := h
  exact ref_image P
theorem pairR_size (h : Pair j w0 w b c d u) : Calls Tryd.prog 59 #[.pointer (some ⟨c, 0, none⟩)] w fun e w' => e = .returned (.int .i64 u.dur.length) ∧ w = w' := by
  obtain ⟨S, T, h1, ⟨sv, wv, P, hT⟩, h3, h4, h5, h6⟩ := h
  exact ref_size P
theorem pairR_write (hj : j < w.heap.size) (h : Pair j w0 w b c d u) (hf : u.Few) (i : Int) (s : ByteArray) : Calls Tryd.prog 33 #[.pointer (some ⟨c, 0, none⟩), .int .i64 i, .string s] w fun e w' => e = .returned (.int .i64 (u.writeE i (strL s))) ∧ Pair j w0 w' b c d (u.writeD i (strL s)) ∧ Keeps (fun k => k ≠ j) w w' := by
  obtain ⟨S, T, h1, ⟨sv, wv, P, hT⟩, h3, h4, h5, h6⟩ := h
  refine (ref_write P hf i s).mono ?_
  rintro e w' ⟨he, wv', P', K, hw⟩
  exact ⟨he, Pair.right h1 h3 hj h4 h5 h6 (grow_ref hT P' hw) (K.mono (fun k _ e => hT k e)), K.mono (fun k _ e => (h5 k (hT k e)).2.2)⟩
theorem pairR_flush (hj : j < w.heap.size) (h : Pair j w0 w b c d u) (hf : u.Few) : Calls Tryd.prog 29 #[.pointer (some ⟨c, 0, none⟩)] w fun e w' => e = .returned (.int .i64 u.flushE) ∧ Pair j w0 w' b c d u.flushD ∧ Keeps (fun k => k ≠ j) w w' := by
  obtain ⟨S, T, h1, ⟨sv, wv, P, hT⟩, h3, h4, h5, h6⟩ := h
  refine (ref_flush P hf).mono ?_
  rintro e w' ⟨he, wv', P', K, hw⟩
  refine ⟨he, Pair.right h1 h3 hj h4 h5 h6 (grow_ref hT P' ?_) (K.mono (fun k _ e => hT k e)), K.mono (fun k _ e => (h5 k (hT k e)).2.2)⟩
  rcases hw with q | q
  · exact .inl (by rw [q])
  · exact .inr (fun k e => by rw [q] at e; cases e)
theorem pairR_arm (hj : j < w.heap.size) (h : Pair j w0 w b c d u) (k : Int) (hk : k ≤ 9223372036854775807) : Calls Tryd.prog 30 #[.pointer (some ⟨c, 0, none⟩), .int .i64 k] w fun e w' => e = .returned (.tuple #[]) ∧ Pair j w0 w' b c d (u.armD k) ∧ Keeps (fun k => k ≠ j) w w' := by
  obtain ⟨S, T, h1, ⟨sv, wv, P, hT⟩, h3, h4, h5, h6⟩ := h
  refine (ref_arm P k hk).mono ?_
  rintro e w' ⟨he, P', K⟩
  exact ⟨he, Pair.right h1 h3 hj h4 h5 h6 (grow_ref hT P' (.inl rfl)) (K.mono (fun k _ e => by subst e; exact hT _ (.inl rfl))), K.mono (fun k _ e => (h5 k (hT k (.inl e))).2.2)⟩
theorem pairR_crash (hj : j < w.heap.size) (h : Pair j w0 w b c d u) (hf : u.Few) (v : Value) (f : FT) (hv : Bools w v f.kept) (hb : ∀ a n cc, v = .slice (some a) n cc → n ≠ 0 → a.block < w0.heap.size) : Calls Tryd.prog 31 #[.pointer (some ⟨c, 0, none⟩), fateV v f] w fun e w' => e = .returned (.tuple #[]) ∧ Pair j w0 w' b c d (u.crashD f) ∧ Keeps (fun k => k ≠ j) w w' := by
  obtain ⟨S, T, h1, ⟨sv, wv, P, hT⟩, h3, h4, h5, h6⟩ := h
  refine (ref_crash P hf v f hv (fun a n cc e n0 m => by have := hb a n cc e n0; have := (h5 _ (hT _ m)).1; omega)).mono ?_
  rintro e w' ⟨he, P', K⟩
  exact ⟨he, Pair.right h1 h3 hj h4 h5 h6 (grow_ref hT P' (.inr (fun k e => by cases e))) (K.mono (fun k _ e => hT k e)), K.mono (fun k _ e => (h5 k (hT k e)).2.2)⟩
end
end Go.Proofs.YtcapifhmmkmboaaDoor
