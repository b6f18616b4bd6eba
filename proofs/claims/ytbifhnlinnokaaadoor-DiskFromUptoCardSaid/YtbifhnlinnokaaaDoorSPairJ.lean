/-
  Both disks side by side, apart from several blocks: crashes.
-/
import Derived.Test.YtbifhnlinnokaaaDoorSPair
namespace Go.Proofs.YtbifhnlinnokaaaDoor
open Go.RowKit Go.WideShapes
set_option maxRecDepth 100000

def PairJ (J : Nat → Prop) (w0 W : World) (b c : Nat) (d u : DS) : Prop :=
  ∃ S T : Nat → Prop, DiskAt W b d S ∧ RefAt W c u T ∧ (∀ k, S k → T k → False) ∧ (∀ k, S k → w0.heap.size ≤ k ∧ k < W.heap.size ∧ ¬ J k) ∧ (∀ k, T k → w0.heap.size ≤ k ∧ k < W.heap.size ∧ ¬ J k) ∧ Since w0.heap.size w0 W
section
variable {w0 w : World} {J : Nat → Prop} {b c : Nat} {d u : DS}

theorem PairJ.of {j : Nat} {W : World} (h : Pair j w0 w b c d u) (q : Qt w W) (hJ : ∀ k, J k → k = j ∨ w.heap.size ≤ k) : PairJ J w0 W b c d u := by
  obtain ⟨S, T, h1, h2, h3, h4, h5, h6⟩ := h
  have hz := q.size
  refine ⟨S, T, h1.qt q, h2.qt q, h3, fun k e => ⟨(h4 k e).1, by have := (h4 k e).2.1; omega, fun m => ?_⟩, fun k e => ⟨(h5 k e).1, by have := (h5 k e).2.1; omega, fun m => ?_⟩, h6.step q (fun _ e => e.elim)⟩
  · rcases hJ k m with r | r
    · exact (h4 k e).2.2 r
    · have := (h4 k e).2.1; omega
  · rcases hJ k m with r | r
    · exact (h5 k e).2.2 r
    · have := (h5 k e).2.1; omega
theorem PairJ.pair {j : Nat} (h : PairJ J w0 w b c d u) (hj : J j) : Pair j w0 w b c d u := by
  obtain ⟨S, T, h1, h2, h3, h4, h5, h6⟩ := h
  exact ⟨S, T, h1, h2, h3, fun k e => ⟨(h4 k e).1, (h4 k e).2.1, fun r => (h4 k e).2.2 (r ▸ hj)⟩, fun k e => ⟨(h5 k e).1, (h5 k e).2.1, fun r => (h5 k e).2.2 (r ▸ hj)⟩, h6⟩
theorem PairJ.since (h : PairJ J w0 w b c d u) : Since w0.heap.size w0 w := by obtain ⟨S, T, h1, h2, h3, h4, h5, h6⟩ := h; exact h6

theorem pairJ_crash (hJ : ∀ k, J k → k < w.heap.size) (h : PairJ J w0 w b c d u) (hf : d.Few) (v : Value) (f : FT) (hv : Bools w v f.kept) (hb : ∀ a n cc, v = .slice (some a) n cc → n ≠ 0 → J a.block ∨ a.block < w0.heap.size) : Calls Tryd.prog 19 #[.pointer (some ⟨b, 0, none⟩), fateV v f] w fun e w' => e = .returned (.tuple #[]) ∧ PairJ J w0 w' b c (d.crashD f) u ∧ Keeps (fun k => w0.heap.size ≤ k ∧ ¬ J k) w w' := by
  obtain ⟨S, T, h1, h2, h3, h4, h5, h6⟩ := h
  refine (crash_any w b d _ h1 hf v f hv (fun a n cc e n0 m => by
    rcases hb a n cc e n0 with r | r
    · exact (h4 _ m).2.2 r
    · have := (h4 _ m).1; omega)).mono ?_
  rintro e w' ⟨he, hD, K⟩
  have hz := K.size
  have hw := h6.size
  refine ⟨he, ⟨_, T, hD, h2.kept K (fun k e q => h3 k q e), ?_, ?_, fun k e => ⟨(h5 k e).1, by have := (h5 k e).2.1; omega, (h5 k e).2.2⟩, h6.step K (fun k e => (h4 k e).1)⟩, K.mono (fun k _ e => ⟨(h4 k e).1, (h4 k e).2.2⟩)⟩
  · rintro k (e | e) q
    · exact h3 k e q
    · have := (h5 k q).2.1; omega
  · rintro k (e | e)
    · exact ⟨(h4 k e).1, by have := (h4 k e).2.1; omega, (h4 k e).2.2⟩
    · exact ⟨by omega, e.2, fun m => by have := hJ k m; omega⟩

theorem pairJR_crash (hJ : ∀ k, J k → k < w.heap.size) (h : PairJ J w0 w b c d u) (hf : u.Few) (v : Value) (f : FT) (hv : Bools w v f.kept) (hb : ∀ a n cc, v = .slice (some a) n cc → n ≠ 0 → J a.block ∨ a.block < w0.heap.size) : Calls Tryd.prog 37 #[.pointer (some ⟨c, 0, none⟩), fateV v f] w fun e w' => e = .returned (.tuple #[]) ∧ PairJ J w0 w' b c d (u.crashD f) ∧ Keeps (fun k => w0.heap.size ≤ k ∧ ¬ J k) w w' := by
  obtain ⟨S, T, h1, ⟨sv, wv, P, hT⟩, h3, h4, h5, h6⟩ := h
  refine (ref_crash P hf v f hv (fun a n cc e n0 m => by
    rcases hb a n cc e n0 with r | r
    · exact (h5 _ (hT _ m)).2.2 r
    · have := (h5 _ (hT _ m)).1; omega)).mono ?_
  rintro e w' ⟨he, P', K0⟩
  have K : Keeps T w w' := K0.mono (fun k _ e => hT k e)
  have hR : RefAt w' c (u.crashD f) (Grow T w w') := grow_ref hT P' (.inr (fun k e => by cases e))
  have hz := K.size
  have hw := h6.size
  refine ⟨he, ⟨S, _, h1.kept K (fun k e q => h3 k e q), hR, ?_, fun k e => ⟨(h4 k e).1, by have := (h4 k e).2.1; omega, (h4 k e).2.2⟩, ?_, h6.step K (fun k e => (h5 k e).1)⟩, K.mono (fun k _ e => ⟨(h5 k e).1, (h5 k e).2.2⟩)⟩
  · rintro k q (e | e)
    · exact h3 k q e
    · have := (h4 k q).2.1; omega
  · rintro k (e | e)
    · exact ⟨(h5 k e).1, by have := (h5 k e).2.1; omega, (h5 k e).2.2⟩
    · exact ⟨by omega, e.2, fun m => by have := hJ k m; omega⟩
end
end Go.Proofs.YtbifhnlinnokaaaDoor
