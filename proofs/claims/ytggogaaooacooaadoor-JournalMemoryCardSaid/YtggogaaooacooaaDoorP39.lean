/-
  Both disks side by side, apart from several blocks: what turns those blocks; writes, flushes, armed counts.
  A disk (and a journal over it) beside blocks of a law's own.
-/
import Derived.Test.YtggogaaooacooaaDoorP38
import Derived.Test.YtggogaaooacooaaDoorP37
namespace Go.Proofs.YtggogaaooacooaaDoor
open Go.RowKit Go.WideShapes
set_option maxRecDepth 100000

section
variable {ad : Nat → Addr} {w0 w : World} {J : Nat → Prop} {b c : Nat} {d u : DS}
/-- What a call over one of the disks may turn. -/
abbrev OutJ (w0 : World) (J : Nat → Prop) (k : Nat) : Prop := w0.heap.size ≤ k ∧ ¬ J k

theorem PairJ.qt {w' : World} (h : PairJ J w0 w b c d u) (q : Qt w w') : PairJ J w0 w' b c d u := by
  obtain ⟨S, T, h1, h2, h3, h4, h5, h6⟩ := h
  have hz := q.size
  exact ⟨S, T, h1.qt q, h2.qt q, h3, fun k e => ⟨(h4 k e).1, by have := (h4 k e).2.1; omega, (h4 k e).2.2⟩, fun k e => ⟨(h5 k e).1, by have := (h5 k e).2.1; omega, (h5 k e).2.2⟩, h6.step q (fun _ e => e.elim)⟩
/-- Blocks of J alone have turned. -/
theorem PairJ.turn {w' : World} (h : PairJ J w0 w b c d u) (hJ : ∀ k, J k → w0.heap.size ≤ k) (K : Keeps J w w') : PairJ J w0 w' b c d u := by
  obtain ⟨S, T, h1, h2, h3, h4, h5, h6⟩ := h
  have hz := K.size
  exact ⟨S, T, h1.kept K (fun k e => (h4 k e).2.2), h2.kept K (fun k e => (h5 k e).2.2), h3, fun k e => ⟨(h4 k e).1, by have := (h4 k e).2.1; omega, (h4 k e).2.2⟩, fun k e => ⟨(h5 k e).1, by have := (h5 k e).2.1; omega, (h5 k e).2.2⟩, h6.step K hJ⟩
/-- More blocks are the caller's own: younger ones. -/
theorem PairJ.more {I : Nat → Prop} (h : PairJ J w0 w b c d u) (hI : ∀ k, I k → J k ∨ w.heap.size ≤ k) : PairJ I w0 w b c d u := by
  obtain ⟨S, T, h1, h2, h3, h4, h5, h6⟩ := h
  refine ⟨S, T, h1, h2, h3, fun k e => ⟨(h4 k e).1, (h4 k e).2.1, fun m => ?_⟩, fun k e => ⟨(h5 k e).1, (h5 k e).2.1, fun m => ?_⟩, h6⟩
  · rcases hI k m with r | r
    · exact (h4 k e).2.2 r
    · have := (h4 k e).2.1; omega
  · rcases hI k m with r | r
    · exact (h5 k e).2.2 r
    · have := (h5 k e).2.1; omega
theorem PairJ.left {S T : Nat → Prop} {w' : World} {d' : DS} (h2 : RefAt w c u T) (h3 : ∀ k, S k → T k → False) (hJ : ∀ k, J k → k < w.heap.size) (h4 : ∀ k, S k → w0.heap.size ≤ k ∧ k < w.heap.size ∧ ¬ J k) (h5 : ∀ k, T k → w0.heap.size ≤ k ∧ k < w.heap.size ∧ ¬ J k) (h6 : Since w0.heap.size w0 w)
    (hD : DiskAt w' b d' (Grow S w w')) (K : Keeps S w w') : PairJ J w0 w' b c d' u ∧ Keeps (OutJ w0 J) w w' := by
  have hz := K.size
  have hw := h6.size
  refine ⟨⟨_, T, hD, h2.kept K (fun k e q => h3 k q e), ?_, ?_, fun k e => ⟨(h5 k e).1, by have := (h5 k e).2.1; omega, (h5 k e).2.2⟩, h6.step K (fun k e => (h4 k e).1)⟩, K.mono (fun k _ e => ⟨(h4 k e).1, (h4 k e).2.2⟩)⟩
  · rintro k (e | e) q
    · exact h3 k e q
    · have := (h5 k q).2.1; omega
  · rintro k (e | e)
    · exact ⟨(h4 k e).1, by have := (h4 k e).2.1; omega, (h4 k e).2.2⟩
    · exact ⟨by omega, e.2, fun m => by have := hJ k m; omega⟩
theorem PairJ.right {S T : Nat → Prop} {w' : World} {u' : DS} (h1 : DiskAt w b d S) (h3 : ∀ k, S k → T k → False) (hJ : ∀ k, J k → k < w.heap.size) (h4 : ∀ k, S k → w0.heap.size ≤ k ∧ k < w.heap.size ∧ ¬ J k) (h5 : ∀ k, T k → w0.heap.size ≤ k ∧ k < w.heap.size ∧ ¬ J k) (h6 : Since w0.heap.size w0 w)
    (hR : RefAt w' c u' (Grow T w w')) (K : Keeps T w w') : PairJ J w0 w' b c d u' ∧ Keeps (OutJ w0 J) w w' := by
  have hz := K.size
  have hw := h6.size
  refine ⟨⟨S, _, h1.kept K (fun k e q => h3 k e q), hR, ?_, fun k e => ⟨(h4 k e).1, by have := (h4 k e).2.1; omega, (h4 k e).2.2⟩, ?_, h6.step K (fun k e => (h5 k e).1)⟩, K.mono (fun k _ e => ⟨(h5 k e).1, (h5 k e).2.2⟩)⟩
  · rintro k q (e | e)
    · exact h3 k q e
    · have := (h4 k q).2.1; omega
  · rintro k (e | e)
    · exact ⟨(h5 k e).1, by have := (h5 k e).2.1; omega, (h5 k e).2.2⟩
    · exact ⟨by omega, e.2, fun m => by have := hJ k m; omega⟩

theorem pairJ_write (hE : Errs ad w0) (hJ : ∀ k, J k → k < w.heap.size) (h : PairJ J w0 w b c d u) (hf : d.Few) (i : Int) (s : ByteArray) : Calls Tryd.prog 33 #[.pointer (some ⟨b, 0, none⟩), .int .i64 i, .string s] w fun e w' => e = .returned (errV ad (d.writeE i (strL s))) ∧ PairJ J w0 w' b c (d.writeD i (strL s)) u ∧ Keeps (OutJ w0 J) w w' := by
  obtain ⟨S, T, h1, h2, h3, h4, h5, h6⟩ := h
  refine (write_any ad (errs_since hE h6) (OffErrs.mono (off_since hE) (fun k e => (h4 k e).1)) h1 hf i s).mono ?_
  rintro e w' ⟨he, hD, hK⟩
  exact ⟨he, PairJ.left h2 h3 hJ h4 h5 h6 hD hK⟩
theorem pairJ_flush (hE : Errs ad w0) (hJ : ∀ k, J k → k < w.heap.size) (h : PairJ J w0 w b c d u) (hf : d.Few) : Calls Tryd.prog 69 #[.pointer (some ⟨b, 0, none⟩)] w fun e w' => e = .returned (errV ad d.flushE) ∧ PairJ J w0 w' b c d.flushD u ∧ Keeps (OutJ w0 J) w w' := by
  obtain ⟨S, T, h1, h2, h3, h4, h5, h6⟩ := h
  refine (flush_any ad (errs_since hE h6) (OffErrs.mono (off_since hE) (fun k e => (h4 k e).1)) h1 hf).mono ?_
  rintro e w' ⟨he, hD, hK⟩
  exact ⟨he, PairJ.left h2 h3 hJ h4 h5 h6 hD hK⟩
theorem pairJ_arm (hJ : ∀ k, J k → k < w.heap.size) (h : PairJ J w0 w b c d u) (k : Int) (hk : k ≤ 9223372036854775807) : Calls Tryd.prog 36 #[.pointer (some ⟨b, 0, none⟩), .int .i64 k] w fun e w' => e = .returned (.tuple #[]) ∧ PairJ J w0 w' b c (d.armD k) u ∧ Keeps (OutJ w0 J) w w' := by
  obtain ⟨S, T, h1, h2, h3, h4, h5, h6⟩ := h
  refine (arm_any h1 k hk).mono ?_
  rintro e w' ⟨he, hD, hK⟩
  exact ⟨he, PairJ.left h2 h3 hJ h4 h5 h6 hD hK⟩
theorem pairJR_read (h : PairJ J w0 w b c d u) (hf : u.Few) (i : Int) : Calls Tryd.prog 98 #[.pointer (some ⟨c, 0, none⟩), .int .i64 i] w fun e w' => e = .returned (.tuple #[.string ⟨(u.readE i).toArray⟩, .int .i64 (u.reach i)]) ∧ Qt w w' := by
  obtain ⟨S, T, h1, ⟨sv, wv, P, hT⟩, h3, h4, h5, h6⟩ := h
  exact ref_read P hf i
theorem pairJR_write (hJ : ∀ k, J k → k < w.heap.size) (h : PairJ J w0 w b c d u) (hf : u.Few) (i : Int) (s : ByteArray) : Calls Tryd.prog 40 #[.pointer (some ⟨c, 0, none⟩), .int .i64 i, .string s] w fun e w' => e = .returned (.int .i64 (u.writeE i (strL s))) ∧ PairJ J w0 w' b c d (u.writeD i (strL s)) ∧ Keeps (OutJ w0 J) w w' := by
  obtain ⟨S, T, h1, ⟨sv, wv, P, hT⟩, h3, h4, h5, h6⟩ := h
  refine (ref_write P hf i s).mono ?_
  rintro e w' ⟨he, wv', P', K, hw⟩
  exact ⟨he, PairJ.right h1 h3 hJ h4 h5 h6 (grow_ref hT P' hw) (K.mono (fun k _ e => hT k e))⟩
theorem pairJR_flush (hJ : ∀ k, J k → k < w.heap.size) (h : PairJ J w0 w b c d u) (hf : u.Few) : Calls Tryd.prog 70 #[.pointer (some ⟨c, 0, none⟩)] w fun e w' => e = .returned (.int .i64 u.flushE) ∧ PairJ J w0 w' b c d u.flushD ∧ Keeps (OutJ w0 J) w w' := by
  obtain ⟨S, T, h1, ⟨sv, wv, P, hT⟩, h3, h4, h5, h6⟩ := h
  refine (ref_flush P hf).mono ?_
  rintro e w' ⟨he, wv', P', K, hw⟩
  refine ⟨he, PairJ.right h1 h3 hJ h4 h5 h6 (grow_ref hT P' ?_) (K.mono (fun k _ e => hT k e))⟩
  rcases hw with q | q
  · exact .inl (by rw [q])
  · exact .inr (fun k e => by rw [q] at e; cases e)
theorem pairJR_arm (hJ : ∀ k, J k → k < w.heap.size) (h : PairJ J w0 w b c d u) (k : Int) (hk : k ≤ 9223372036854775807) : Calls Tryd.prog 37 #[.pointer (some ⟨c, 0, none⟩), .int .i64 k] w fun e w' => e = .returned (.tuple #[]) ∧ PairJ J w0 w' b c d (u.armD k) ∧ Keeps (OutJ w0 J) w w' := by
  obtain ⟨S, T, h1, ⟨sv, wv, P, hT⟩, h3, h4, h5, h6⟩ := h
  refine (ref_arm P k hk).mono ?_
  rintro e w' ⟨he, P', K⟩
  exact ⟨he, PairJ.right h1 h3 hJ h4 h5 h6 (grow_ref hT P' (.inl rfl)) (K.mono (fun k _ e => by subst e; exact hT _ (.inl rfl)))⟩
/-- What the reference's disk reads as. -/
theorem PairJ.ref (h : PairJ J w0 w b c d u) : w.cell? ⟨c, 2, none⟩ = some (.bool u.off) ∧ w.cell? ⟨c, 7, none⟩ = some (.int .i64 u.cr) ∧ u.Ok := by
  obtain ⟨S, T, h1, ⟨sv, wv, P, hT⟩, h3, h4, h5, h6⟩ := h
  exact ⟨P.cell 2 _ rfl, P.cell 7 _ rfl, P.ok⟩
end
end Go.Proofs.YtggogaaooacooaaDoor
namespace Go.Proofs.YtggogaaooacooaaDoor
open Go.RowKit Go.WideShapes
set_option maxRecDepth 100000

section
variable {ad : Nat → Addr} {w0 w : World} {S G : Nat → Prop} {b q f : Nat} {d : DS} {j : J.JS}
theorem room_since (hE : Errs ad w0) (hT : Tab w0) (h4 : ∀ k, S k → w0.heap.size ≤ k) (h6 : Since w0.heap.size w0 w) : Room ad (fun k => S k ∨ w.heap.size ≤ k) w := by
  have R := Room.of hE hT
  have hz := h6.size
  have hup : ∀ k, (S k ∨ w.heap.size ≤ k) → w0.heap.size ≤ k := by
    rintro k (e | e)
    · exact h4 k e
    · omega
  exact ⟨errs_since hE h6, hT.qt h6.qt, (off_since hE).mono hup, fun h => R.offTab (hup _ h), fun k hk => .inr hk⟩
theorem disk_grow {w' : World} {d' : DS} (h : DiskAt w' b d' (fun k => S k ∨ w.heap.size ≤ k)) : DiskAt w' b d' (Grow S w w') := by
  obtain ⟨gd, mb, uv, P, hS⟩ := h
  refine ⟨gd, mb, uv, P, fun k hk => ?_⟩
  rcases hS k hk with e | e
  · exact .inl e
  · exact .inr ⟨e, P.lt k hk⟩
/-- What a journal's call leaves, by the disk's own blocks. -/
def JPS (ad : Nat → Addr) (S : Nat → Prop) (w : World) (b q : Nat) (r : Nat × J.JS × DS) (e : Ending) (w' : World) : Prop :=
  e = .returned (errV ad r.1) ∧ DiskAt w' b r.2.2 (Grow S w w') ∧ CJ w' q b r.2.1 ∧ Keeps (fun k => S k ∨ k = q) w w'
theorem JP.own {r : Nat × J.JS × DS} {e : Ending} {w' : World} (h : JP ad (fun k => S k ∨ w.heap.size ≤ k) w b q r e w') : JPS ad S w b q r e w' := by
  obtain ⟨h1, h2, h3, h4⟩ := h
  exact ⟨h1, disk_grow h2, h3, h4.mono (fun k hk e => by rcases e with (e | e) | e; exact .inl e; omega; exact .inr e)⟩
theorem japp_S (hE : Errs ad w0) (hT : Tab w0) (h4 : ∀ k, S k → w0.heap.size ≤ k) (h6 : Since w0.heap.size w0 w) (h : DiskAt w b d S) (hf : d.FewN f) (hf2 : f ≤ 1073000000) (hq : ¬ S q) (hC : CJ w q b j) (hF : J.Fine j d) (s : ByteArray) (hs : s.size ≤ 1099511627776) :
    Calls Tryd.prog 25 #[.pointer (some ⟨q, 0, none⟩), .string s] w (JPS ad S w b q (j.append d s.data.toList)) :=
  (jappend_any (room_since hE hT h4 h6) (h.mono (fun _ e => .inl e)) hf hf2 (fun e => by rcases e with e | e; exact hq e; have := hC.lt; omega) hC hF s hs).mono (fun _ _ h => h.own)
theorem japp_SM {a : Nat} (hE : Errs ad w0) (hT : Tab w0) (h4 : ∀ k, S k → w0.heap.size ≤ k) (h6 : Since w0.heap.size w0 w) (h : DiskAt w b d S) (hf : d.FewM a f) (hfa : a ≤ 1073000000) (hf2 : f ≤ 576460752303423488) (hq : ¬ S q) (hC : CJ w q b j) (hF : J.Fine j d) (s : ByteArray) (hs : s.size ≤ 1099511627776) :
    Calls Tryd.prog 25 #[.pointer (some ⟨q, 0, none⟩), .string s] w (JPS ad S w b q (j.append d s.data.toList)) :=
  (jappend_anyM (room_since hE hT h4 h6) (h.mono (fun _ e => .inl e)) hf hfa hf2 (fun e => by rcases e with e | e; exact hq e; have := hC.lt; omega) hC hF s hs).mono (fun _ _ h => h.own)
theorem jsync_S (hE : Errs ad w0) (hT : Tab w0) (h4 : ∀ k, S k → w0.heap.size ≤ k) (h6 : Since w0.heap.size w0 w) (h : DiskAt w b d S) (hf : d.Few) (hq : ¬ S q) (hC : CJ w q b j) (hF : J.Fine j d) :
    Calls Tryd.prog 42 #[.pointer (some ⟨q, 0, none⟩)] w (JPS ad S w b q (j.sync d)) :=
  (jsync_any (room_since hE hT h4 h6) (h.mono (fun _ e => .inl e)) hf (fun e => by rcases e with e | e; exact hq e; have := hC.lt; omega) hC hF).mono (fun _ _ h => h.own)

/-- A disk made since w0, apart from the blocks G. -/
def DK (G : Nat → Prop) (w0 w : World) (b : Nat) (d : DS) : Prop := ∃ S : Nat → Prop, DiskAt w b d S ∧ (∀ k, S k → w0.heap.size ≤ k ∧ k < w.heap.size ∧ ¬ G k) ∧ Since w0.heap.size w0 w
theorem DK.since (h : DK G w0 w b d) : Since w0.heap.size w0 w := by obtain ⟨S, _, _, h⟩ := h; exact h
theorem DK.qt {w' : World} (h : DK G w0 w b d) (k : Qt w w') : DK G w0 w' b d := by
  obtain ⟨S, h1, h4, h6⟩ := h
  have hz := k.size
  exact ⟨S, DiskAt.qt h1 k, fun g e => ⟨(h4 g e).1, by have := (h4 g e).2.1; omega, (h4 g e).2.2⟩, h6.step k (fun _ e => e.elim)⟩
theorem DK.turn {w' : World} (h : DK G w0 w b d) (hJ : ∀ k, G k → w0.heap.size ≤ k) (K : Keeps G w w') : DK G w0 w' b d := by
  obtain ⟨S, h1, h4, h6⟩ := h
  have hz := K.size
  exact ⟨S, h1.kept K (fun k e => (h4 k e).2.2), fun g e => ⟨(h4 g e).1, by have := (h4 g e).2.1; omega, (h4 g e).2.2⟩, h6.step K hJ⟩
theorem DK.more {I : Nat → Prop} (h : DK G w0 w b d) (hI : ∀ k, I k → G k ∨ w.heap.size ≤ k) : DK I w0 w b d := by
  obtain ⟨S, h1, h4, h6⟩ := h
  refine ⟨S, h1, fun k e => ⟨(h4 k e).1, (h4 k e).2.1, fun m => ?_⟩, h6⟩
  rcases hI k m with r | r
  · exact (h4 k e).2.2 r
  · have := (h4 k e).2.1; omega
/-- A step over the disk that may turn one block of G besides. -/
theorem DK.step {w' : World} {d' : DS} (h4 : ∀ k, S k → w0.heap.size ≤ k ∧ k < w.heap.size ∧ ¬ G k) (h6 : Since w0.heap.size w0 w) (hJ0 : ∀ k, G k → w0.heap.size ≤ k) (hJ : ∀ k, G k → k < w.heap.size) (hq : G q) (hD : DiskAt w' b d' (Grow S w w')) (K : Keeps (fun k => S k ∨ k = q) w w') :
    DK G w0 w' b d' ∧ Keeps (fun k => k = q ∨ OutJ w0 G k) w w' := by
  have hz := K.size
  have hw := h6.size
  refine ⟨⟨_, hD, ?_, h6.step K (fun k e => ?_)⟩, K.mono (fun k _ e => ?_)⟩
  · rintro k (e | e)
    · exact ⟨(h4 k e).1, by have := (h4 k e).2.1; omega, (h4 k e).2.2⟩
    · exact ⟨by omega, e.2, fun m => by have := hJ k m; omega⟩
  · rcases e with e | e
    · exact (h4 k e).1
    · rw [e]; exact hJ0 q hq
  · rcases e with e | e
    · exact .inr ⟨(h4 k e).1, (h4 k e).2.2⟩
    · exact .inl e
theorem DK.only {w' : World} {d' : DS} (h4 : ∀ k, S k → w0.heap.size ≤ k ∧ k < w.heap.size ∧ ¬ G k) (h6 : Since w0.heap.size w0 w) (hJ : ∀ k, G k → k < w.heap.size) (hD : DiskAt w' b d' (Grow S w w')) (K : Keeps S w w') : DK G w0 w' b d' ∧ Keeps (OutJ w0 G) w w' := by
  have hz := K.size
  have hw := h6.size
  refine ⟨⟨_, hD, ?_, h6.step K (fun k e => (h4 k e).1)⟩, K.mono (fun k _ e => ⟨(h4 k e).1, (h4 k e).2.2⟩)⟩
  rintro k (e | e)
  · exact ⟨(h4 k e).1, by have := (h4 k e).2.1; omega, (h4 k e).2.2⟩
  · exact ⟨by omega, e.2, fun m => by have := hJ k m; omega⟩
/-- What a journal's call leaves. -/
def JKP (ad : Nat → Addr) (G : Nat → Prop) (w0 w : World) (b q : Nat) (r : Nat × J.JS × DS) (e : Ending) (w' : World) : Prop :=
  e = .returned (errV ad r.1) ∧ DK G w0 w' b r.2.2 ∧ CJ w' q b r.2.1 ∧ Keeps (fun k => k = q ∨ OutJ w0 G k) w w'
theorem dk_append (hE : Errs ad w0) (hT : Tab w0) (hJ0 : ∀ k, G k → w0.heap.size ≤ k) (hJ : ∀ k, G k → k < w.heap.size) (hq : G q) (h : DK G w0 w b d) (hf : d.FewN f) (hf2 : f ≤ 1073000000) (hC : CJ w q b j) (hF : J.Fine j d) (s : ByteArray) (hs : s.size ≤ 1099511627776) :
    Calls Tryd.prog 25 #[.pointer (some ⟨q, 0, none⟩), .string s] w (JKP ad G w0 w b q (j.append d s.data.toList)) := by
  obtain ⟨S, h1, h4, h6⟩ := h
  refine (japp_S hE hT (fun k e => (h4 k e).1) h6 h1 hf hf2 (fun e => (h4 q e).2.2 hq) hC hF s hs).mono ?_
  rintro e w' ⟨e1, e2, e3, e4⟩
  obtain ⟨k1, k2⟩ := DK.step h4 h6 hJ0 hJ hq e2 e4
  exact ⟨e1, k1, e3, k2⟩
theorem dk_appendM {a : Nat} (hE : Errs ad w0) (hT : Tab w0) (hJ0 : ∀ k, G k → w0.heap.size ≤ k) (hJ : ∀ k, G k → k < w.heap.size) (hq : G q) (h : DK G w0 w b d) (hf : d.FewM a f) (hfa : a ≤ 1073000000) (hf2 : f ≤ 576460752303423488) (hC : CJ w q b j) (hF : J.Fine j d) (s : ByteArray) (hs : s.size ≤ 1099511627776) :
    Calls Tryd.prog 25 #[.pointer (some ⟨q, 0, none⟩), .string s] w (JKP ad G w0 w b q (j.append d s.data.toList)) := by
  obtain ⟨S, h1, h4, h6⟩ := h
  refine (japp_SM hE hT (fun k e => (h4 k e).1) h6 h1 hf hfa hf2 (fun e => (h4 q e).2.2 hq) hC hF s hs).mono ?_
  rintro e w' ⟨e1, e2, e3, e4⟩
  obtain ⟨k1, k2⟩ := DK.step h4 h6 hJ0 hJ hq e2 e4
  exact ⟨e1, k1, e3, k2⟩
theorem dk_sync (hE : Errs ad w0) (hT : Tab w0) (hJ0 : ∀ k, G k → w0.heap.size ≤ k) (hJ : ∀ k, G k → k < w.heap.size) (hq : G q) (h : DK G w0 w b d) (hf : d.Few) (hC : CJ w q b j) (hF : J.Fine j d) :
    Calls Tryd.prog 42 #[.pointer (some ⟨q, 0, none⟩)] w (JKP ad G w0 w b q (j.sync d)) := by
  obtain ⟨S, h1, h4, h6⟩ := h
  refine (jsync_S hE hT (fun k e => (h4 k e).1) h6 h1 hf (fun e => (h4 q e).2.2 hq) hC hF).mono ?_
  rintro e w' ⟨e1, e2, e3, e4⟩
  obtain ⟨k1, k2⟩ := DK.step h4 h6 hJ0 hJ hq e2 e4
  exact ⟨e1, k1, e3, k2⟩
theorem dk_replay (hE : Errs ad w0) (hT : Tab w0) (h : DK G w0 w b d) (i n v : Int) (hn : n ≤ 9223372036854775807) :
    Calls Tryd.prog 30 #[.pointer (some ⟨b, 0, none⟩), .int .i64 i, .int .i64 n, .int .i64 v] w (ReplayJ ad w (J.replay d i n v)) := by
  obtain ⟨S, h1, h4, h6⟩ := h
  exact jreplay_any ad (errs_since hE h6) (hT.qt h6.qt) h1 i n v hn
theorem dk_each (hE : Errs ad w0) (hT : Tab w0) (h : DK G w0 w b d) (i n v : Int) (hn : n ≤ 9223372036854775807) :
    Calls Tryd.prog 31 #[.pointer (some ⟨b, 0, none⟩), .int .i64 i, .int .i64 n, .int .i64 v] w fun e w' => ∃ fv, e = .returned fv ∧ EachV w' fv (J.replay d i n v).1 ∧ Qt w w' := by
  obtain ⟨S, h1, h4, h6⟩ := h
  exact jeach_any ad (errs_since hE h6) (hT.qt h6.qt) h1 i n v hn
theorem dk_begin (hE : Errs ad w0) (h : DK G w0 w b d) (i n v : Int) (hn : n ≤ 9223372036854775807) :
    Calls Tryd.prog 23 #[.pointer (some ⟨b, 0, none⟩), .int .i64 i, .int .i64 n, .int .i64 v] w (JBeginP ad w b d i n v) := by
  obtain ⟨S, h1, h4, h6⟩ := h
  exact jbegin_any ad (errs_since hE h6) h1 i n v hn
theorem dk_arm (hJ : ∀ k, G k → k < w.heap.size) (h : DK G w0 w b d) (k : Int) (hk : k ≤ 9223372036854775807) :
    Calls Tryd.prog 36 #[.pointer (some ⟨b, 0, none⟩), .int .i64 k] w fun e w' => e = .returned (.tuple #[]) ∧ DK G w0 w' b (d.armD k) ∧ Keeps (OutJ w0 G) w w' := by
  obtain ⟨S, h1, h4, h6⟩ := h
  refine (arm_any h1 k hk).mono ?_
  rintro e w' ⟨he, hD, hK⟩
  exact ⟨he, DK.only h4 h6 hJ hD hK⟩
theorem dk_write (hE : Errs ad w0) (hJ : ∀ k, G k → k < w.heap.size) (h : DK G w0 w b d) (hf : d.Few) (i : Int) (s : ByteArray) :
    Calls Tryd.prog 33 #[.pointer (some ⟨b, 0, none⟩), .int .i64 i, .string s] w fun e w' => e = .returned (errV ad (d.writeE i (strL s))) ∧ DK G w0 w' b (d.writeD i (strL s)) ∧ Keeps (OutJ w0 G) w w' := by
  obtain ⟨S, h1, h4, h6⟩ := h
  refine (write_any ad (errs_since hE h6) (OffErrs.mono (off_since hE) (fun k e => (h4 k e).1)) h1 hf i s).mono ?_
  rintro e w' ⟨he, hD, hK⟩
  exact ⟨he, DK.only h4 h6 hJ hD hK⟩
theorem dk_crash (hJ : ∀ k, G k → k < w.heap.size) (h : DK G w0 w b d) (hf : d.Few) (v : Value) (t : FT) (hv : Bools w v t.kept) (hb : ∀ a n c, v = .slice (some a) n c → n ≠ 0 → a.block < w0.heap.size ∨ G a.block) :
    Calls Tryd.prog 38 #[.pointer (some ⟨b, 0, none⟩), fateV v t] w fun e w' => e = .returned (.tuple #[]) ∧ DK G w0 w' b (d.crashD t) ∧ Keeps (OutJ w0 G) w w' := by
  obtain ⟨S, h1, h4, h6⟩ := h
  refine (crash_any w b d _ h1 hf v t hv (fun a n c e hn s => ?_)).mono ?_
  · rcases hb a n c e hn with k | k
    · have := (h4 _ s).1; omega
    · exact (h4 _ s).2.2 k
  rintro e w' ⟨he, hD, hK⟩
  exact ⟨he, DK.only h4 h6 hJ hD hK⟩
theorem dk_off (h : DK G w0 w b d) : Calls Tryd.prog 56 #[.pointer (some ⟨b, 0, none⟩)] w fun e w' => e = .returned (.bool d.off) ∧ w' = w := by
  obtain ⟨S, h1, h4, h6⟩ := h
  exact off_same h1
theorem dk_pending (h : DK G w0 w b d) : Calls Tryd.prog 18 #[.pointer (some ⟨b, 0, none⟩)] w fun e w' => e = .returned (.int .i64 d.ways.length) ∧ w' = w := by
  obtain ⟨S, h1, h4, h6⟩ := h
  exact (pending_any h1).mono fun _ _ ⟨h1, h2⟩ => ⟨h1, h2.symm⟩
theorem dk_counts (h : DK G w0 w b d) : Calls Tryd.prog 27 #[.pointer (some ⟨b, 0, none⟩)] w fun e w' => e = .returned (.tuple #[.int .i64 d.wr, .int .i64 d.fl]) ∧ Qt w w' := by
  obtain ⟨S, h1, h4, h6⟩ := h
  exact counts_any h1
theorem jkp_ok {j2 : J.JS} {d2 : DS} {e : Ending} {w' : World} (h : JKP ad G w0 w b q (0, j2, d2) e w') : e = .returned .nilIface ∧ DK G w0 w' b d2 ∧ CJ w' q b j2 ∧ Keeps (fun k => k = q ∨ OutJ w0 G k) w w' := h
theorem jkp_no {n : Nat} {j2 : J.JS} {d2 : DS} {e : Ending} {w' : World} (h : JKP ad G w0 w b q (n + 1, j2, d2) e w') : e = .returned (.iface 168 (.pointer (some (ad (n + 1))))) ∧ DK G w0 w' b d2 ∧ CJ w' q b j2 ∧ Keeps (fun k => k = q ∨ OutJ w0 G k) w w' := h
theorem rpJ_ok {l : List (List UInt8)} {e : Ending} {w' : World} (h : ReplayJ ad w (l, 0) e w') : ∃ v, e = .returned (.tuple #[v, .nilIface]) ∧ NewT w w' v l := h
theorem begin_ok {i n v : Nat} {e : Ending} {w' : World} (h : JBeginP ad w b d i n v e w') (hr : J.refE d i n v = 0) : Qt w w' ∧ ∃ q, w.heap.size ≤ q ∧ e = .returned (.tuple #[.pointer (some ⟨q, 0, none⟩), .nilIface]) ∧ CJ w' q b ⟨i, n, v, 0, false, d.cr⟩ := by
  obtain ⟨k, hb⟩ := h
  rw [if_pos hr] at hb
  exact ⟨k, hb⟩
theorem newT_two {w wr : World} {a : Option Addr} {n c : Nat} {x y : List UInt8} (h : NewT w wr (.slice a n c) [x, y]) : ∃ g, a = some ⟨g, 0, none⟩ ∧ n = 2 ∧ w.heap.size ≤ g ∧ g < wr.heap.size ∧ ∀ W : World, W.heap[g]? = wr.heap[g]? → W.cell? ⟨g, 0, none⟩ = some (strV x) ∧ W.cell? ⟨g, 1, none⟩ = some (strV y) := by
  obtain ⟨g, rfl, h0⟩ := newT_cell h (show [x, y][0]? = some x from rfl)
  obtain ⟨g', e, h1⟩ := newT_cell h (show [x, y][1]? = some y from rfl)
  injection e with e
  injection e with e
  subst e
  obtain ⟨a', c', e⟩ := h.shape
  injection e with _ e _
  refine ⟨g, rfl, e, h.new g rfl, ownsRow_lt h.own rfl, fun W hW => ⟨?_, ?_⟩⟩
  · rw [World.cell?_of_block hW]; exact h0
  · rw [World.cell?_of_block hW]; exact h1
/-- A new disk. -/
theorem dk_new {w1 : World} (q1 : Qt w0 w) (hD : DiskAt w1 b d (Grow (fun _ => False) w w1)) (q2 : Qt w w1) : DK (fun k => w1.heap.size ≤ k) w0 w1 b d := by
  have z1 := q1.size
  refine ⟨_, hD, ?_, Qt.since (Qt.trans q1 q2)⟩
  rintro k (e | e)
  · exact e.elim
  · exact ⟨by omega, e.2, by omega⟩
end
end Go.Proofs.YtggogaaooacooaaDoor
