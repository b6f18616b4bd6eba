/-
  Layer 10: a journal over a disk beside the document's own; what a step of the law's leaves.
  The contract of remitlaw10's step: no kind, a count armed.
  The contract of remitlaw10's step: a crash.
-/
import Derived.Test.YtggogaaooacooaaDoorP41
import Derived.Test.YtggogaaooacooaaDoorP42
import Derived.Test.YtggogaaooacooaaDoorP28
import Derived.Test.YtggogaaooacooaaDoorP37
import Derived.Deep.RegionHeld3
namespace Go.Proofs.YtggogaaooacooaaDoor
open Go.RowKit Go.WideShapes
set_option maxRecDepth 100000

section
variable {ad : Nat → Addr} {w0 w : World} {I : Nat → Prop} {b c q f : Nat} {d u : DS} {j : J.JS}
/-- A step over the program's disk that may turn one block of I besides. -/
theorem pairK_left {S T : Nat → Prop} {w' : World} {d' : DS} (h2 : RefAt w c u T) (h3 : ∀ k, S k → T k → False) (hJ0 : ∀ k, I k → w0.heap.size ≤ k) (hJ : ∀ k, I k → k < w.heap.size) (hq : I q) (h4 : ∀ k, S k → w0.heap.size ≤ k ∧ k < w.heap.size ∧ ¬ I k) (h5 : ∀ k, T k → w0.heap.size ≤ k ∧ k < w.heap.size ∧ ¬ I k) (h6 : Since w0.heap.size w0 w)
    (hD : DiskAt w' b d' (Grow S w w')) (K : Keeps (fun k => S k ∨ k = q) w w') : PairJ I w0 w' b c d' u ∧ Keeps (fun k => k = q ∨ OutJ w0 I k) w w' := by
  have hz := K.size
  have hw := h6.size
  refine ⟨⟨_, T, hD, h2.kept K (fun k e r => ?_), ?_, ?_, fun k e => ⟨(h5 k e).1, by have := (h5 k e).2.1; omega, (h5 k e).2.2⟩, h6.step K (fun k e => ?_)⟩, K.mono (fun k _ e => ?_)⟩
  · rcases r with r | r
    · exact h3 k r e
    · exact (h5 k e).2.2 (r ▸ hq)
  · rintro k (e | e) r
    · exact h3 k e r
    · have := (h5 k r).2.1; omega
  · rintro k (e | e)
    · exact ⟨(h4 k e).1, by have := (h4 k e).2.1; omega, (h4 k e).2.2⟩
    · exact ⟨by omega, e.2, fun m => by have := hJ k m; omega⟩
  · rcases e with e | e
    · exact (h4 k e).1
    · rw [e]; exact hJ0 q hq
  · rcases e with e | e
    · exact .inr ⟨(h4 k e).1, (h4 k e).2.2⟩
    · exact .inl e
/-- What a call over the program's journal leaves. -/
def CJP (ad : Nat → Addr) (I : Nat → Prop) (w0 w : World) (b c q : Nat) (u : DS) (r : Nat × J.JS × DS) (e : Ending) (w' : World) : Prop :=
  e = .returned (errV ad r.1) ∧ PairJ I w0 w' b c r.2.2 u ∧ CJ w' q b r.2.1 ∧ Keeps (fun k => k = q ∨ OutJ w0 I k) w w'
theorem pairK_append (hE : Errs ad w0) (hT : Tab w0) (hJ0 : ∀ k, I k → w0.heap.size ≤ k) (hJ : ∀ k, I k → k < w.heap.size) (hq : I q) (h : PairJ I w0 w b c d u) (hf : d.FewN f) (hf2 : f ≤ 1073000000) (hC : CJ w q b j) (hF : J.Fine j d) (s : ByteArray) (hs : s.size ≤ 1099511627776) :
    Calls Tryd.prog 25 #[.pointer (some ⟨q, 0, none⟩), .string s] w (CJP ad I w0 w b c q u (j.append d s.data.toList)) := by
  obtain ⟨S, T, h1, h2, h3, h4, h5, h6⟩ := h
  refine (japp_S hE hT (fun k e => (h4 k e).1) h6 h1 hf hf2 (fun e => (h4 q e).2.2 hq) hC hF s hs).mono ?_
  rintro e w' ⟨e1, e2, e3, e4⟩
  obtain ⟨k1, k2⟩ := pairK_left h2 h3 hJ0 hJ hq h4 h5 h6 e2 e4
  exact ⟨e1, k1, e3, k2⟩
theorem pairK_sync (hE : Errs ad w0) (hT : Tab w0) (hJ0 : ∀ k, I k → w0.heap.size ≤ k) (hJ : ∀ k, I k → k < w.heap.size) (hq : I q) (h : PairJ I w0 w b c d u) (hf : d.Few) (hC : CJ w q b j) (hF : J.Fine j d) :
    Calls Tryd.prog 42 #[.pointer (some ⟨q, 0, none⟩)] w (CJP ad I w0 w b c q u (j.sync d)) := by
  obtain ⟨S, T, h1, h2, h3, h4, h5, h6⟩ := h
  refine (jsync_S hE hT (fun k e => (h4 k e).1) h6 h1 hf (fun e => (h4 q e).2.2 hq) hC hF).mono ?_
  rintro e w' ⟨e1, e2, e3, e4⟩
  obtain ⟨k1, k2⟩ := pairK_left h2 h3 hJ0 hJ hq h4 h5 h6 e2 e4
  exact ⟨e1, k1, e3, k2⟩
theorem pairK_begin (hE : Errs ad w0) (h : PairJ I w0 w b c d u) (i n v : Int) (hn : n ≤ 9223372036854775807) :
    Calls Tryd.prog 23 #[.pointer (some ⟨b, 0, none⟩), .int .i64 i, .int .i64 n, .int .i64 v] w (JBeginP ad w b d i n v) := by
  obtain ⟨S, T, h1, h2, h3, h4, h5, h6⟩ := h
  exact jbegin_any ad (errs_since hE h6) h1 i n v hn
end

theorem fewN_arm {m : Nat} {d : DS} (h : d.FewN m) (k : Int) : (d.armD k).FewN m := ⟨h.ways, h.wr, h.fl, h.cr⟩
theorem fewN_crash {m : Nat} {d : DS} (h : d.FewN m) (f : FT) : (d.crashD f).FewN (m + 1) := by
  have h1 := h.ways; have h2 := h.wr; have h3 := h.fl; have h4 := h.cr
  exact ⟨by simp [DS.crashD], by simp [DS.crashD]; omega, by simp [DS.crashD]; omega, by simp [DS.crashD]; omega⟩
/-- An Op of remitlaw10. -/
structure OpJ where
  kind : Int
  i : Int
  n : Int
  v : Int
  size : Int
  fill : Int
  kv : Value
  f : FT
def OpJ.list (o : OpJ) : List Value := [.int .i64 o.kind, .int .i64 o.i, .int .i64 o.n, .int .i64 o.v, .int .i64 o.size, .int .i64 o.fill, o.kv, .int .i64 o.f.torn, .int .i64 o.f.bytes]
def OpJ.val (o : OpJ) : Value := .agg o.list.toArray
structure OpJ.Ok (W : World) (o : OpJ) : Prop where
  n : o.n ≤ 9223372036854775807
  size : o.size ≤ 9223372036854775807
  kept : Bools W o.kv o.f.kept
def OpBox (W : World) (g : Nat) (o : OpJ) : Prop := W.heap[g]? = some (.cells o.list.toArray 42 (0, 0))
theorem OpBox.cells {g : Nat} {o : OpJ} {W : World} (h : OpBox W g o) : W.cell? ⟨g, 0, none⟩ = some (.int .i64 o.kind) ∧ W.cell? ⟨g, 1, none⟩ = some (.int .i64 o.i) ∧ W.cell? ⟨g, 2, none⟩ = some (.int .i64 o.n) ∧ W.cell? ⟨g, 3, none⟩ = some (.int .i64 o.v) ∧ W.cell? ⟨g, 4, none⟩ = some (.int .i64 o.size) ∧ W.cell? ⟨g, 5, none⟩ = some (.int .i64 o.fill) ∧ W.cell? ⟨g, 6, none⟩ = some o.kv ∧ W.cell? ⟨g, 7, none⟩ = some (.int .i64 o.f.torn) ∧ W.cell? ⟨g, 8, none⟩ = some (.int .i64 o.f.bytes) := by
  have hc : ∀ (i : Nat) (v : Value), o.list[i]? = some v → W.cell? ⟨g, i, none⟩ = some v := fun i v hv => by rw [cell_of_row _ _ _ _ _ _ h]; simpa using hv
  exact ⟨hc 0 _ rfl, hc 1 _ rfl, hc 2 _ rfl, hc 3 _ rfl, hc 4 _ rfl, hc 5 _ rfl, hc 6 _ rfl, hc 7 _ rfl, hc 8 _ rfl⟩
/-- The pair's two journals: none, or these. -/
def prCells (b c : Nat) (jv qv : Option Addr) : Array Value := #[.pointer (some ⟨b, 0, none⟩), .pointer (some ⟨c, 0, none⟩), .pointer jv, .pointer qv]
def PrBox (W : World) (pb b c : Nat) (jv qv : Option Addr) : Prop := W.heap[pb]? = some (.cells (prCells b c jv qv) 37 (0, 0))
theorem PrBox.cells {W : World} {pb b c : Nat} {jv qv : Option Addr} (h : PrBox W pb b c jv qv) : W.cell? ⟨pb, 0, none⟩ = some (.pointer (some ⟨b, 0, none⟩)) ∧ W.cell? ⟨pb, 1, none⟩ = some (.pointer (some ⟨c, 0, none⟩)) ∧ W.cell? ⟨pb, 2, none⟩ = some (.pointer jv) ∧ W.cell? ⟨pb, 3, none⟩ = some (.pointer qv) := by
  have hc : ∀ (i : Nat) (v : Value), (prCells b c jv qv)[i]? = some v → W.cell? ⟨pb, i, none⟩ = some v := fun i v hv => by rw [cell_of_row _ _ _ _ _ _ h]; exact hv
  exact ⟨hc 0 _ rfl, hc 1 _ rfl, hc 2 _ rfl, hc 3 _ rfl⟩
/-- The journals. -/
def Jrns (I : Nat → Prop) (W : World) (pb b c : Nat) (d : DS) (jv qv : Option Addr) : Prop :=
  (jv = none ∧ qv = none) ∨ ∃ (qj qr : Nat) (j : J.JS), jv = some ⟨qj, 0, none⟩ ∧ qv = some ⟨qr, 0, none⟩ ∧ I qj ∧ I qr ∧ qj ≠ qr ∧ qj ≠ pb ∧ qr ≠ pb ∧ CJ W qj b j ∧ RJ W qr c j ∧ J.Fine j d
structure Pl (w0 W : World) (I : Nat → Prop) (pb b c f : Nat) (d : DS) (jv qv : Option Addr) : Prop where
  pair : PairJ I w0 W b c d d
  mine : I pb
  low : ∀ k, I k → w0.heap.size ≤ k
  high : ∀ k, I k → k < W.heap.size
  box : PrBox W pb b c jv qv
  jrns : Jrns I W pb b c d jv qv
  few : d.FewN f
theorem Jrns.kept {S I : Nat → Prop} {W W' : World} {pb b c : Nat} {d : DS} {jv qv : Option Addr} (h : Jrns I W pb b c d jv qv) (K : Keeps S W W') (hS : ∀ k, I k → ¬ S k) : Jrns I W' pb b c d jv qv := by
  rcases h with h | ⟨qj, qr, j, h1, h2, h3, h4, h5, h6, h7, h8, h9, h10⟩
  · exact .inl h
  · exact .inr ⟨qj, qr, j, h1, h2, h3, h4, h5, h6, h7, h8.kept K (hS _ h3), h9.kept K (hS _ h4), h10⟩
theorem Jrns.disk {I : Nat → Prop} {W : World} {pb b c : Nat} {d d' : DS} {jv qv : Option Addr} (h : Jrns I W pb b c d jv qv) (hF : ∀ j, J.Fine j d → J.Fine j d') : Jrns I W pb b c d' jv qv := by
  rcases h with h | ⟨qj, qr, j, h1, h2, h3, h4, h5, h6, h7, h8, h9, h10⟩
  · exact .inl h
  · exact .inr ⟨qj, qr, j, h1, h2, h3, h4, h5, h6, h7, h8, h9, hF j h10⟩
section
variable {w0 W W' : World} {I : Nat → Prop} {pb b c f : Nat} {d : DS} {jv qv : Option Addr}
theorem Pl.qt (h : Pl w0 W I pb b c f d jv qv) (k : Qt W W') : Pl w0 W' I pb b c f d jv qv :=
  ⟨h.pair.qt k, h.mine, h.low, fun g e => Nat.lt_of_lt_of_le (h.high g e) k.size, (k.block pb (h.high _ h.mine) (fun e => e)).trans h.box, h.jrns.kept k (fun _ _ e => e), h.few⟩
/-- A block more is the law's own: a younger one. -/
theorem Pl.more (h : Pl w0 W I pb b c f d jv qv) (o : Obj) : Pl w0 (W.alloc o) (fun k => I k ∨ k = W.heap.size) pb b c f d jv qv := by
  have q := (Qt.refl W).alloc o
  have hz : (W.alloc o).heap.size = W.heap.size + 1 := World.size_alloc _ _
  have hs := h.pair.since.size
  refine ⟨((h.pair.more (I := fun k => I k ∨ k = W.heap.size) (fun k e => by
    rcases e with e | e
    · exact .inl e
    · exact .inr (by omega))).qt q), .inl h.mine, fun k e => ?_, fun k e => ?_, (q.block pb (h.high _ h.mine) (fun e => e)).trans h.box, ?_, h.few⟩
  · rcases e with e | e
    · exact h.low k e
    · omega
  · rcases e with e | e
    · have := h.high k e; omega
    · omega
  · rcases h.jrns.kept q (fun _ _ e => e) with r | ⟨qj, qr, j, h1, h2, h3, h4, h5, h6, h7, h8, h9, h10⟩
    · exact .inl r
    · exact .inr ⟨qj, qr, j, h1, h2, .inl h3, .inl h4, h5, h6, h7, h8, h9, h10⟩
/-- Behind a call over the disks that leaves all that is the law's own. -/
theorem Pl.disks (h : Pl w0 W I pb b c f d jv qv) {d' : DS} {f' : Nat} (hp : PairJ I w0 W' b c d' d') (K : Keeps (OutJ w0 I) W W') (hF : ∀ j, J.Fine j d → J.Fine j d') (hf : d'.FewN f') : Pl w0 W' I pb b c f' d' jv qv :=
  ⟨hp, h.mine, h.low, fun g e => Nat.lt_of_lt_of_le (h.high g e) K.size, (K.block pb (h.high _ h.mine) (fun e => e.2 h.mine)).trans h.box, (h.jrns.kept K (fun _ m e => e.2 m)).disk hF, hf⟩
/-- What a step leaves. -/
def StepJ (w0 : World) (pb b c f : Nat) (e : Ending) (w' : World) : Prop := e = .returned (.bool true) ∧ ∃ I d jv qv, Pl w0 w' I pb b c (f + 14) d jv qv
theorem Pl.step (h : Pl w0 W I pb b c f d jv qv) : StepJ w0 pb b c f (.returned (.bool true)) W := ⟨rfl, I, d, jv, qv, h.pair, h.mine, h.low, h.high, h.box, h.jrns, h.few.mono (by omega)⟩
end
/-- What each kind's walk begins with. -/
theorem plJ_start {w0 w : World} {I : Nat → Prop} {pb b c f : Nat} {d : DS} {jv qv : Option Addr} (h : Pl w0 w I pb b c f d jv qv) (o : OpJ) : ∃ WA, w.alloc (.cells #[.int .i64 o.kind, .int .i64 o.i, .int .i64 o.n, .int .i64 o.v, .int .i64 o.size, .int .i64 o.fill, o.kv, .int .i64 o.f.torn, .int .i64 o.f.bytes] 42) = WA ∧ Pl w0 WA (fun k => I k ∨ k = w.heap.size) pb b c f d jv qv ∧ OpBox WA w.heap.size o := ⟨_, rfl, h.more _, heap_alloc_new w _⟩
end Go.Proofs.YtggogaaooacooaaDoor
namespace Go.Proofs.YtggogaaooacooaaDoor
open Go.RowKit Go.WideShapes
set_option maxRecDepth 100000
section
variable {ad : Nat → Addr} {w0 w : World} {I : Nat → Prop} {pb b c f : Nat} {d : DS} {jv qv : Option Addr}
set_option maxHeartbeats 3200000 in
theorem stepJ_none (hE : Errs ad w0) (hT : Tab w0) (h : Pl w0 w I pb b c f d jv qv) (hf2 : f ≤ 1000000000) (i n v size fill : Int) (ka : Option Addr) (kc : Nat) (ft : FT) (kind : Int) (hk : ∀ x : Int, 1 ≤ x → x ≤ 9 → kind ≠ x) :
    Calls Tryd.prog 12 #[.pointer (some ⟨pb, 0, none⟩), OpJ.val ⟨kind, i, n, v, size, fill, .slice ka ft.kept.length kc, ft⟩] w (StepJ w0 pb b c f) := by
  obtain ⟨WA, hWA, PA0, BA0⟩ := plJ_start h ⟨kind, i, n, v, size, fill, .slice ka ft.kept.length kc, ft⟩
  have HWA := Lib.hid hWA
  simp only at HWA
  have PA := Lib.hid PA0
  have BA := Lib.hid BA0
  have HE := Lib.hid hE
  have HT := Lib.hid hT
  have HF2 := Lib.hid hf2
  have OBI := Lib.hid (show (fun k => I k ∨ k = w.heap.size) w.heap.size from .inr rfl)
  obtain ⟨c0, c1, c2, c3, c4, c5, c6, c7, c8⟩ := BA0.cells
  obtain ⟨x0, x1, x2, x3⟩ := PA0.box.cells
  simp only at c0 c1 c2 c3 c4 c5 c6 c7 c8
  have KC := Lib.hid (fun (W : World) (o : OpBox W w.heap.size ⟨kind, i, n, v, size, fill, .slice ka ft.kept.length kc, ft⟩) => o.cells)
  simp only at KC
  have KP := Lib.hid (fun (W : World) (o : PrBox W pb b c jv qv) => o.cells)
  have OBW := Lib.hid (fun (W : World) (k : Qt WA W) => (show OpBox W w.heap.size ⟨kind, i, n, v, size, fill, .slice ka ft.kept.length kc, ft⟩ from (k.block w.heap.size (lt_of_block BA0) (fun e => e)).trans BA0))
  clear h hWA PA0 BA0 hE hT hf2
  generalize hI : (fun k => I k ∨ k = w.heap.size) = I' at *
  clear hI
  have hwa := HWA.out
  clear HWA
  subst hwa
  unfold OpJ.val OpJ.list
  have y1 : (kind == 1) = false := beq_eq_false_iff_ne.2 (hk 1 (by decide) (by decide))
  have y2 : (kind == 2) = false := beq_eq_false_iff_ne.2 (hk 2 (by decide) (by decide))
  have y3 : (kind == 3) = false := beq_eq_false_iff_ne.2 (hk 3 (by decide) (by decide))
  have y4 : (kind == 4) = false := beq_eq_false_iff_ne.2 (hk 4 (by decide) (by decide))
  have y5 : (kind == 5) = false := beq_eq_false_iff_ne.2 (hk 5 (by decide) (by decide))
  have y6 : (kind == 6) = false := beq_eq_false_iff_ne.2 (hk 6 (by decide) (by decide))
  have y7 : (kind == 7) = false := beq_eq_false_iff_ne.2 (hk 7 (by decide) (by decide))
  have y8 : (kind == 8) = false := beq_eq_false_iff_ne.2 (hk 8 (by decide) (by decide))
  have y9 : (kind == 9) = false := beq_eq_false_iff_ne.2 (hk 9 (by decide) (by decide))
  have FIN := Lib.hid PA.out.step
  cases jv with
  | none =>
    go_enter Tryd.func12, Tryd.ntmps12
    go_wp2
    go_ret
    exact FIN.out
  | some jp =>
    go_enter Tryd.func12, Tryd.ntmps12
    go_wp2
    go_ret
    exact FIN.out
set_option maxHeartbeats 3200000 in
theorem stepJ_arm (hE : Errs ad w0) (hT : Tab w0) (h : Pl w0 w I pb b c f d jv qv) (hf2 : f ≤ 1000000000) (i n v size fill : Int) (ka : Option Addr) (kc : Nat) (ft : FT) (hn : n ≤ 9223372036854775807) :
    Calls Tryd.prog 12 #[.pointer (some ⟨pb, 0, none⟩), OpJ.val ⟨6, i, n, v, size, fill, .slice ka ft.kept.length kc, ft⟩] w (StepJ w0 pb b c f) := by
  obtain ⟨WA, hWA, PA0, BA0⟩ := plJ_start h ⟨6, i, n, v, size, fill, .slice ka ft.kept.length kc, ft⟩
  have HWA := Lib.hid hWA
  simp only at HWA
  have PA := Lib.hid PA0
  have BA := Lib.hid BA0
  have HE := Lib.hid hE
  have HT := Lib.hid hT
  have HF2 := Lib.hid hf2
  have OBI := Lib.hid (show (fun k => I k ∨ k = w.heap.size) w.heap.size from .inr rfl)
  obtain ⟨c0, c1, c2, c3, c4, c5, c6, c7, c8⟩ := BA0.cells
  obtain ⟨x0, x1, x2, x3⟩ := PA0.box.cells
  simp only at c0 c1 c2 c3 c4 c5 c6 c7 c8
  have KC := Lib.hid (fun (W : World) (o : OpBox W w.heap.size ⟨6, i, n, v, size, fill, .slice ka ft.kept.length kc, ft⟩) => o.cells)
  simp only at KC
  have KP := Lib.hid (fun (W : World) (o : PrBox W pb b c jv qv) => o.cells)
  have OBW := Lib.hid (fun (W : World) (k : Qt WA W) => (show OpBox W w.heap.size ⟨6, i, n, v, size, fill, .slice ka ft.kept.length kc, ft⟩ from (k.block w.heap.size (lt_of_block BA0) (fun e => e)).trans BA0))
  clear h hWA PA0 BA0 hE hT hf2
  generalize hI : (fun k => I k ∨ k = w.heap.size) = I' at *
  clear hI
  have hwa := HWA.out
  clear HWA
  subst hwa
  unfold OpJ.val OpJ.list
  have KPB := Lib.hid (fun (W W' : World) (K : Keeps (OutJ w0 I') W W') (o : PrBox W pb b c jv qv) => (show PrBox W' pb b c jv qv from (K.block pb (lt_of_block o) (fun e => e.2 PA.out.mine)).trans o))
  have KOB := Lib.hid (fun (W W' : World) (K : Keeps (OutJ w0 I') W W') (o : OpBox W w.heap.size ⟨6, i, n, v, size, fill, .slice ka ft.kept.length kc, ft⟩) => (show OpBox W' w.heap.size ⟨6, i, n, v, size, fill, .slice ka ft.kept.length kc, ft⟩ from (K.block w.heap.size (lt_of_block o) (fun e => e.2 OBI.out)).trans o))
  have KHI := Lib.hid (fun (W W' : World) (K : Keeps (OutJ w0 I') W W') (h : ∀ k, I' k → k < W.heap.size) => (show ∀ k, I' k → k < W'.heap.size from fun k e => Nat.lt_of_lt_of_le (h k e) K.size))
  have KTR := Lib.hid (fun (W W' W'' : World) (K : Keeps (OutJ w0 I') W W') (K' : Keeps (OutJ w0 I') W' W'') => (show Keeps (OutJ w0 I') W W'' from Keeps.trans K K' (fun _ _ h => h)))
  have FN := Lib.hid PA.out.few
  have FW := Lib.hid (show d.Few from PA.out.few.few (Nat.le_trans HF2.out (by decide)))
  have HN := Lib.hid hn
  clear hn
  have OBs := Lib.hid BA.out
  have PPs := Lib.hid PA.out.pair
  have PBs := Lib.hid PA.out.box
  have HIGs := Lib.hid PA.out.high
  have KKs := Lib.hid (Keeps.refl (OutJ w0 I') (w.alloc (.cells #[.int .i64 6, .int .i64 i, .int .i64 n, .int .i64 v, .int .i64 size, .int .i64 fill, .slice ka ft.kept.length kc, .int .i64 ft.torn, .int .i64 ft.bytes] 42)))
  clear c0 c1 c2 c3 c4 c5 c6 c7 c8 x0 x1 x2 x3
  obtain ⟨c0, _⟩ := KC.out _ OBs.out
  obtain ⟨_, _, x2, _⟩ := KP.out _ PBs.out
  go_enter Tryd.func12, Tryd.ntmps12
  go_wp2_with fail
  clear c0 x2
  have PPd := Lib.hid (PPs.out.qt (Keeps.drew (Qt.refl _)))
  have PBd := Lib.hid (KPB.out _ _ (Keeps.drew (Keeps.refl _ _)) PBs.out)
  have OBd := Lib.hid (KOB.out _ _ (Keeps.drew (Keeps.refl _ _)) OBs.out)
  have HIGd := Lib.hid (KHI.out _ _ (Keeps.drew (Keeps.refl _ _)) HIGs.out)
  have KKd := Lib.hid (Keeps.drew KKs.out)
  go_region_held3 (fun W => W.cell? ⟨pb, 0, none⟩ = some (.pointer (some ⟨b, 0, none⟩)) ∧ W.cell? ⟨w.heap.size, 2, none⟩ = some (.int .i64 n))
    (first | exact ⟨(KP.out _ (Hid.out (by assumption))).1, (KC.out _ (Hid.out (by assumption))).2.2.1⟩)
    (first
      | (go_at_call 36; refine (pairJ_arm HIGd.out PPd.out n HN.out).mono ?_; rintro e w1 ⟨rfl, p1, k1⟩; have PP1 := Lib.hid p1; have PB1 := Lib.hid (KPB.out _ _ k1 PBd.out); have OB1 := Lib.hid (KOB.out _ _ k1 OBd.out); have KK1 := Lib.hid (KTR.out _ _ _ KKd.out k1); have HIG1 := Lib.hid (KHI.out _ _ k1 HIGd.out); clear p1 k1))
  go_wp2_with fail
  have PPe := Lib.hid (PP1.out.qt (Keeps.drew (Qt.refl _)))
  have PBe := Lib.hid (KPB.out _ _ (Keeps.drew (Keeps.refl _ _)) PB1.out)
  have OBe := Lib.hid (KOB.out _ _ (Keeps.drew (Keeps.refl _ _)) OB1.out)
  have HIGe := Lib.hid (KHI.out _ _ (Keeps.drew (Keeps.refl _ _)) HIG1.out)
  have KKe := Lib.hid (Keeps.drew KK1.out)
  go_region_held3 (fun W => W.cell? ⟨pb, 1, none⟩ = some (.pointer (some ⟨c, 0, none⟩)) ∧ W.cell? ⟨w.heap.size, 2, none⟩ = some (.int .i64 n))
    (first | exact ⟨(KP.out _ (Hid.out (by assumption))).2.1, (KC.out _ (Hid.out (by assumption))).2.2.1⟩)
    (first
      | (go_at_call 37; refine (pairJR_arm HIGe.out PPe.out n HN.out).mono ?_; rintro e w2 ⟨rfl, p2, k2⟩; have PP2 := Lib.hid p2; have PB2 := Lib.hid (KPB.out _ _ k2 PBe.out); have OB2 := Lib.hid (KOB.out _ _ k2 OBe.out); have KK2 := Lib.hid (KTR.out _ _ _ KKe.out k2); have HIG2 := Lib.hid (KHI.out _ _ k2 HIGe.out); clear p2 k2))
  have FIN := Lib.hid (show StepJ w0 pb b c f (.returned (.bool true)) w2 from ⟨rfl, _, _, _, _, PA.out.disks PP2.out KK2.out (fun j hF => hF.arm n) ((fewN_arm FN.out n).mono (by omega))⟩)
  obtain ⟨c0, _⟩ := KC.out _ OB2.out
  obtain ⟨_, _, x2, _⟩ := KP.out _ PB2.out
  clear KC KP KPB KOB KHI KTR
  cases jv with
  | none =>
    go_wp2
    go_ret
    exact FIN.out
  | some jp =>
    go_wp2
    go_ret
    exact FIN.out
end
end Go.Proofs.YtggogaaooacooaaDoor
namespace Go.Proofs.YtggogaaooacooaaDoor
open Go.RowKit Go.WideShapes
set_option maxRecDepth 100000
section
variable {ad : Nat → Addr} {w0 w : World} {I : Nat → Prop} {pb b c f : Nat} {d : DS} {jv qv : Option Addr}
set_option maxHeartbeats 3200000 in
theorem stepJ_crash (hE : Errs ad w0) (hT : Tab w0) (h : Pl w0 w I pb b c f d jv qv) (hf2 : f ≤ 1000000000) (i n v size fill : Int) (ka : Option Addr) (kc : Nat) (ft : FT) (hv : Bools w0 (.slice ka ft.kept.length kc) ft.kept) :
    Calls Tryd.prog 12 #[.pointer (some ⟨pb, 0, none⟩), OpJ.val ⟨7, i, n, v, size, fill, .slice ka ft.kept.length kc, ft⟩] w (StepJ w0 pb b c f) := by
  obtain ⟨WA, hWA, PA0, BA0⟩ := plJ_start h ⟨7, i, n, v, size, fill, .slice ka ft.kept.length kc, ft⟩
  have HWA := Lib.hid hWA
  simp only at HWA
  have PA := Lib.hid PA0
  have BA := Lib.hid BA0
  have HE := Lib.hid hE
  have HT := Lib.hid hT
  have HF2 := Lib.hid hf2
  have OBI := Lib.hid (show (fun k => I k ∨ k = w.heap.size) w.heap.size from .inr rfl)
  obtain ⟨c0, c1, c2, c3, c4, c5, c6, c7, c8⟩ := BA0.cells
  obtain ⟨x0, x1, x2, x3⟩ := PA0.box.cells
  simp only at c0 c1 c2 c3 c4 c5 c6 c7 c8
  have KC := Lib.hid (fun (W : World) (o : OpBox W w.heap.size ⟨7, i, n, v, size, fill, .slice ka ft.kept.length kc, ft⟩) => o.cells)
  simp only at KC
  have KP := Lib.hid (fun (W : World) (o : PrBox W pb b c jv qv) => o.cells)
  have OBW := Lib.hid (fun (W : World) (k : Qt WA W) => (show OpBox W w.heap.size ⟨7, i, n, v, size, fill, .slice ka ft.kept.length kc, ft⟩ from (k.block w.heap.size (lt_of_block BA0) (fun e => e)).trans BA0))
  clear h hWA PA0 BA0 hE hT hf2
  generalize hI : (fun k => I k ∨ k = w.heap.size) = I' at *
  clear hI
  have hwa := HWA.out
  clear HWA
  subst hwa
  unfold OpJ.val OpJ.list
  have KPB := Lib.hid (fun (W W' : World) (K : Keeps (OutJ w0 I') W W') (o : PrBox W pb b c jv qv) => (show PrBox W' pb b c jv qv from (K.block pb (lt_of_block o) (fun e => e.2 PA.out.mine)).trans o))
  have KOB := Lib.hid (fun (W W' : World) (K : Keeps (OutJ w0 I') W W') (o : OpBox W w.heap.size ⟨7, i, n, v, size, fill, .slice ka ft.kept.length kc, ft⟩) => (show OpBox W' w.heap.size ⟨7, i, n, v, size, fill, .slice ka ft.kept.length kc, ft⟩ from (K.block w.heap.size (lt_of_block o) (fun e => e.2 OBI.out)).trans o))
  have KHI := Lib.hid (fun (W W' : World) (K : Keeps (OutJ w0 I') W W') (h : ∀ k, I' k → k < W.heap.size) => (show ∀ k, I' k → k < W'.heap.size from fun k e => Nat.lt_of_lt_of_le (h k e) K.size))
  have KTR := Lib.hid (fun (W W' W'' : World) (K : Keeps (OutJ w0 I') W W') (K' : Keeps (OutJ w0 I') W' W'') => (show Keeps (OutJ w0 I') W W'' from Keeps.trans K K' (fun _ _ h => h)))
  have FN := Lib.hid PA.out.few
  have FW := Lib.hid (show d.Few from PA.out.few.few (Nat.le_trans HF2.out (by decide)))
  have HV := Lib.hid hv
  clear hv
  have OBs := Lib.hid BA.out
  have PPs := Lib.hid PA.out.pair
  have PBs := Lib.hid PA.out.box
  have HIGs := Lib.hid PA.out.high
  have KKs := Lib.hid (Keeps.refl (OutJ w0 I') (w.alloc (.cells #[.int .i64 7, .int .i64 i, .int .i64 n, .int .i64 v, .int .i64 size, .int .i64 fill, .slice ka ft.kept.length kc, .int .i64 ft.torn, .int .i64 ft.bytes] 42)))
  clear c0 c1 c2 c3 c4 c5 c6 c7 c8 x0 x1 x2 x3
  obtain ⟨c0, _⟩ := KC.out _ OBs.out
  obtain ⟨_, _, x2, _⟩ := KP.out _ PBs.out
  go_enter Tryd.func12, Tryd.ntmps12
  go_wp2_with fail
  clear c0 x2
  have PPd := Lib.hid (PPs.out.qt (Keeps.drew (Qt.refl _)))
  have PBd := Lib.hid (KPB.out _ _ (Keeps.drew (Keeps.refl _ _)) PBs.out)
  have OBd := Lib.hid (KOB.out _ _ (Keeps.drew (Keeps.refl _ _)) OBs.out)
  have HIGd := Lib.hid (KHI.out _ _ (Keeps.drew (Keeps.refl _ _)) HIGs.out)
  have KKd := Lib.hid (Keeps.drew KKs.out)
  go_region_held3 (fun W => W.cell? ⟨pb, 0, none⟩ = some (.pointer (some ⟨b, 0, none⟩)) ∧ W.cell? ⟨w.heap.size, 6, none⟩ = some (.slice ka ft.kept.length kc) ∧ W.cell? ⟨w.heap.size, 7, none⟩ = some (.int .i64 ft.torn) ∧ W.cell? ⟨w.heap.size, 8, none⟩ = some (.int .i64 ft.bytes))
    (first | exact ⟨(KP.out _ (Hid.out (by assumption))).1, (KC.out _ (Hid.out (by assumption))).2.2.2.2.2.2.1, (KC.out _ (Hid.out (by assumption))).2.2.2.2.2.2.2.1, (KC.out _ (Hid.out (by assumption))).2.2.2.2.2.2.2.2⟩)
    (first
      | (go_at_call 38; refine (pairJ_crash HIGd.out PPd.out FW.out (.slice ka ft.kept.length kc) ft (HV.out.kept PPd.out.since (fun a n cc e hn q => by have := HV.out.block a n cc e hn; omega)) (fun a n cc e hn => .inr (HV.out.block a n cc e hn))).mono ?_; rintro e w1 ⟨rfl, p1, k1⟩; have PP1 := Lib.hid p1; have PB1 := Lib.hid (KPB.out _ _ k1 PBd.out); have OB1 := Lib.hid (KOB.out _ _ k1 OBd.out); have KK1 := Lib.hid (KTR.out _ _ _ KKd.out k1); have HIG1 := Lib.hid (KHI.out _ _ k1 HIGd.out); clear p1 k1))
  go_wp2_with fail
  have PPe := Lib.hid (PP1.out.qt (Keeps.drew (Qt.refl _)))
  have PBe := Lib.hid (KPB.out _ _ (Keeps.drew (Keeps.refl _ _)) PB1.out)
  have OBe := Lib.hid (KOB.out _ _ (Keeps.drew (Keeps.refl _ _)) OB1.out)
  have HIGe := Lib.hid (KHI.out _ _ (Keeps.drew (Keeps.refl _ _)) HIG1.out)
  have KKe := Lib.hid (Keeps.drew KK1.out)
  go_region_held3 (fun W => W.cell? ⟨pb, 1, none⟩ = some (.pointer (some ⟨c, 0, none⟩)) ∧ W.cell? ⟨w.heap.size, 6, none⟩ = some (.slice ka ft.kept.length kc) ∧ W.cell? ⟨w.heap.size, 7, none⟩ = some (.int .i64 ft.torn) ∧ W.cell? ⟨w.heap.size, 8, none⟩ = some (.int .i64 ft.bytes))
    (first | exact ⟨(KP.out _ (Hid.out (by assumption))).2.1, (KC.out _ (Hid.out (by assumption))).2.2.2.2.2.2.1, (KC.out _ (Hid.out (by assumption))).2.2.2.2.2.2.2.1, (KC.out _ (Hid.out (by assumption))).2.2.2.2.2.2.2.2⟩)
    (first
      | (go_at_call 39; refine (pairJR_crash HIGe.out PPe.out FW.out (.slice ka ft.kept.length kc) ft (HV.out.kept PPe.out.since (fun a n cc e hn q => by have := HV.out.block a n cc e hn; omega)) (fun a n cc e hn => .inr (HV.out.block a n cc e hn))).mono ?_; rintro e w2 ⟨rfl, p2, k2⟩; have PP2 := Lib.hid p2; have PB2 := Lib.hid (KPB.out _ _ k2 PBe.out); have OB2 := Lib.hid (KOB.out _ _ k2 OBe.out); have KK2 := Lib.hid (KTR.out _ _ _ KKe.out k2); have HIG2 := Lib.hid (KHI.out _ _ k2 HIGe.out); clear p2 k2))
  have FIN := Lib.hid (show StepJ w0 pb b c f (.returned (.bool true)) w2 from ⟨rfl, _, _, _, _, PA.out.disks PP2.out KK2.out (fun j hF => hF.crash ft) ((fewN_crash FN.out ft).mono (by omega))⟩)
  obtain ⟨c0, _⟩ := KC.out _ OB2.out
  obtain ⟨_, _, x2, _⟩ := KP.out _ PB2.out
  clear KC KP KPB KOB KHI KTR
  cases jv with
  | none =>
    go_wp2
    go_ret
    exact FIN.out
  | some jp =>
    go_wp2
    go_ret
    exact FIN.out
end
end Go.Proofs.YtggogaaooacooaaDoor
