/-
  The contract of remitlaw10's step: Begin.
  The contract of remitlaw10's step: any Op.
  The contract of remitlaw10.JournalPlays: it answers true.
-/
import Derived.Test.YtggogaaooacooaaDoorP43
import Derived.Test.YtggogaaooacooaaDoorP37
import Derived.Deep.RegionHeld3
import Derived.Test.YtggogaaooacooaaDoorP44
import Derived.Test.YtggogaaooacooaaDoorP45
import Derived.Test.YtggogaaooacooaaDoorP41
import Derived.Test.YtggogaaooacooaaDoorP30
import Derived.BigQuiet
import Derived.Deep.DeepCutAuto
import Derived.Outline
namespace Go.Proofs.YtggogaaooacooaaDoor
open Go.RowKit Go.WideShapes
set_option maxRecDepth 100000
section
variable {ad : Nat → Addr} {w0 w : World} {I : Nat → Prop} {pb b c f : Nat} {d : DS} {jv qv : Option Addr}
theorem refE_cases (d : DS) (i n v : Int) : J.refE d i n v = 0 ∨ J.refE d i n v = 6 ∨ J.refE d i n v = 12 := by
  unfold J.refE
  repeat' split
  all_goals omega
theorem PairJ.turnedAt {q : Nat} {w' : World} {u : DS} (h : PairJ I w0 w b c d u) (hI : ∀ k, I k → w0.heap.size ≤ k) (hq : I q) (K : Keeps (fun k => k = q) w w') : PairJ I w0 w' b c d u := by
  obtain ⟨S, T, h1, h2, h3, h4, h5, h6⟩ := h
  have hz := K.size
  exact ⟨S, T, h1.kept K (fun k e r => (h4 k e).2.2 (r ▸ hq)), h2.kept K (fun k e r => (h5 k e).2.2 (r ▸ hq)), h3, fun k e => ⟨(h4 k e).1, Nat.lt_of_lt_of_le (h4 k e).2.1 hz, (h4 k e).2.2⟩, fun k e => ⟨(h5 k e).1, Nat.lt_of_lt_of_le (h5 k e).2.1 hz, (h5 k e).2.2⟩, h6.step K (fun k e => by rw [e]; exact hI q hq)⟩
/-- The pair's box behind Begin's stores. -/
theorem PrBox.put {W : World} (h : PrBox W pb b c jv qv) (j' q' : Option Addr) : PrBox ((W.setCell ⟨pb, 2, none⟩ (.pointer j')).setCell ⟨pb, 3, none⟩ (.pointer q')) pb b c j' q' := by
  unfold PrBox at h ⊢
  simp only [World.setCell, Array.getElem?_modify, h, if_true, Option.map_some]
  rfl
/-- Behind Begin over both disks, and the stores. -/
theorem Pl.begun {W W1 W4 : World} {q1 q2 : Nat} {j : J.JS} (h : Pl w0 W I pb b c f d jv qv) (h1 : W.heap.size ≤ q1) (h2 : q1 < W1.heap.size) (h3 : W1.heap.size ≤ q2) (q : Qt W W4) (hC : CJ W4 q1 b j) (hR : RJ W4 q2 c j) (hF : J.Fine j d) :
    StepJ w0 pb b c f (.returned (.bool true)) ((W4.setCell ⟨pb, 2, none⟩ (.pointer (some ⟨q1, 0, none⟩))).setCell ⟨pb, 3, none⟩ (.pointer (some ⟨q2, 0, none⟩))) := by
  have hp := h.high _ h.mine
  have hs := h.pair.since.size
  have hz := q.size
  have hc := lt_of_block hC
  have hr := lt_of_block hR
  have PB : PrBox W4 pb b c jv qv := (q.block pb hp (fun e => e)).trans h.box
  have K : Keeps (fun k => k = pb) W4 ((W4.setCell ⟨pb, 2, none⟩ (.pointer (some ⟨q1, 0, none⟩))).setCell ⟨pb, 3, none⟩ (.pointer (some ⟨q2, 0, none⟩))) := Keeps.trans (keeps_setCell W4 pb 2 _) (keeps_setCell _ pb 3 _) (fun _ _ e => e)
  have P4 : PairJ (fun k => I k ∨ k = q1 ∨ k = q2) w0 W4 b c d d := (h.pair.more (I := fun k => I k ∨ k = q1 ∨ k = q2) (fun k e => by
    rcases e with e | e | e
    · exact .inl e
    · exact .inr (by omega)
    · exact .inr (by omega))).qt q
  have low : ∀ k, (I k ∨ k = q1 ∨ k = q2) → w0.heap.size ≤ k := fun k e => by
    rcases e with e | e | e
    · exact h.low k e
    · omega
    · omega
  have kz := K.size
  refine ⟨rfl, fun k => I k ∨ k = q1 ∨ k = q2, d, some ⟨q1, 0, none⟩, some ⟨q2, 0, none⟩, P4.turnedAt low (.inl h.mine) K, .inl h.mine, low, fun k e => ?_, PB.put _ _, .inr ⟨q1, q2, j, rfl, rfl, .inr (.inl rfl), .inr (.inr rfl), by omega, by omega, by omega, hC.kept K (fun e => by omega), hR.kept K (fun e => by omega), hF⟩, h.few.mono (by omega)⟩
  rcases e with e | e | e
  · have := h.high k e; omega
  · omega
  · omega
set_option maxHeartbeats 3200000 in
theorem stepJ_begin (hE : Errs ad w0) (hT : Tab w0) (h : Pl w0 w I pb b c f d jv qv) (hf2 : f ≤ 1000000000) (i n v size fill : Int) (ka : Option Addr) (kc : Nat) (ft : FT) (hn : n ≤ 9223372036854775807) :
    Calls Tryd.prog 12 #[.pointer (some ⟨pb, 0, none⟩), OpJ.val ⟨1, i, n, v, size, fill, .slice ka ft.kept.length kc, ft⟩] w (StepJ w0 pb b c f) := by
  obtain ⟨WA, hWA, PA0, BA0⟩ := plJ_start h ⟨1, i, n, v, size, fill, .slice ka ft.kept.length kc, ft⟩
  have HWA := Lib.hid hWA
  simp only at HWA
  have PA := Lib.hid PA0
  have BA := Lib.hid BA0
  have HE := Lib.hid hE
  have HT := Lib.hid hT
  have HF2 := Lib.hid hf2
  have OBI := Lib.hid (show (fun k => I k ∨ k = w.heap.size) w.heap.size from .inr rfl)
  obtain ⟨c0, c1, c2, c3, c4, c5, c6, c7, c8⟩ := BA0.cells
  obtain ⟨x0, x1, x2, x3⟩ := PA0.box.cells
  simp only at c0 c1 c2 c3 c4 c5 c6 c7 c8
  have KC := Lib.hid (fun (W : World) (o : OpBox W w.heap.size ⟨1, i, n, v, size, fill, .slice ka ft.kept.length kc, ft⟩) => o.cells)
  simp only at KC
  have KP := Lib.hid (fun (W : World) (o : PrBox W pb b c jv qv) => o.cells)
  have OBW := Lib.hid (fun (W : World) (k : Qt WA W) => (show OpBox W w.heap.size ⟨1, i, n, v, size, fill, .slice ka ft.kept.length kc, ft⟩ from (k.block w.heap.size (lt_of_block BA0) (fun e => e)).trans BA0))
  have NPB := Lib.hid (show pb ≠ w.heap.size from Nat.ne_of_lt (h.high _ h.mine))
  clear h hWA PA0 BA0 hE hT hf2
  generalize hI : (fun k => I k ∨ k = w.heap.size) = I' at *
  clear hI
  have hwa := HWA.out
  clear HWA
  subst hwa
  unfold OpJ.val OpJ.list
  have PAs := PA.out
  have PLs := Lib.hid PAs
  have BK := Lib.hid (fun W (q : Qt (w.alloc (.cells #[.int .i64 1, .int .i64 i, .int .i64 n, .int .i64 v, .int .i64 size, .int .i64 fill, .slice ka ft.kept.length kc, .int .i64 ft.torn, .int .i64 ft.bytes] 42)) W) => pairK_begin HE.out (PAs.pair.qt q) i n v hn)
  have BR := Lib.hid (fun W (q : Qt (w.alloc (.cells #[.int .i64 1, .int .i64 i, .int .i64 n, .int .i64 v, .int .i64 size, .int .i64 fill, .slice ka ft.kept.length kc, .int .i64 ft.torn, .int .i64 ft.bytes] 42)) W) => rbegin_any ((PAs.pair.qt q).pair PAs.mine) i n v)
  have PPQ := Lib.hid (fun W (q : Qt (w.alloc (.cells #[.int .i64 1, .int .i64 i, .int .i64 n, .int .i64 v, .int .i64 size, .int .i64 fill, .slice ka ft.kept.length kc, .int .i64 ft.torn, .int .i64 ft.bytes] 42)) W) => (PAs.pair.qt q).since)
  have FIN := Lib.hid (fun W (q : Qt (w.alloc (.cells #[.int .i64 1, .int .i64 i, .int .i64 n, .int .i64 v, .int .i64 size, .int .i64 fill, .slice ka ft.kept.length kc, .int .i64 ft.torn, .int .i64 ft.bytes] 42)) W) => (show StepJ w0 pb b c f (.returned (.bool true)) W from (PAs.qt q).step))
  have PBX := Lib.hid (fun W (q : Qt (w.alloc (.cells #[.int .i64 1, .int .i64 i, .int .i64 n, .int .i64 v, .int .i64 size, .int .i64 fill, .slice ka ft.kept.length kc, .int .i64 ft.torn, .int .i64 ft.bytes] 42)) W) => (show PrBox W pb b c jv qv from (PAs.qt q).box))
  have PBQ := Lib.hid (fun W (q : Qt (w.alloc (.cells #[.int .i64 1, .int .i64 i, .int .i64 n, .int .i64 v, .int .i64 size, .int .i64 fill, .slice ka ft.kept.length kc, .int .i64 ft.torn, .int .i64 ft.bytes] 42)) W) => (PBX.out W q).cells)
  have OBQ := Lib.hid (fun W (q : Qt (w.alloc (.cells #[.int .i64 1, .int .i64 i, .int .i64 n, .int .i64 v, .int .i64 size, .int .i64 fill, .slice ka ft.kept.length kc, .int .i64 ft.torn, .int .i64 ft.bytes] 42)) W) => KC.out _ (OBW.out W q))
  have QD := Lib.hid (Keeps.drew (Qt.refl (w.alloc (.cells #[.int .i64 1, .int .i64 i, .int .i64 n, .int .i64 v, .int .i64 size, .int .i64 fill, .slice ka ft.kept.length kc, .int .i64 ft.torn, .int .i64 ft.bytes] 42))))
  have LE := Lib.hid (J.refE_le d i n v)
  clear PAs KP KC OBW BA HT c1 c2 c3 c4 c5 c6 c7 c8 x0 x1 x2 x3 hn
  by_cases hk : J.refE d i n v = 0
  · have FB := Lib.hid (J.Fine.begin hk)
    have BK0 := Lib.hid (fun W q => (BK.out W q).mono (fun e w' h => (show Qt W w' ∧ ∃ q1, W.heap.size ≤ q1 ∧ e = .returned (.tuple #[.pointer (some ⟨q1, 0, none⟩), .nilIface]) ∧ CJ w' q1 b ⟨i.toNat, n.toNat, v.toNat, 0, false, d.cr⟩ from ⟨h.1, by have := h.2; rw [if_pos hk] at this; exact this⟩)))
    have BR0 := Lib.hid (fun W q => (BR.out W q).mono (fun e w' h => (show Qt W w' ∧ ∃ q1, W.heap.size ≤ q1 ∧ e = .returned (.tuple #[.pointer (some ⟨q1, 0, none⟩), .int .i64 0]) ∧ RJ w' q1 c ⟨i.toNat, n.toNat, v.toNat, 0, false, d.cr⟩ from ⟨h.1, by have := h.2; rw [if_pos hk] at this; exact this⟩)))
    clear BK BR hk
    go_enter Tryd.func12, Tryd.ntmps12
    go_wp2_with fail
    clear c0
    go_region_held3 (fun W => W.cell? ⟨pb, 0, none⟩ = some (.pointer (some ⟨b, 0, none⟩)) ∧ W.cell? ⟨w.heap.size, 1, none⟩ = some (.int .i64 i) ∧ W.cell? ⟨w.heap.size, 2, none⟩ = some (.int .i64 n) ∧ W.cell? ⟨w.heap.size, 3, none⟩ = some (.int .i64 v))
      (first | exact ⟨(PBQ.out _ (Hid.out (by assumption))).1, (OBQ.out _ (Hid.out (by assumption))).2.1, (OBQ.out _ (Hid.out (by assumption))).2.2.1, (OBQ.out _ (Hid.out (by assumption))).2.2.2.1⟩)
      (first
        | (go_at_call 23; refine (BK0.out _ QD.out).mono ?_; rintro e w1 ⟨q1, a1, l1, rfl, j1⟩; have Q1 := Lib.hid (Qt.trans QD.out q1); have L1 := Lib.hid l1; have J1 := Lib.hid j1; clear q1 l1 j1))
    go_wp2_with fail
    have QE := Lib.hid (Keeps.drew Q1.out)
    go_region_held3 (fun W => W.cell? ⟨pb, 1, none⟩ = some (.pointer (some ⟨c, 0, none⟩)) ∧ W.cell? ⟨w.heap.size, 1, none⟩ = some (.int .i64 i) ∧ W.cell? ⟨w.heap.size, 2, none⟩ = some (.int .i64 n) ∧ W.cell? ⟨w.heap.size, 3, none⟩ = some (.int .i64 v))
      (first | exact ⟨(PBQ.out _ (Hid.out (by assumption))).2.1, (OBQ.out _ (Hid.out (by assumption))).2.1, (OBQ.out _ (Hid.out (by assumption))).2.2.1, (OBQ.out _ (Hid.out (by assumption))).2.2.2.1⟩)
      (first
        | (go_at_call 35; refine (BR0.out _ QE.out).mono ?_; rintro e w2 ⟨q2, a2, l2, rfl, j2⟩; have Q2 := Lib.hid (Qt.trans QE.out q2); have K2 := Lib.hid q2; have L2 := Lib.hid l2; have J2 := Lib.hid j2; clear q2 l2 j2))
    go_wp2_with fail
    refine (num_any ad 0 w2 (errs_since HE.out (PPQ.out _ Q2.out)) (by decide)).mono ?_
    rintro e w3 ⟨rfl, q3⟩
    have Q3 := Lib.hid (Qt.trans Q2.out q3)
    have FN := Lib.hid (Pl.begun PLs.out L1.out (show a1 < w1.heap.size from lt_of_block J1.out) L2.out Q3.out ((J1.out.kept (Qt.trans (Keeps.drew (Qt.refl w1)) (Qt.trans K2.out q3)) (fun e => e))) (J2.out.kept q3 (fun e => e)) FB.out)
    clear q3
    have r2 := Lib.frozen_of_heap (PBX.out w3 Q3.out) 2
    have r3 := Lib.frozen_of_heap (PBX.out w3 Q3.out) 3
    obtain ⟨x0, x1, x2, x3⟩ := PBQ.out w3 Q3.out
    obtain ⟨y0, y1, y2, y3⟩ := ((PBX.out w3 Q3.out).put (some ⟨a1, 0, none⟩) (some ⟨a2, 0, none⟩)).cells
    obtain ⟨z, _⟩ := OBQ.out w3 Q3.out
    have z0 : ((w3.setCell ⟨pb, 2, none⟩ (.pointer (some ⟨a1, 0, none⟩))).setCell ⟨pb, 3, none⟩ (.pointer (some ⟨a2, 0, none⟩))).cell? ⟨w.heap.size, 0, none⟩ = some (.int .i64 1) := by
      rw [World.cell?_setCell_far _ _ _ _ (show (⟨pb, 3, none⟩ : Addr).block ≠ (⟨w.heap.size, 0, none⟩ : Addr).block from NPB.out), World.cell?_setCell_far _ _ _ _ (show (⟨pb, 2, none⟩ : Addr).block ≠ (⟨w.heap.size, 0, none⟩ : Addr).block from NPB.out)]
      exact z
    clear z
    go_wp2
    go_ret
    exact FN.out
  · have BK0 := Lib.hid (fun W q => (BK.out W q).mono (fun e w' h => (show Qt W w' ∧ e = .returned (.tuple #[.pointer none, errV ad (J.refE d i n v)]) from ⟨h.1, by have := h.2; rw [if_neg hk] at this; exact this⟩)))
    have BR0 := Lib.hid (fun W q => (BR.out W q).mono (fun e w' h => (show Qt W w' ∧ e = .returned (.tuple #[.pointer none, .int .i64 (J.refE d i n v)]) from ⟨h.1, by have := h.2; rw [if_neg hk] at this; exact this⟩)))
    clear BK BR
    have hk2 := (refE_cases d i n v).resolve_left hk
    generalize J.refE d i n v = k at *
    clear hk
    rcases hk2 with rfl | rfl
    all_goals
      go_enter Tryd.func12, Tryd.ntmps12
      go_wp2_with fail
      clear c0
      go_region_held3 (fun W => W.cell? ⟨pb, 0, none⟩ = some (.pointer (some ⟨b, 0, none⟩)) ∧ W.cell? ⟨w.heap.size, 1, none⟩ = some (.int .i64 i) ∧ W.cell? ⟨w.heap.size, 2, none⟩ = some (.int .i64 n) ∧ W.cell? ⟨w.heap.size, 3, none⟩ = some (.int .i64 v))
        (first | exact ⟨(PBQ.out _ (Hid.out (by assumption))).1, (OBQ.out _ (Hid.out (by assumption))).2.1, (OBQ.out _ (Hid.out (by assumption))).2.2.1, (OBQ.out _ (Hid.out (by assumption))).2.2.2.1⟩)
        (first
          | (go_at_call 23; refine (BK0.out _ QD.out).mono ?_; rintro e w1 ⟨q1, rfl⟩; have Q1 := Lib.hid (Qt.trans QD.out q1); clear q1))
      go_wp2_with fail
      have QE := Lib.hid (Keeps.drew Q1.out)
      go_region_held3 (fun W => W.cell? ⟨pb, 1, none⟩ = some (.pointer (some ⟨c, 0, none⟩)) ∧ W.cell? ⟨w.heap.size, 1, none⟩ = some (.int .i64 i) ∧ W.cell? ⟨w.heap.size, 2, none⟩ = some (.int .i64 n) ∧ W.cell? ⟨w.heap.size, 3, none⟩ = some (.int .i64 v))
        (first | exact ⟨(PBQ.out _ (Hid.out (by assumption))).2.1, (OBQ.out _ (Hid.out (by assumption))).2.1, (OBQ.out _ (Hid.out (by assumption))).2.2.1, (OBQ.out _ (Hid.out (by assumption))).2.2.2.1⟩)
        (first
          | (go_at_call 35; refine (BR0.out _ QE.out).mono ?_; rintro e w2 ⟨q2, rfl⟩; have Q2 := Lib.hid (Qt.trans QE.out q2); clear q2))
      go_wp2_with fail
      refine (num_any ad _ w2 (errs_since HE.out (PPQ.out _ Q2.out)) LE.out).mono ?_
      rintro e w3 ⟨rfl, q3⟩
      have Q3 := Lib.hid (Qt.trans Q2.out q3)
      clear q3
      obtain ⟨_, _, x2, _⟩ := PBQ.out w3 Q3.out
      obtain ⟨z0, _⟩ := OBQ.out w3 Q3.out
      clear BK0 BR0 PBX PBQ PLs PA
      cases jv with
      | none =>
        go_wp2
        go_ret
        exact FIN.out w3 Q3.out
      | some jp =>
        go_wp2
        go_ret
        exact FIN.out w3 Q3.out
end
end Go.Proofs.YtggogaaooacooaaDoor
namespace Go.Proofs.YtggogaaooacooaaDoor
open Go.RowKit Go.WideShapes
set_option maxRecDepth 100000
theorem stepJ_any {ad : Nat → Addr} {w0 w : World} {I : Nat → Prop} {pb b c f : Nat} {d : DS} {jv qv : Option Addr} (hE : Errs ad w0) (hT : Tab w0) (h : Pl w0 w I pb b c f d jv qv) (hf2 : f ≤ 1000000000) (o : OpJ) (ho : o.Ok w0) :
    Calls Tryd.prog 12 #[.pointer (some ⟨pb, 0, none⟩), o.val] w (StepJ w0 pb b c f) := by
  obtain ⟨ka, kc, hkv, _⟩ := id ho.kept
  have hB := ho.kept
  have hn := ho.n
  have hz := ho.size
  obtain ⟨kind, i, n, v, size, fill, kv, ft⟩ := o
  simp only at hkv hB hn hz
  subst hkv
  by_cases h1 : kind = 1
  · subst h1; exact stepJ_begin hE hT h hf2 i n v size fill ka kc ft hn
  by_cases h2 : kind = 2
  · subst h2; exact stepJ_append hE hT h hf2 i n v size fill ka kc ft
  by_cases h3 : kind = 3
  · subst h3; exact stepJ_sync hE hT h hf2 i n v size fill ka kc ft
  by_cases h4 : kind = 4
  · subst h4; exact stepJ_replay hE hT h hf2 i n v size fill ka kc ft hn
  by_cases h5 : kind = 5
  · subst h5; exact stepJ_ask hE hT h hf2 i n v size fill ka kc ft hz
  by_cases h6 : kind = 6
  · subst h6; exact stepJ_arm hE hT h hf2 i n v size fill ka kc ft hn
  by_cases h7 : kind = 7
  · subst h7; exact stepJ_crash hE hT h hf2 i n v size fill ka kc ft hB
  by_cases h8 : kind = 8
  · subst h8; exact stepJ_write hE hT h hf2 i n v size fill ka kc ft
  by_cases h9 : kind = 9
  · subst h9; exact stepJ_of hE hT h hf2 i n v size fill ka kc ft
  exact stepJ_none hE hT h hf2 i n v size fill ka kc ft kind (fun x x1 x2 e => by omega)
end Go.Proofs.YtggogaaooacooaaDoor
namespace Go.Proofs.YtggogaaooacooaaDoor
open Go.RowKit Go.WideShapes
set_option maxRecDepth 100000
/-- An Op loaded into a block of its own. -/
theorem laid_opJ (w : World) (o : OpJ) : ∃ W, w.alloc (.cells #[.int .i64 o.kind, .int .i64 o.i, .int .i64 o.n, .int .i64 o.v, .int .i64 o.size, .int .i64 o.fill, o.kv, .int .i64 o.f.torn, .int .i64 o.f.bytes] 42) = W ∧ Qt w W ∧ OpBox W w.heap.size o :=
  ⟨_, rfl, Keeps.alloc (Qt.refl w) _, heap_alloc_new w _⟩
/-- What the loop keeps. -/
def PlayAtJ (w0 : World) (pb b c N : Nat) (iv : Value) (wr : World) : Prop := ∃ (n : Nat) (I : Nat → Prop) (d : DS) (jv qv : Option Addr), n ≤ N ∧ iv = .int .i64 n ∧ Pl w0 wr I pb b c (14 * n) d jv qv
theorem plJ_new {w0 w3 w4 : World} {b c n : Nat} (h : Pair w3.heap.size w0 w3 b c (DS.newD n) (DS.newD n)) (q : Qt w3 w4) : Pl w0 (w4.alloc (.cells (prCells b c none none) 37)) (fun k => k = w4.heap.size) w4.heap.size b c 0 (DS.newD n) none none := by
  have q2 := Keeps.alloc q (.cells (prCells b c none none) 37)
  have hz := q.size
  have hs := h.since.size
  refine ⟨PairJ.of h q2 (fun k e => .inr (by omega)), rfl, fun k e => by omega, fun k e => ?_, heap_alloc_new w4 _, .inl ⟨rfl, rfl⟩, ⟨Nat.le_refl _, Nat.le_refl _, Nat.le_refl _, Nat.le_refl _⟩⟩
  have : (w4.alloc (.cells (prCells b c none none) 37)).heap.size = w4.heap.size + 1 := World.size_alloc _ _
  omega
theorem pj_few {k N : Nat} (h : k < N) (hN : N ≤ 70000000) : 14 * k ≤ 1000000000 := by omega
theorem pj_wrap {k N : Nat} (h : k < N) (hN : N ≤ 70000000) : wrap64 ((k : Int) + 1) = (k : Int) + 1 := by unfold wrap64; omega
theorem pj_last {k N : Nat} (h : k ≤ N) (h2 : ¬ k < N) : k = N := by omega
theorem pj_meas {k N : Nat} (h : k < N) : N - (intOf (.int .i64 ((k : Int) + 1))).toNat < N - (intOf (.int .i64 (k : Int))).toNat := by simp [intOf]; omega
theorem pj_next {w0 w5 : World} {I : Nat → Prop} {d : DS} {jv qv : Option Addr} {pb b c N k : Nat} (hlt : k < N) (P5 : Pl w0 w5 I pb b c (14 * k + 14) d jv qv) : PlayAtJ w0 pb b c N (.int .i64 ((k : Int) + 1)) w5 := ⟨k + 1, I, d, jv, qv, hlt, by push_cast; rfl, (show 14 * (k + 1) = 14 * k + 14 by omega) ▸ P5⟩
set_option maxHeartbeats 3200000 in
theorem jplays_any (ad : Nat → Addr) (n : Int) (v : Value) (g off : Nat) (os : List OpJ) (w : World) (hN : os.length ≤ 70000000) (hok : ∀ (k : Nat) (o : OpJ), os[k]? = some o → o.Ok w) (hs : Recs 9 OpJ.list w v g off os) (hE : Errs ad w) (hT : Tab w) :
    Calls Tryd.prog 3 #[.int .i64 n, v] w fun e w' => e = .returned (.bool true) ∧ Qt w w' := by
  have HE := Lib.hid hE
  have HT := Lib.hid hT
  have HSC := Lib.hid hs
  have HOK := Lib.hid hok
  have HN := Lib.hid hN
  have FX := fixedJ_any ad w hE hT
  obtain ⟨va, vc, rfl, _⟩ := hs.val
  clear hok hs hE hT hN
  go_enter Tryd.func3, Tryd.ntmps3
  go_wp2_with fail
  refine FX.mono ?_
  rintro e w1 ⟨rfl, q1⟩
  have K1 := Lib.hid q1
  clear q1 FX
  go_wp2_with fail
  refine (new_any ad n w1 (HE.out.kept K1.out (OffErrs.none ad))).mono ?_
  rintro e w2 (⟨hno, rfl, q2⟩ | ⟨n1, n2, b, rfl, hD, q2⟩)
  · have K2 := Lib.hid (Qt.trans K1.out q2)
    clear q2
    go_wp2_with fail
    refine (ref_new n w2).mono ?_
    rintro e w3 (⟨_, rfl, q3⟩ | ⟨n1, n2, c, rfl, hR, q3⟩)
    · have K3 := Lib.hid (Qt.trans K2.out q3)
      clear q3
      go_wp2_with fail
      refine (num_any ad 6 w3 (HE.out.kept K3.out (OffErrs.none ad)) (by decide)).mono ?_
      rintro e w4 ⟨rfl, q4⟩
      have K4 := Lib.hid (Qt.trans K3.out q4)
      clear q4
      go_wp2
      go_ret
      exact ⟨rfl, K4.out⟩
    · exact absurd ⟨n1, n2⟩ hno
  have K2 := Lib.hid q2
  have HD := Lib.hid hD
  clear q2 hD
  go_wp2_with fail
  refine (ref_new n w2).mono ?_
  rintro e w3 (⟨hno, rfl, q3⟩ | ⟨_, _, c, rfl, hR, q3⟩)
  · exact absurd ⟨n1, n2⟩ hno
  have HP := Lib.hid (pair_newJ K1.out HD.out K2.out hR q3)
  clear q3 hR HD K1 K2
  go_wp2_with fail
  refine (num_any ad 0 w3 (errs_since HE.out HP.out.since) (by decide)).mono ?_
  rintro e w4 ⟨rfl, q4⟩
  have Q4 := Lib.hid q4
  clear q4
  by_cases hbig : 3000 < n
  · have FIN := Lib.hid (Qt.trans HP.out.since.qt Q4.out)
    go_wp2
    go_ret
    exact ⟨rfl, FIN.out⟩
  have START := Lib.hid (show PlayAtJ w w4.heap.size b c os.length (.int .i64 0) (w4.alloc (.cells (prCells b c none none) 37)) from ⟨0, _, _, _, _, Nat.zero_le _, rfl, plJ_new HP.out Q4.out⟩)
  unfold prCells at START
  clear HP Q4
  go_wp2
  clear hbig
  generalize w4.heap.size = pb at *
  go_loopw [47] (fun iv wr => PlayAtJ w pb b c os.length iv wr) (fun iv _ => os.length - (intOf iv).toNat)
  case atStart => exact START.out
  case round =>
    obtain ⟨k, In, dn, jv, qv, hk, rfl, hP⟩ := hrel
    by_cases hlt : k < os.length
    · obtain ⟨o, cap, ho, hval⟩ := HSC.out.elem hlt
      injection hval with hva _ hvc
      subst hva hvc
      have HO := HOK.out k o ho
      have hq := hP.pair.since.qt
      have c0 : wr.cell? ⟨g, off + k * 9, none⟩ = some (.int .i64 o.kind) := HSC.out.qt hq ho 0 _ rfl
      have c1 := HSC.out.qt hq ho 1 (.int .i64 o.i) rfl
      have c2 := HSC.out.qt hq ho 2 (.int .i64 o.n) rfl
      have c3 := HSC.out.qt hq ho 3 (.int .i64 o.v) rfl
      have c4 := HSC.out.qt hq ho 4 (.int .i64 o.size) rfl
      have c5 := HSC.out.qt hq ho 5 (.int .i64 o.fill) rfl
      have c6 := HSC.out.qt hq ho 6 o.kv rfl
      have c7 := HSC.out.qt hq ho 7 (.int .i64 o.f.torn) rfl
      have c8 := HSC.out.qt hq ho 8 (.int .i64 o.f.bytes) rfl
      obtain ⟨WA, hWA, qA, hBA⟩ := laid_opJ wr o
      obtain ⟨d0, d1, d2, d3, d4, d5, d6, d7, d8⟩ := hBA.cells
      have HWA := Lib.hid hWA
      have ST := Lib.hid (stepJ_any HE.out HT.out (hP.qt qA) (pj_few hlt HN.out) o HO)
      have NX := Lib.hid (fun (e : Ending) (W : World) (h : StepJ w pb b c (14 * k) e W) => h.2)
      obtain ⟨ka, kc, hkv, _⟩ := HO.kept
      clear hWA qA hBA hP HO ho hq
      obtain ⟨kind, i, n', v', size, fill, kv, f⟩ := o
      simp only at hkv
      subst hkv
      simp only at c0 c1 c2 c3 c4 c5 c6 c7 c8 d0 d1 d2 d3 d4 d5 d6 d7 d8 HWA
      unfold OpJ.val OpJ.list at ST
      simp only at ST
      go_wp2_with fail
      rw [HWA.out]
      go_wp2_with fail
      refine ST.out.mono ?_
      rintro e w5 h5
      obtain ⟨I5, d5', jv5, qv5, P5⟩ := NX.out _ _ h5
      obtain ⟨rfl, _⟩ := h5
      have FIN := Lib.hid (pj_next hlt P5)
      have WR := Lib.hid (pj_wrap hlt HN.out)
      have MS := Lib.hid (pj_meas hlt)
      clear P5 c0 c1 c2 c3 c4 c5 c6 c7 c8 d0 d1 d2 d3 d4 d5 d6 d7 d8 ST NX HWA
      go_wp2
      rw [WR.out]
      exact ⟨FIN.out, MS.out⟩
    · have HP := Lib.hid (hP.pair.pair hP.mine)
      have hkN : k = os.length := pj_last hk hlt
      subst hkN
      clear hP hlt
      go_wp2_with fail
      refine (pair_image HP.out).mono ?_
      rintro e w5 ⟨rfl, q5⟩
      have HP5 := Lib.hid (HP.out.qt q5)
      clear q5
      go_wp2_with fail
      refine (pairR_image HP5.out).mono ?_
      rintro e w6 ⟨rfl, q6⟩
      have FIN := Lib.hid (HP5.out.qt q6).since.qt
      clear q6
      go_wp2
      go_ret
      exact ⟨by simp, FIN.out⟩
end Go.Proofs.YtggogaaooacooaaDoor
