/-
  The contract of Crash.
-/
import Derived.Test.YtnnkibhlildojaaDoorDFlush
namespace Go.Proofs.YtnnkibhlildojaaDoor
open Go.RowKit Go.WideShapes
set_option maxRecDepth 100000

theorem crashTo_succ {f : FT} {D : List (List UInt8)} {ws : List (Nat × List UInt8)} {k : Nat} {x : Nat × List UInt8} (hx : ws[k]? = some x) : crashTo f D ws (k + 1) = (crashTo f D ws k).set x.1 (tornBy ((crashTo f D ws k).getD x.1 []) x.2 (f.done k)) := by rw [crashTo, hx]

section
variable {w : World} {b gd mb : Nat} {uv : Value} {d : DS}

/-- The state of Crash's loop. -/
def CrashAt (f : FT) (w : World) (b gd mb : Nat) (uv : Value) (d : DS) (v : Value) (wr : World) : Prop :=
  ∃ k : Nat, k ≤ d.ways.length ∧ v = .int .i64 k ∧ DiskP wr b gd mb uv (d.setDur (crashTo f d.dur d.ways k)) ∧ Keeps (foot b gd mb uv) w wr

theorem CrashAt.more {f : FT} {wr W' : World} {k : Nat} {x : Nat × List UInt8} (P : DiskP wr b gd mb uv (d.setDur (crashTo f d.dur d.ways k))) (K : Keeps (foot b gd mb uv) w wr) (q : Qt wr W') (hx : d.ways[k]? = some x) (h1 : x.1 < d.dur.length) (h2 : x.2.length = 256) :
    CrashAt f w b gd mb uv d (.int .i64 ((k : Int) + 1)) (W'.setCells gd (x.1 * 256) (Lib.byteCells (x.2.take (f.done k)))) := by
  have hk := (List.getElem?_eq_some_iff.1 hx).1
  have hl : x.1 < (d.setDur (crashTo f d.dur d.ways k)).dur.length := by simp only [DS.setDur, crashTo_length]; exact h1
  obtain ⟨P', K'⟩ := P.store q hl (f.done_le k) h2
  refine ⟨k + 1, hk, by simp, ?_, Keeps.trans K K' (fun i _ e => by subst e; exact .inr (.inl rfl))⟩
  rw [crashTo_succ hx]
  exact P'

/-- What a Crash leaves. -/
def CrashedP (w : World) (b gd mb : Nat) (uv : Value) (d : DS) (f : FT) (e : Ending) (w' : World) : Prop :=
  e = .returned (.tuple #[]) ∧ ∃ mb' uv', DiskP w' b gd mb' uv' (d.crashD f) ∧ Keeps (foot b gd mb uv) w w' ∧ (mb' = mb ∨ w.heap.size ≤ mb') ∧ (uv' = uv ∨ uv' = .slice none 0 0)

theorem CrashedP.on {f : FT} {w1 wr w2 : World} {uv : Value} (hok : d.Ok) (K1 : Qt w w1) (K : Keeps (foot b gd mb uv) w1 wr)
    (P2 : DiskP w2 b gd wr.heap.size (.slice none 0 0) (DS.forgot (DS.setDur d (crashTo f d.dur d.ways d.ways.length)))) (K2 : Keeps (fun k => k = b) wr w2) :
    CrashedP w b gd mb uv d f (.returned (.tuple #[])) (((w2.setCell ⟨b, 3, none⟩ (.int .i64 (-1))).setCell ⟨b, 4, none⟩ (.bool false)).setCell ⟨b, 7, none⟩ (.int .i64 ((d.cr : Int) + 1))) := by
  have kS := Keeps.trans (Keeps.trans (keeps_setCell w2 b 3 (.int .i64 (-1))) (keeps_setCell _ b 4 (.bool false)) (fun _ _ e => e)) (keeps_setCell _ b 7 (.int .i64 ((d.cr : Int) + 1))) (fun _ _ e => e)
  have z1 := K1.size
  have z2 := K.size
  refine ⟨rfl, wr.heap.size, .slice none 0 0, ?_, ?_, .inr (by omega), .inr rfl⟩
  · refine P2.turn kS ?_ (hok.crash f) rfl rfl
    rw [setCell_row (setCell_row (setCell_row P2.cells 3 _) 4 _) 7 _]
    simp [diskCells, DS.forgot, DS.setDur, DS.crashD]
  · exact Keeps.trans (Keeps.trans (Keeps.trans (K1.mono (fun k _ e => e.elim)) K (fun _ _ e => e)) K2 (fun k _ e => .inl e)) kS (fun k _ e => .inl e)

theorem copied_part (W : World) (B gd o n : Nat) (s : List UInt8) (hs : s.length = 256) (hn : n ≤ 256) (hr : W.rangeAt B 1 (Lib.byteCells s)) (ht : W.drew.there gd o 256) :
    (Builtin.copy_ #[64, 64] 3 #[.slice (some ⟨gd, o, none⟩) n 256, .slice (some ⟨B, 1, none⟩) n 256]).run Tryd.prog W.drew = .ok (goInt n) (W.drew.setCells gd o (Lib.byteCells (s.take n))) := by
  have hl : (Lib.byteCells (s.take n)).length = n := by rw [Lib.byteCells_length, List.length_take]; omega
  have h := run_copy_cells (P := Tryd.prog) W.drew 64 64 3 5 gd o n 256 ⟨B, 1, none⟩ n 256 (Lib.byteCells (s.take n)) Tryd.underlying64 (by kernel_rfl) (by rw [hl]; simp)
    (fun j v hj => by
      rw [add_plain]
      rw [byteCells_take, List.getElem?_take] at hj
      split at hj
      · exact hr j v hj
      · cases hj) (fun j hj => (ht j (by omega)).1) (fun j hj => (ht j (by omega)).2) (byteCells_one1 _)
  rw [hl] at h
  exact h

set_option maxHeartbeats 3200000 in
theorem crash_p (h : DiskP w b gd mb uv d) (hf : d.Few) (v : Value) (f : FT) (hv : Bools w v f.kept) (hb : ∀ a n c, v = .slice (some a) n c → n ≠ 0 → ¬ foot b gd mb uv a.block) :
    Calls Tryd.prog 20 #[.pointer (some ⟨b, 0, none⟩), fateV v f] w (CrashedP w b gd mb uv d f) := by
  have hfw := hf.ways
  have hcr := hf.cr
  have HOK := Lib.hid h.ok
  obtain ⟨ua, uc, huv, _⟩ := own_slice h.ways
  subst huv
  have q1 := (Qt.refl w).alloc (.cells #[v, .int .i64 f.torn, .int .i64 f.bytes] 46)
  have hblk := heap_alloc_new w (.cells #[v, .int .i64 f.torn, .int .i64 f.bytes] 46)
  obtain ⟨w1, hw1⟩ : ∃ w1, w.alloc (.cells #[v, .int .i64 f.torn, .int .i64 f.bytes] 46) = w1 := ⟨_, rfl⟩
  rw [hw1] at q1 hblk
  have P1 := h.kept q1 (fun _ _ e => e)
  have hv1 := hv.qt q1
  have hlt := h.lt
  have c1 : (w.alloc (.cells #[v, .int .i64 f.torn, .int .i64 f.bytes] 46)).cell? ⟨b, 1, none⟩ = some (.slice ua d.ways.length uc) := by rw [hw1]; exact P1.cell 1 _ rfl
  have HW1 := Lib.hid hw1
  have H1 := Lib.hid P1
  have HQ1 := Lib.hid q1
  have HV := Lib.hid (fun wr (K : Keeps (foot b gd mb (.slice ua d.ways.length uc)) w1 wr) => hv1.kept K hb)
  have HB := Lib.hid (fun wr (K : Keeps (foot b gd mb (.slice ua d.ways.length uc)) w1 wr) (j : Nat) (u : Value) (hj : #[v, .int .i64 f.torn, .int .i64 f.bytes][j]? = some u) => (K.cellv (p := ⟨w.heap.size, j, none⟩) (by rw [cell_of_row w1 _ _ _ _ _ hblk]; exact hj) (fun e => absurd (hlt _ e) (Nat.lt_irrefl _)) : wr.cell? ⟨w.heap.size, j, none⟩ = some u))
  have HSW := Lib.hid (fun (wr : World) (x : Nat × List UInt8) => laid_way wr x)
  clear P1 hv1 hblk q1 h hv hb hlt hw1
  go_enter Tryd.func20, Tryd.ntmps20
  unfold fateV
  go_wp2
  rw [HW1.out]
  clear c1
  go_loopw [12] (fun x wr => CrashAt f w1 b gd mb (.slice ua d.ways.length uc) d x wr) (fun x _ => d.ways.length - (intOf x).toNat)
  case atStart => exact ⟨0, Nat.zero_le _, rfl, H1.out, Keeps.refl _ _⟩
  case round =>
    obtain ⟨k, hk, rfl, P, K⟩ := hrel
    by_cases hlt : k < d.ways.length
    · have hx : d.ways[k]? = some d.ways[k] := List.getElem?_eq_getElem hlt
      obtain ⟨g, hua⟩ : ∃ g, ua = some ⟨g, 0, none⟩ := by
        rcases P.ways.2 with ⟨e, _⟩ | ⟨g, cap, cur, e, _⟩
        · injection e with _ e _; have e' : d.ways.length = 0 := e; omega
        · injection e with e _ _; exact ⟨g, e⟩
      subst hua
      obtain ⟨hx1, hx2⟩ := P.ok.way k _ hx
      have hrg := way_range P.ways (fun k x hx => (P.ok.way k x hx).2) hx
      generalize d.ways[k] = x at *
      obtain ⟨W1, hW1, q1, m0, m1, hz1⟩ := HSW.out wr x
      have hln : (DS.setDur d (crashTo f d.dur d.ways k)).dur.length = d.dur.length := crashTo_length _ _ _ _
      have hx1 : x.1 < d.dur.length := hln ▸ hx1
      have hle : d.dur.length ≤ 65536 := hln ▸ P.ok.le
      have hdn := f.done_le k
      have HV1 := Lib.hid ((HV.out wr K).qt q1)
      have g0 : W1.cell? ⟨w.heap.size, 0, none⟩ = some v := q1.cellv (HB.out wr K 0 v rfl)
      have g1 : W1.cell? ⟨w.heap.size, 1, none⟩ = some (.int .i64 f.torn) := q1.cellv (HB.out wr K 1 _ rfl)
      have g2 : W1.cell? ⟨w.heap.size, 2, none⟩ = some (.int .i64 f.bytes) := q1.cellv (HB.out wr K 2 _ rfl)
      have C0 := Lib.hid (fun (W : World) (q : Qt wr W) => (show W.cell? ⟨b, 0, none⟩ = some (.slice (some ⟨gd, 0, none⟩) d.dur.length d.dur.length) from q.cellv (P.cell 0 (.slice (some ⟨gd, 0, none⟩) d.dur.length d.dur.length) (by simp [diskCells, hln]))))
      have HT := Lib.hid (fun (W : World) (q : Qt wr W) => (P.kept q (fun _ _ e => e)).there (p := x.1) (by rw [hln]; exact hx1))
      have HF := Lib.hid (fun (W : World) (q : Qt wr W) => CrashAt.more (f := f) (w := w1) P K q hx hx1 hx2)
      have HI := Lib.hid (show (Tryd.prog.info? 82).map (·.size) = some (wayCells x).length by rw [wayCells_length hx2]; exact infoWrite)
      have HZ := Lib.hid (show Tryd.zeroCells82.size = (wayCells x).toArray.size by simp only [List.size_toArray]; rw [wayCells_length hx2, zeroWrite_size])
      have HO := Lib.hid (all_oneCell_toArray (wayCells_one x))
      have HR := Lib.hid hrg
      have HX2 := Lib.hid hx2
      have HQ := Lib.hid q1
      have HW := Lib.hid hW1
      have M1 := Lib.hid m1
      have M0 := Lib.hid m0
      clear hrg P K hx hx2 hW1 q1 hln m1 m0
      go_wp2_with (first | (refine wpList_load_mid rfl 82 _ rfl g (k * 257) rfl _ _ HR.out Tryd.underlying82 rfl HI.out ?_) | (refine wpList_store_row _ rfl 82 _ _ rfl wr.heap.size _ _ 82 rfl rfl (heap_alloc_new wr _) HI.out HZ.out HO.out ?_; rw [HW.out]))
      refine (done_any v f k W1 HV1.out).mono ?_
      rintro e W2 ⟨rfl, q2⟩
      have q3 := Qt.trans HQ.out q2
      have c0 := C0.out W2 q3
      have p0 : W2.cell? ⟨wr.heap.size, 0, none⟩ = some (.int .i64 x.1) := q2.cellv M0.out
      have HT2 := Lib.hid (HT.out _ (Keeps.drew q3))
      have HF2 := Lib.hid (HF.out _ (Keeps.drew q3))
      have HC := Lib.hid (copied_part W2 wr.heap.size gd (x.1 * 256) (f.done k) x.2 HX2.out (f.done_le k) (fun j v hj => q2.cellv (p := ⟨wr.heap.size, 1 + j, none⟩) (M1.out j v hj)) HT2.out)
      clear q2 q3 g0 g1 g2
      generalize f.done k = n at *
      have n0 : (0 : Int) ≤ (n : Int) := by omega
      have n1 : (n : Int) ≤ 256 := by omega
      go_wp2
      refine wp_region_still_tail 12 (by kernel_rfl) (by kernel_rfl) ?_
      simp only [List.take_succ_cons, List.take_zero, List.drop_succ_cons, List.drop_zero]
      repeat still_step
      try refine wpStill_nil ?_
      change wpList _ _ _ _ _ (World.drew W2)
      go_wp2_with (refine Lib.wpList_copy_run _ rfl _ _ 64 64 rfl _ _ rfl rfl HC.out ?_)
      go_roundw
      case rel => exact HF2.out
      case measure => simp [intOf]; omega
    · obtain rfl : k = d.ways.length := by omega
      have HP := Lib.hid P
      have HK := Lib.hid K
      clear P K hlt
      go_wp2_with fail
      refine (forget_p HP.out).mono ?_
      rintro e w2 ⟨rfl, P2, K2⟩
      have c3 : w2.cell? ⟨b, 3, none⟩ = some (.int .i64 d.armed) := P2.cell 3 _ rfl
      have f3 := frozen_of_row P2.cells 3
      have c4 : w2.cell? ⟨b, 4, none⟩ = some (.bool d.off) := P2.cell 4 _ rfl
      have f4 := frozen_of_row P2.cells 4
      have c7 : w2.cell? ⟨b, 7, none⟩ = some (.int .i64 d.cr) := P2.cell 7 _ rfl
      have f7 := frozen_of_row P2.cells 7
      have HP2 := Lib.hid P2
      have HK2 := Lib.hid K2
      clear P2 K2
      go_wp2
      go_end0
      exact CrashedP.on HOK.out HQ1.out HK.out HP2.out HK2.out
end

theorem crash_any (w : World) (b : Nat) (d : DS) (S : Nat → Prop) (h : DiskAt w b d S) (hf : d.Few) (v : Value) (f : FT) (hv : Bools w v f.kept) (hb : ∀ a n c, v = .slice (some a) n c → n ≠ 0 → ¬ S a.block) :
    Calls Tryd.prog 20 #[.pointer (some ⟨b, 0, none⟩), fateV v f] w fun e w' => e = .returned (.tuple #[]) ∧ DiskAt w' b (d.crashD f) (Grow S w w') ∧ Keeps S w w' := by
  obtain ⟨gd, mb, uv, h, hS⟩ := h
  refine (crash_p h hf v f hv (fun a n c e n0 k => hb a n c e n0 (hS _ k))).mono ?_
  rintro e w' ⟨he, mb', uv', hP, hK, hm, hu⟩
  refine ⟨he, ⟨gd, mb', uv', hP, ?_⟩, hK.mono (fun k _ hk => hS k hk)⟩
  intro k hk
  have hlt := hP.lt k hk
  rcases hk with hk | hk | hk | hk
  · exact .inl (hS k (.inl hk))
  · exact .inl (hS k (.inr (.inl hk)))
  · rcases hm with q | q
    · exact .inl (hS k (.inr (.inr (.inl (hk.trans q)))))
    · exact .inr ⟨by omega, hlt⟩
  · rcases hu with q | q
    · exact .inl (hS k (.inr (.inr (.inr (q ▸ hk)))))
    · rw [q] at hk; cases hk
end Go.Proofs.YtnnkibhlildojaaDoor
