/-
  The contract of Crash.
  The contract of New.
  The library's contracts at this seat's dump, laid by program (wip/shelf.py).
-/
import Derived.Test.YtggogaaooacooaaDoorP13
import Derived.Shelf.Strings.Builder1
import Derived.Shelf.Strings.Builder2
import Derived.Shelf.Small.Wraps
import Derived.Shelf.Strings.BuilderF
import Derived.Shelf.Strings.Prefix
import Derived.Test.YtggogaaooacooaaDoorProg
namespace Go.Proofs.YtggogaaooacooaaDoor
open Go.RowKit Go.WideShapes
set_option maxRecDepth 100000

theorem crashTo_succ {f : FT} {D : List (List UInt8)} {ws : List (Nat × List UInt8)} {k : Nat} {x : Nat × List UInt8} (hx : ws[k]? = some x) : crashTo f D ws (k + 1) = (crashTo f D ws k).set x.1 (tornBy ((crashTo f D ws k).getD x.1 []) x.2 (f.done k)) := by rw [crashTo, hx]

section
variable {w : World} {b gd mb : Nat} {uv : Value} {d : DS}

/-- The state of Crash's loop. -/
def CrashAt (f : FT) (w : World) (b gd mb : Nat) (uv : Value) (d : DS) (v : Value) (wr : World) : Prop :=
  ∃ k : Nat, k ≤ d.ways.length ∧ v = .int .i64 k ∧ DiskP wr b gd mb uv (d.setDur (crashTo f d.dur d.ways k)) ∧ Keeps (foot b gd mb uv) w wr

theorem CrashAt.more {f : FT} {wr W' : World} {k : Nat} {x : Nat × List UInt8} (P : DiskP wr b gd mb uv (d.setDur (crashTo f d.dur d.ways k))) (K : Keeps (foot b gd mb uv) w wr) (q : Qt wr W') (hx : d.ways[k]? = some x) (h1 : x.1 < d.dur.length) (h2 : x.2.length = 256) :
    CrashAt f w b gd mb uv d (.int .i64 ((k : Int) + 1)) (W'.setCells gd (x.1 * 256) (Lib.byteCells (x.2.take (f.done k)))) := by
  have hk := (List.getElem?_eq_some_iff.1 hx).1
  have hl : x.1 < (d.setDur (crashTo f d.dur d.ways k)).dur.length := by simp only [DS.setDur, crashTo_length]; exact h1
  obtain ⟨P', K'⟩ := P.store q hl (f.done_le k) h2
  refine ⟨k + 1, hk, by simp, ?_, Keeps.trans K K' (fun i _ e => by subst e; exact .inr (.inl rfl))⟩
  rw [crashTo_succ hx]
  exact P'

/-- What a Crash leaves. -/
def CrashedP (w : World) (b gd mb : Nat) (uv : Value) (d : DS) (f : FT) (e : Ending) (w' : World) : Prop :=
  e = .returned (.tuple #[]) ∧ ∃ mb' uv', DiskP w' b gd mb' uv' (d.crashD f) ∧ Keeps (foot b gd mb uv) w w' ∧ (mb' = mb ∨ w.heap.size ≤ mb') ∧ (uv' = uv ∨ uv' = .slice none 0 0)

theorem CrashedP.on {f : FT} {w1 wr w2 : World} {uv : Value} (hok : d.Ok) (K1 : Qt w w1) (K : Keeps (foot b gd mb uv) w1 wr)
    (P2 : DiskP w2 b gd wr.heap.size (.slice none 0 0) (DS.forgot (DS.setDur d (crashTo f d.dur d.ways d.ways.length)))) (K2 : Keeps (fun k => k = b) wr w2) :
    CrashedP w b gd mb uv d f (.returned (.tuple #[])) (((w2.setCell ⟨b, 3, none⟩ (.int .i64 (-1))).setCell ⟨b, 4, none⟩ (.bool false)).setCell ⟨b, 7, none⟩ (.int .i64 ((d.cr : Int) + 1))) := by
  have kS := Keeps.trans (Keeps.trans (keeps_setCell w2 b 3 (.int .i64 (-1))) (keeps_setCell _ b 4 (.bool false)) (fun _ _ e => e)) (keeps_setCell _ b 7 (.int .i64 ((d.cr : Int) + 1))) (fun _ _ e => e)
  have z1 := K1.size
  have z2 := K.size
  refine ⟨rfl, wr.heap.size, .slice none 0 0, ?_, ?_, .inr (by omega), .inr rfl⟩
  · refine P2.turn kS ?_ (hok.crash f) rfl rfl
    rw [setCell_row (setCell_row (setCell_row P2.cells 3 _) 4 _) 7 _]
    simp [diskCells, DS.forgot, DS.setDur, DS.crashD]
  · exact Keeps.trans (Keeps.trans (Keeps.trans (K1.mono (fun k _ e => e.elim)) K (fun _ _ e => e)) K2 (fun k _ e => .inl e)) kS (fun k _ e => .inl e)

theorem copied_part (W : World) (B gd o n : Nat) (s : List UInt8) (hs : s.length = 256) (hn : n ≤ 256) (hr : W.rangeAt B 1 (Lib.byteCells s)) (ht : W.drew.there gd o 256) :
    (Builtin.copy_ #[75, 75] 3 #[.slice (some ⟨gd, o, none⟩) n 256, .slice (some ⟨B, 1, none⟩) n 256]).run Tryd.prog W.drew = .ok (goInt n) (W.drew.setCells gd o (Lib.byteCells (s.take n))) := by
  have hl : (Lib.byteCells (s.take n)).length = n := by rw [Lib.byteCells_length, List.length_take]; omega
  have h := run_copy_cells (P := Tryd.prog) W.drew 75 75 3 5 gd o n 256 ⟨B, 1, none⟩ n 256 (Lib.byteCells (s.take n)) Tryd.underlying75 (by kernel_rfl) (by rw [hl]; simp)
    (fun j v hj => by
      rw [add_plain]
      rw [byteCells_take, List.getElem?_take] at hj
      split at hj
      · exact hr j v hj
      · cases hj) (fun j hj => (ht j (by omega)).1) (fun j hj => (ht j (by omega)).2) (byteCells_one1 _)
  rw [hl] at h
  exact h

set_option maxHeartbeats 3200000 in
theorem crash_p (h : DiskP w b gd mb uv d) (hf : d.Few) (v : Value) (f : FT) (hv : Bools w v f.kept) (hb : ∀ a n c, v = .slice (some a) n c → n ≠ 0 → ¬ foot b gd mb uv a.block) :
    Calls Tryd.prog 38 #[.pointer (some ⟨b, 0, none⟩), fateV v f] w (CrashedP w b gd mb uv d f) := by
  have hfw := hf.ways
  have hcr := hf.cr
  have HOK := Lib.hid h.ok
  obtain ⟨ua, uc, huv, _⟩ := own_slice h.ways
  subst huv
  have q1 := (Qt.refl w).alloc (.cells #[v, .int .i64 f.torn, .int .i64 f.bytes] 40)
  have hblk := heap_alloc_new w (.cells #[v, .int .i64 f.torn, .int .i64 f.bytes] 40)
  obtain ⟨w1, hw1⟩ : ∃ w1, w.alloc (.cells #[v, .int .i64 f.torn, .int .i64 f.bytes] 40) = w1 := ⟨_, rfl⟩
  rw [hw1] at q1 hblk
  have P1 := h.kept q1 (fun _ _ e => e)
  have hv1 := hv.qt q1
  have hlt := h.lt
  have c1 : (w.alloc (.cells #[v, .int .i64 f.torn, .int .i64 f.bytes] 40)).cell? ⟨b, 1, none⟩ = some (.slice ua d.ways.length uc) := by rw [hw1]; exact P1.cell 1 _ rfl
  have HW1 := Lib.hid hw1
  have H1 := Lib.hid P1
  have HQ1 := Lib.hid q1
  have HV := Lib.hid (fun wr (K : Keeps (foot b gd mb (.slice ua d.ways.length uc)) w1 wr) => hv1.kept K hb)
  have HB := Lib.hid (fun wr (K : Keeps (foot b gd mb (.slice ua d.ways.length uc)) w1 wr) (j : Nat) (u : Value) (hj : #[v, .int .i64 f.torn, .int .i64 f.bytes][j]? = some u) => (K.cellv (p := ⟨w.heap.size, j, none⟩) (by rw [cell_of_row w1 _ _ _ _ _ hblk]; exact hj) (fun e => absurd (hlt _ e) (Nat.lt_irrefl _)) : wr.cell? ⟨w.heap.size, j, none⟩ = some u))
  have HSW := Lib.hid (fun (wr : World) (x : Nat × List UInt8) => laid_way wr x)
  clear P1 hv1 hblk q1 h hv hb hlt hw1
  go_enter Tryd.func38, Tryd.ntmps38
  unfold fateV
  go_wp2
  rw [HW1.out]
  clear c1
  go_loopw [12] (fun x wr => CrashAt f w1 b gd mb (.slice ua d.ways.length uc) d x wr) (fun x _ => d.ways.length - (intOf x).toNat)
  case atStart => exact ⟨0, Nat.zero_le _, rfl, H1.out, Keeps.refl _ _⟩
  case round =>
    obtain ⟨k, hk, rfl, P, K⟩ := hrel
    by_cases hlt : k < d.ways.length
    · have hx : d.ways[k]? = some d.ways[k] := List.getElem?_eq_getElem hlt
      obtain ⟨g, hua⟩ : ∃ g, ua = some ⟨g, 0, none⟩ := by
        rcases P.ways.2 with ⟨e, _⟩ | ⟨g, cap, cur, e, _⟩
        · injection e with _ e _; have e' : d.ways.length = 0 := e; omega
        · injection e with e _ _; exact ⟨g, e⟩
      subst hua
      obtain ⟨hx1, hx2⟩ := P.ok.way k _ hx
      have hrg := way_range P.ways (fun k x hx => (P.ok.way k x hx).2) hx
      generalize d.ways[k] = x at *
      obtain ⟨W1, hW1, q1, m0, m1, hz1⟩ := HSW.out wr x
      have hln : (DS.setDur d (crashTo f d.dur d.ways k)).dur.length = d.dur.length := crashTo_length _ _ _ _
      have hx1 : x.1 < d.dur.length := hln ▸ hx1
      have hle : d.dur.length ≤ 65536 := hln ▸ P.ok.le
      have hdn := f.done_le k
      have HV1 := Lib.hid ((HV.out wr K).qt q1)
      have g0 : W1.cell? ⟨w.heap.size, 0, none⟩ = some v := q1.cellv (HB.out wr K 0 v rfl)
      have g1 : W1.cell? ⟨w.heap.size, 1, none⟩ = some (.int .i64 f.torn) := q1.cellv (HB.out wr K 1 _ rfl)
      have g2 : W1.cell? ⟨w.heap.size, 2, none⟩ = some (.int .i64 f.bytes) := q1.cellv (HB.out wr K 2 _ rfl)
      have C0 := Lib.hid (fun (W : World) (q : Qt wr W) => (show W.cell? ⟨b, 0, none⟩ = some (.slice (some ⟨gd, 0, none⟩) d.dur.length d.dur.length) from q.cellv (P.cell 0 (.slice (some ⟨gd, 0, none⟩) d.dur.length d.dur.length) (by simp [diskCells, hln]))))
      have HT := Lib.hid (fun (W : World) (q : Qt wr W) => (P.kept q (fun _ _ e => e)).there (p := x.1) (by rw [hln]; exact hx1))
      have HF := Lib.hid (fun (W : World) (q : Qt wr W) => CrashAt.more (f := f) (w := w1) P K q hx hx1 hx2)
      have HI := Lib.hid (show (Tryd.prog.info? 117).map (·.size) = some (wayCells x).length by rw [wayCells_length hx2]; exact infoWrite)
      have HZ := Lib.hid (show Tryd.zeroCells117.size = (wayCells x).toArray.size by simp only [List.size_toArray]; rw [wayCells_length hx2, zeroWrite_size])
      have HO := Lib.hid (all_oneCell_toArray (wayCells_one x))
      have HR := Lib.hid hrg
      have HX2 := Lib.hid hx2
      have HQ := Lib.hid q1
      have HW := Lib.hid hW1
      have M1 := Lib.hid m1
      have M0 := Lib.hid m0
      clear hrg P K hx hx2 hW1 q1 hln m1 m0
      go_wp2_with (first | (refine wpList_load_mid rfl 117 _ rfl g (k * 257) rfl _ _ HR.out Tryd.underlying117 rfl HI.out ?_) | (refine wpList_store_row _ rfl 117 _ _ rfl wr.heap.size _ _ 117 rfl rfl (heap_alloc_new wr _) HI.out HZ.out HO.out ?_; rw [HW.out]))
      refine (done_any v f k W1 HV1.out).mono ?_
      rintro e W2 ⟨rfl, q2⟩
      have q3 := Qt.trans HQ.out q2
      have c0 := C0.out W2 q3
      have p0 : W2.cell? ⟨wr.heap.size, 0, none⟩ = some (.int .i64 x.1) := q2.cellv M0.out
      have HT2 := Lib.hid (HT.out _ (Keeps.drew q3))
      have HF2 := Lib.hid (HF.out _ (Keeps.drew q3))
      have HC := Lib.hid (copied_part W2 wr.heap.size gd (x.1 * 256) (f.done k) x.2 HX2.out (f.done_le k) (fun j v hj => q2.cellv (p := ⟨wr.heap.size, 1 + j, none⟩) (M1.out j v hj)) HT2.out)
      clear q2 q3 g0 g1 g2
      generalize f.done k = n at *
      have n0 : (0 : Int) ≤ (n : Int) := by omega
      have n1 : (n : Int) ≤ 256 := by omega
      go_wp2
      refine wp_region_still_tail 12 (by kernel_rfl) (by kernel_rfl) ?_
      simp only [List.take_succ_cons, List.take_zero, List.drop_succ_cons, List.drop_zero]
      repeat still_step
      try refine wpStill_nil ?_
      change wpList _ _ _ _ _ (World.drew W2)
      go_wp2_with (refine Lib.wpList_copy_run _ rfl _ _ 75 75 rfl _ _ rfl rfl HC.out ?_)
      go_roundw
      case rel => exact HF2.out
      case measure => simp [intOf]; omega
    · obtain rfl : k = d.ways.length := by omega
      have HP := Lib.hid P
      have HK := Lib.hid K
      clear P K hlt
      go_wp2_with fail
      refine (forget_p HP.out).mono ?_
      rintro e w2 ⟨rfl, P2, K2⟩
      have c3 : w2.cell? ⟨b, 3, none⟩ = some (.int .i64 d.armed) := P2.cell 3 _ rfl
      have f3 := frozen_of_row P2.cells 3
      have c4 : w2.cell? ⟨b, 4, none⟩ = some (.bool d.off) := P2.cell 4 _ rfl
      have f4 := frozen_of_row P2.cells 4
      have c7 : w2.cell? ⟨b, 7, none⟩ = some (.int .i64 d.cr) := P2.cell 7 _ rfl
      have f7 := frozen_of_row P2.cells 7
      have HP2 := Lib.hid P2
      have HK2 := Lib.hid K2
      clear P2 K2
      go_wp2
      go_end0
      exact CrashedP.on HOK.out HQ1.out HK.out HP2.out HK2.out
end

theorem crash_any (w : World) (b : Nat) (d : DS) (S : Nat → Prop) (h : DiskAt w b d S) (hf : d.Few) (v : Value) (f : FT) (hv : Bools w v f.kept) (hb : ∀ a n c, v = .slice (some a) n c → n ≠ 0 → ¬ S a.block) :
    Calls Tryd.prog 38 #[.pointer (some ⟨b, 0, none⟩), fateV v f] w fun e w' => e = .returned (.tuple #[]) ∧ DiskAt w' b (d.crashD f) (Grow S w w') ∧ Keeps S w w' := by
  obtain ⟨gd, mb, uv, h, hS⟩ := h
  refine (crash_p h hf v f hv (fun a n c e n0 k => hb a n c e n0 (hS _ k))).mono ?_
  rintro e w' ⟨he, mb', uv', hP, hK, hm, hu⟩
  refine ⟨he, ⟨gd, mb', uv', hP, ?_⟩, hK.mono (fun k _ hk => hS k hk)⟩
  intro k hk
  have hlt := hP.lt k hk
  rcases hk with hk | hk | hk | hk
  · exact .inl (hS k (.inl hk))
  · exact .inl (hS k (.inr (.inl hk)))
  · rcases hm with q | q
    · exact .inl (hS k (.inr (.inr (.inl (hk.trans q)))))
    · exact .inr ⟨by omega, hlt⟩
  · rcases hu with q | q
    · exact .inl (hS k (.inr (.inr (.inr (q ▸ hk)))))
    · rw [q] at hk; cases hk
end Go.Proofs.YtggogaaooacooaaDoor
namespace Go.Proofs.YtggogaaooacooaaDoor
open Go.RowKit Go.WideShapes
set_option maxRecDepth 100000

theorem infoSector3 : (Tryd.prog.info? 102).map (fun i => (i.zero, i.size, i.bytes)) = some (some (.agg (Array.replicate 256 (.int .u8 0))), 256, 256) := by kernel_rfl

/-- n sectors of zeros. -/
def zeroCellsN (n : Nat) : Array Value := madeCells (Array.replicate 256 (Value.int .u8 0)) (n * 256)
theorem zeroCellsN_size (n : Nat) : (zeroCellsN n).size = n * 256 := by unfold zeroCellsN; exact size_madeCells _ _
theorem zeroCellsN_get {n j : Nat} (h : j < n * 256) : (zeroCellsN n)[j]? = some (.int .u8 0) := by
  have hz : ∀ x : Nat, (Array.replicate 256 (Value.int .u8 0))[x % (Array.replicate 256 (Value.int .u8 0)).size]! = .int .u8 0 := by
    intro x
    have hx : x % (Array.replicate 256 (Value.int .u8 0)).size < (Array.replicate 256 (Value.int .u8 0)).size := Nat.mod_lt _ (by rw [Array.size_replicate]; decide)
    rw [getElem!_pos (Array.replicate 256 (Value.int .u8 0)) _ hx, Array.getElem_replicate]
  unfold zeroCellsN madeCells
  generalize Array.replicate 256 (Value.int .u8 0) = Z at *
  rw [Array.getElem?_map, Array.getElem?_range, if_pos h]
  simp only [Option.map_some, hz]

theorem make_sectors (n : Nat) (h : n ≤ 65536) (W : World) : (Instr.makeSlice 77 (.int .i64 n) (.int .i64 n)).run Tryd.prog W = .ok (.slice (some ⟨W.heap.size, 0, none⟩) n n) (W.alloc (.cells (zeroCellsN n) 102)) := by
  obtain ⟨i, hi, h1⟩ := Option.map_eq_some_iff.1 infoSector3
  simp only [Prod.mk.injEq] at h1
  obtain ⟨hz, hs, hb⟩ := h1
  have hr := run_make (P := Tryd.prog) W 77 102 i _ Tryd.underlying77 hi hz .i64 .i64 n n (by omega) (by omega) (by rw [hb]; omega) (by omega)
  rw [hs] at hr
  simp only [Int.toNat_natCast] at hr
  exact hr

theorem zeros_range {W : World} {g n : Nat} (h : W.heap[g]? = some (.cells (zeroCellsN n) 102 (0, 0))) : Dur W g (List.replicate n zeros) := by
  refine ⟨⟨_, h, by rw [zeroCellsN_size, List.length_replicate]⟩, fun i s hi j v hj => ?_⟩
  rw [List.getElem?_replicate] at hi
  split at hi
  · injection hi with hi
    subst hi
    have hj2 : j < 256 := by have := (List.getElem?_eq_some_iff.1 hj).1; rw [Lib.byteCells_length] at this; simpa [zeros] using this
    rw [cell_of_row W g _ _ _ _ h, zeroCellsN_get (by omega)]
    have hb : Lib.byteCells zeros = List.replicate 256 (.int .u8 0) := by simp only [Lib.byteCells, zeros, List.map_replicate]; rfl
    rw [hb, List.getElem?_replicate, if_pos hj2] at hj
    exact hj
  · cases hi

theorem new_p (w : World) (n : Nat) (h1 : 1 ≤ n) (h2 : n ≤ 65536) :
    ∃ W, ((w.alloc (.cells (zeroCellsN n) 102)).alloc (.map #[] 0)).alloc (.cells #[.slice (some ⟨w.heap.size, 0, none⟩) n n, .slice none 0 0, .map (some (w.heap.size + 1)), .int .i64 (-1), .bool false, .int .i64 0, .int .i64 0, .int .i64 0] 81) = W ∧
      DiskAt W (w.heap.size + 2) (DS.newD n) (Grow (fun _ => False) w W) ∧ Qt w W := by
  refine ⟨_, rfl, ?_, ((Qt.refl w).alloc _).alloc _ |>.alloc _⟩
  have hm := World.ownsMap_made (w.alloc (.cells (zeroCellsN n) 102)) Tryd.prog 3 (plainElem (H := Unit) Tryd.prog 3)
  have hd := heap_alloc_new w (.cells (zeroCellsN n) 102)
  have h3 := heap_alloc_new ((w.alloc (.cells (zeroCellsN n) 102)).alloc (.map #[] 0)) (.cells #[.slice (some ⟨w.heap.size, 0, none⟩) n n, .slice none 0 0, .map (some (w.heap.size + 1)), .int .i64 (-1), .bool false, .int .i64 0, .int .i64 0, .int .i64 0] 81)
  rw [World.size_alloc] at hm
  rw [World.size_alloc, World.size_alloc] at h3
  refine ⟨w.heap.size, w.heap.size + 1, .slice none 0 0, ⟨DS.Ok.new h1 h2, ?_, ?_, World.ownsRow_nil _ 0 _ 257, .map [], hm.alloc _, MapsTo.nil⟩, ?_⟩
  · rw [h3]
    simp [diskCells, DS.newD]
  · refine zeros_range ?_
    rw [Below.heap_alloc _ _ _ (by simp; omega), Below.heap_alloc _ _ _ (by simp)]
    exact hd
  · rintro k (rfl | rfl | rfl | hk)
    · exact .inr ⟨by omega, by simp⟩
    · exact .inr ⟨by omega, by simp; omega⟩
    · exact .inr ⟨by omega, by simp⟩
    · cases hk

def NewP (ad : Nat → Addr) (n : Int) (w : World) (e : Ending) (w' : World) : Prop :=
  (¬ (1 ≤ n ∧ n ≤ 65536) ∧ e = .returned (.tuple #[.pointer none, errV ad 6]) ∧ Qt w w') ∨
  (1 ≤ n ∧ n ≤ 65536 ∧ ∃ b, e = .returned (.tuple #[.pointer (some ⟨b, 0, none⟩), .nilIface]) ∧ DiskAt w' b (DS.newD n.toNat) (Grow (fun _ => False) w w') ∧ Qt w w')

theorem new_ok (n : Nat) (w : World) (h1 : 1 ≤ n) (h2 : n ≤ 65536) :
    Calls Tryd.prog 9 #[.int .i64 n] w fun e w' => e = .returned (.tuple #[.pointer (some ⟨w.heap.size + 2, 0, none⟩), .nilIface]) ∧ DiskAt w' (w.heap.size + 2) (DS.newD n) (Grow (fun _ => False) w w') ∧ Qt w w' := by
  have hmm := @run_makeMap Tryd.prog
  have hms := make_sectors n h2 w
  have g1 : decide ((n : Int) < 1) = false := by rw [decide_eq_false_iff_not]; omega
  have g2 : decide (65536 < (n : Int)) = false := by rw [decide_eq_false_iff_not]; omega
  obtain ⟨W, hW, hD, hQ⟩ := new_p w n h1 h2
  have HW := Lib.hid hW
  have HD := Lib.hid hD
  have HQ := Lib.hid hQ
  clear hD hQ hW
  go_enter Tryd.func9, Tryd.ntmps9
  go_wp2
  go_ret2
  rw [HW.out]
  exact ⟨rfl, HD.out, HQ.out⟩

theorem new_err (ad : Nat → Addr) (n : Int) (w : World) (hE : Errs ad w) (h : ¬ (1 ≤ n ∧ n ≤ 65536)) :
    Calls Tryd.prog 9 #[.int .i64 n] w fun e w' => e = .returned (.tuple #[.pointer none, errV ad 6]) ∧ Qt w w' := by
  have e6 : w.cell? ⟨0, 0, none⟩ = some (.iface 168 (.pointer (some (ad 6)))) := hE.cells 5 _ rfl
  by_cases h1 : n < 1
  · clear h hE
    go_enter Tryd.func9, Tryd.ntmps9
    go_wp2
    go_quiet (fail)
    go_wp2
    go_ret2
    exact ⟨rfl, (Qt.refl _).drewN _⟩
  · have g1 : decide (n < 1) = false := decide_eq_false h1
    have h2 : 65536 < n := by omega
    clear h hE h1
    go_enter Tryd.func9, Tryd.ntmps9
    go_wp2
    go_quiet (fail)
    go_wp2
    go_ret2
    exact ⟨rfl, (Qt.refl _).drewN _⟩

theorem new_any (ad : Nat → Addr) (n : Int) (w : World) (hE : Errs ad w) : Calls Tryd.prog 9 #[.int .i64 n] w (NewP ad n w) := by
  by_cases h : 1 ≤ n ∧ n ≤ 65536
  · obtain ⟨h1, h2⟩ := h
    obtain ⟨k, rfl⟩ := Int.eq_ofNat_of_zero_le (show 0 ≤ n by omega)
    refine (new_ok k w (by omega) (by omega)).mono ?_
    rintro e w' ⟨he, hD, hQ⟩
    exact .inr ⟨h1, h2, _, he, hD, hQ⟩
  · refine (new_err ad n w hE h).mono ?_
    rintro e w' ⟨he, hQ⟩
    exact .inl ⟨h, he, hQ⟩
end Go.Proofs.YtggogaaooacooaaDoor
namespace Go.Proofs
open Go.Shelf
def Tryd.lays169_ren : Go.Shelf.Ren := ⟨fun | 169 => 47 | n => n, fun | 70 => 96 | 9 => 9 | 0 => 0 | 72 => 98 | 37 => 75 | 127 => 128 | 3 => 3 | 5 => 5 | n => n, fun | n => n⟩
theorem Tryd.lays169 : Go.Proofs.Lays.n169 Tryd.prog Tryd.lays169_ren := {
  mixed := by kernel_rfl
  f169 := Tryd.func47.trans (congrArg some (by kernel_rfl))
  t0 := Tryd.underlying0
  a0 := Tryd.isAgg0
  z0 := Tryd.sizeOf0
  v0 := Tryd.zeroValue0
  t3 := Tryd.underlying3
  a3 := Tryd.isAgg3
  z3 := Tryd.sizeOf3
  v3 := Tryd.zeroValue3
  t9 := Tryd.underlying9
  a9 := Tryd.isAgg9
  z9 := Tryd.sizeOf9
  v9 := Tryd.zeroValue9
  t37 := Tryd.underlying75
  a37 := Tryd.isAgg75
  z37 := Tryd.sizeOf75
  v37 := Tryd.zeroValue75
  t70 := Tryd.underlying96
  a70 := Tryd.isAgg96
  z70 := Tryd.sizeOf96
  v70 := Tryd.zeroValue96
  t72 := Tryd.underlying98
  a72 := Tryd.isAgg98
  z72 := Tryd.sizeOf98
  v72 := Tryd.zeroValue98
  t127 := Tryd.underlying128
  a127 := Tryd.isAgg128
  z127 := Tryd.sizeOf128
  v127 := Tryd.zeroValue128 }
theorem Tryd.Builder_Extra_169 : Builder.Extra Tryd.prog Tryd.lays169_ren := {
  sizeBuilder := by kernel_rfl
  liesBuilder := by kernel_rfl
  t5 := Tryd.underlying5
  a5 := Tryd.isAgg5
  z5 := Tryd.sizeOf5
  v5 := Tryd.zeroValue5
  infoByte := by kernel_rfl
  cellsByte := by kernel_rfl
  sizeByte := by kernel_rfl
  neB5 := by decide }
open Go.RowKit in
theorem Tryd.Builder_String_any (B b : Nat) (l : List UInt8) (w : World) (h : Lib.IsBuilder 98 5 B b (Lib.byteCells l) w) (hBw : B ≤ w.heap.size) :
    Calls Tryd.prog 47 #[.pointer (some ⟨b, 0, none⟩)] w fun e w' => e = .returned (.string ⟨l.toArray⟩) ∧ Below B w w' := Any.Builder_String_any Tryd.lays169 Tryd.Builder_Extra_169 B b l w h hBw
def Tryd.lays165_ren : Go.Shelf.Ren := ⟨fun | 165 => 45 | 240 => 71 | 241 => 72 | 276 => 86 | 277 => 87 | n => n, fun | 70 => 96 | 3 => 3 | 0 => 0 | 4 => 4 | 9 => 9 | 20 => 20 | 72 => 98 | 37 => 75 | 164 => 146 | 5 => 5 | n => n, fun | n => n⟩
theorem Tryd.lays165 : Go.Proofs.Lays.n165 Tryd.prog Tryd.lays165_ren := {
  mixed := by kernel_rfl
  f165 := Tryd.func45.trans (congrArg some (by kernel_rfl))
  f240 := Tryd.func71.trans (congrArg some (by kernel_rfl))
  f241 := Tryd.func72.trans (congrArg some (by kernel_rfl))
  f276 := Tryd.func86.trans (congrArg some (by kernel_rfl))
  f277 := Tryd.func87.trans (congrArg some (by kernel_rfl))
  t0 := Tryd.underlying0
  a0 := Tryd.isAgg0
  z0 := Tryd.sizeOf0
  v0 := Tryd.zeroValue0
  t3 := Tryd.underlying3
  a3 := Tryd.isAgg3
  z3 := Tryd.sizeOf3
  v3 := Tryd.zeroValue3
  t4 := Tryd.underlying4
  a4 := Tryd.isAgg4
  z4 := Tryd.sizeOf4
  v4 := Tryd.zeroValue4
  t9 := Tryd.underlying9
  a9 := Tryd.isAgg9
  z9 := Tryd.sizeOf9
  v9 := Tryd.zeroValue9
  t20 := Tryd.underlying20
  a20 := Tryd.isAgg20
  z20 := Tryd.sizeOf20
  v20 := Tryd.zeroValue20
  t37 := Tryd.underlying75
  a37 := Tryd.isAgg75
  z37 := Tryd.sizeOf75
  v37 := Tryd.zeroValue75
  t70 := Tryd.underlying96
  a70 := Tryd.isAgg96
  z70 := Tryd.sizeOf96
  v70 := Tryd.zeroValue96
  t72 := Tryd.underlying98
  a72 := Tryd.isAgg98
  z72 := Tryd.sizeOf98
  v72 := Tryd.zeroValue98
  t164 := Tryd.underlying146
  a164 := Tryd.isAgg146
  z164 := Tryd.sizeOf146
  v164 := Tryd.zeroValue146 }
theorem Tryd.Builder_Extra_165 : Builder.Extra Tryd.prog Tryd.lays165_ren := {
  sizeBuilder := by kernel_rfl
  liesBuilder := by kernel_rfl
  t5 := Tryd.underlying5
  a5 := Tryd.isAgg5
  z5 := Tryd.sizeOf5
  v5 := Tryd.zeroValue5
  infoByte := by kernel_rfl
  cellsByte := by kernel_rfl
  sizeByte := by kernel_rfl
  neB5 := by decide }
open Go.RowKit in
theorem Tryd.Builder_Grow_fresh (B b n : Nat) (w : World) (hB : B ≤ b) (hbk : w.heap[b]? = some (.cells #[.pointer none, .slice none 0 0] 98 (0, 0))) (hBw : B ≤ w.heap.size) (hn : n ≤ 281474976710656) :
    Calls Tryd.prog 45 #[.pointer (some ⟨b, 0, none⟩), .int .i64 n] w fun e w' => e = .returned (.tuple #[]) ∧ (Lib.BuilderAt 98 5 B b (.pointer (some ⟨b, 0, none⟩)) [] w' ∧ Below B w w') := Any.Builder_Grow_fresh Tryd.lays165 Tryd.Builder_Extra_165 B b n w hB hbk hBw hn
def Tryd.lays103_ren : Go.Shelf.Ren := ⟨fun | 103 => 82 | 210 => 96 | 206 => 105 | n => n, fun | 9 => 9 | 4 => 4 | 24 => 112 | 3 => 3 | n => n, fun | n => n⟩
theorem Tryd.lays103 : Go.Proofs.Lays.n103 Tryd.prog Tryd.lays103_ren := {
  mixed := by kernel_rfl
  f103 := Tryd.func82.trans (congrArg some (by kernel_rfl))
  f206 := Tryd.func105.trans (congrArg some (by kernel_rfl))
  f210 := Tryd.func96.trans (congrArg some (by kernel_rfl))
  t3 := Tryd.underlying3
  a3 := Tryd.isAgg3
  z3 := Tryd.sizeOf3
  v3 := Tryd.zeroValue3
  t4 := Tryd.underlying4
  a4 := Tryd.isAgg4
  z4 := Tryd.sizeOf4
  v4 := Tryd.zeroValue4
  t9 := Tryd.underlying9
  a9 := Tryd.isAgg9
  z9 := Tryd.sizeOf9
  v9 := Tryd.zeroValue9
  t24 := Tryd.underlying112
  a24 := Tryd.isAgg112
  z24 := Tryd.sizeOf112
  v24 := Tryd.zeroValue112 }
open Go.RowKit in
theorem Tryd.strings_CutPrefix (s p : ByteArray) (w : World) :
    Calls Tryd.prog 82 #[.string s, .string p] w fun e w' => e = .returned (.tuple #[.string ⟨(Lib.trimPrefix s.data.toList p.data.toList).toArray⟩, .bool (Lib.hasPrefix s.data.toList p.data.toList)]) ∧ w' = w := Any.strings_CutPrefix Tryd.lays103 s p w
end Go.Proofs
