/-
  The contracts of remitref06's Flush and Crash.
  The contract of remitref06's Crash.
-/
import Derived.Test.YtggogaaooacooaaDoorP19
import Derived.Test.YtggogaaooacooaaDoorP16
namespace Go.Proofs.YtggogaaooacooaaDoor
open Go.RowKit Go.WideShapes
set_option maxRecDepth 100000

section
variable {w : World} {b : Nat} {sv wv : Value} {d : DS}

/-- Behind the store of a sector. -/
theorem RefP.store {g c p : Nat} {s : List UInt8} (h : RefP w b (.slice (some ⟨g, 0, none⟩) d.dur.length c) wv d) (hp : p < d.dur.length) (hs : s.length = 256) :
    RefP (w.setCell ⟨g, p, none⟩ (.string ⟨s.toArray⟩)) b (.slice (some ⟨g, 0, none⟩) d.dur.length c) wv (d.setDur (d.dur.set p s)) ∧ Keeps (rfoot b (.slice (some ⟨g, 0, none⟩) d.dur.length c) wv) w (w.setCell ⟨g, p, none⟩ (.string ⟨s.toArray⟩)) := by
  obtain ⟨a1, a2, a3⟩ := h.apart
  have K := keeps_setCell w g p (.string ⟨s.toArray⟩)
  have hg : (Value.slice (some ⟨g, 0, none⟩) d.dur.length c).ownBlock = some g := by simp [Value.ownBlock]
  have hgb : b ≠ g := fun e => a1 (by rw [hg, e])
  refine ⟨⟨?_, ?_, ?_, ?_⟩, K.mono (fun k _ e => by subst e; exact .inr (.inl hg))⟩
  · exact ⟨by simp only [DS.setDur, List.length_set]; exact h.ok.pos, by simp only [DS.setDur, List.length_set]; exact h.ok.le, each_set h.ok.each hs, by simp only [DS.setDur, List.length_set]; exact h.ok.way, h.ok.a0, h.ok.a1⟩
  · exact (K.block b (lt_of_block h.cells) hgb).trans h.cells
  · have := ownsRow_store h.secs hp (strV s)
    simp only [DS.setDur, List.length_set, List.map_set]
    exact this
  · exact ownsRow_kept h.ways K (fun k e q => by subst q; exact a3 k hg e)

/-- The state of Flush's loop. -/
def SFlushAt (w : World) (b : Nat) (sv wv : Value) (d : DS) (iv : Value) (wr : World) : Prop :=
  ∃ k : Nat, k ≤ d.ways.length ∧ iv = .int .i64 k ∧ RefP wr b sv wv (d.setDur (flushTo d.dur d.ways k)) ∧ Keeps (rfoot b sv wv) w wr

/-- Behind the end of a flush or a crash: no way is under way. -/
theorem RefP.forget (h : RefP w b sv wv d) (u : DS) (hu : u.dur = d.dur) (hw : u.ways = []) (ho : u.Ok) {W : World} (hk : Keeps (fun k => k = b) w W) (hc : W.heap[b]? = some (.cells (refCells sv (.slice none 0 0) u) 84 (0, 0))) : RefP W b sv (.slice none 0 0) u := by
  obtain ⟨a1, a2, _⟩ := h.apart
  refine ⟨ho, hc, ?_, ?_⟩
  · rw [hu]; exact ownsRow_kept h.secs hk (fun k e1 e2 => by subst e2; exact a1 e1)
  · rw [hw]; exact World.ownsRow_nil W 0 _ 2

/-- What a Flush of the reference leaves. -/
def SFlushedP (w : World) (b : Nat) (sv wv : Value) (d : DS) (e : Ending) (w' : World) : Prop :=
  e = .returned (.int .i64 d.flushE) ∧ ∃ wv', RefP w' b sv wv' d.flushD ∧ Keeps (rfoot b sv wv) w w' ∧ (wv' = wv ∨ wv' = .slice none 0 0)

set_option maxHeartbeats 3200000 in
theorem ref_flush (h : RefP w b sv wv d) (hf : d.Few) : Calls Tryd.prog 70 #[.pointer (some ⟨b, 0, none⟩)] w (SFlushedP w b sv wv d) := by
  have c2 : w.cell? ⟨b, 2, none⟩ = some (.bool d.off) := h.cell 2 _ rfl
  by_cases hof : d.off = true
  · rw [hof] at c2
    have FIN := Lib.hid (show SFlushedP w b sv wv d (.returned (.int .i64 12)) w from ⟨by unfold DS.flushE; rw [if_pos hof]; rfl, wv, by unfold DS.flushD; rw [if_pos hof]; exact h, Keeps.refl _ _, .inl rfl⟩)
    clear h hof
    go_enter Tryd.func70, Tryd.ntmps70
    go_wp2
    go_ret
    exact FIN.out
  have hof' : d.off = false := by simpa using hof
  rw [hof'] at c2
  have hwn := hf.ways
  have hfl := hf.fl
  obtain ⟨gs, sc, hsv, _⟩ := h.sec (p := 0) (by have := h.ok.pos; omega)
  subst hsv
  obtain ⟨wa, wc, hwv, _⟩ := own_slice h.ways
  subst hwv
  have H := Lib.hid h
  have HOF := Lib.hid hof'
  clear h hof hof'
  go_enter Tryd.func70, Tryd.ntmps70
  go_wp2_with fail
  refine (ref_goes H.out HOF.out).mono ?_
  rintro e w1 ⟨rfl, P1, K1⟩
  by_cases h0 : d.armed = 0
  · have FIN := Lib.hid (show SFlushedP w b (.slice (some ⟨gs, 0, none⟩) d.dur.length sc) (.slice wa d.ways.length wc) d (.returned (.int .i64 12)) w1 from ⟨by unfold DS.flushE; rw [if_neg (by simp [HOF.out]), if_pos h0]; rfl, _, by
      have e : d.flushD = d.goes := by unfold DS.flushD DS.goes; rw [if_neg (by simp [HOF.out]), if_pos h0, if_pos h0]
      rw [e]; exact P1, K1.mono (fun k _ e => .inl e), .inl rfl⟩)
    rw [decide_eq_true h0]
    clear P1 K1 h0
    go_wp2_with fail
    go_ret
    exact FIN.out
  · have hgo : d.goes = { d with armed := dec d.armed } := if_neg h0
    have hE : d.flushE = 0 := by unfold DS.flushE; rw [if_neg (by simp [HOF.out]), if_neg h0]
    have hW : d.flushD = { d with dur := flushTo d.dur d.ways d.ways.length, ways := [], armed := dec d.armed, fl := d.fl + 1 } := by unfold DS.flushD; rw [if_neg (by simp [HOF.out]), if_neg h0]
    have hokf := Lib.hid H.out.ok.flush
    rw [hgo] at P1
    rw [decide_eq_false h0]
    obtain ⟨d1, hd1⟩ : ∃ d1 : DS, { d with armed := dec d.armed } = d1 := ⟨_, rfl⟩
    have e1 : d1.dur = d.dur := by rw [← hd1]
    have e2 : d1.ways = d.ways := by rw [← hd1]
    rw [hd1] at P1
    have HD1 := Lib.hid hd1
    have HP1 := Lib.hid P1
    have HK1 := Lib.hid K1
    have HEE := Lib.hid hE
    have HWW := Lib.hid hW
    have E1 := Lib.hid e1
    have E2 := Lib.hid e2
    have c0 : w1.cell? ⟨b, 0, none⟩ = some (.slice (some ⟨gs, 0, none⟩) d.dur.length sc) := P1.cell 0 _ rfl
    have c1 : w1.cell? ⟨b, 1, none⟩ = some (.slice wa d.ways.length wc) := P1.cell 1 _ rfl
    clear P1 K1 h0 hgo hE hW hd1 e1 e2
    go_wp2_with fail
    clear c0 c1
    go_loopw [18] (fun iv wr => SFlushAt w1 b (.slice (some ⟨gs, 0, none⟩) d.dur.length sc) (.slice wa d.ways.length wc) d1 iv wr) (fun iv _ => d.ways.length - (intOf iv).toNat)
    case atStart => exact ⟨0, Nat.zero_le _, rfl, HP1.out, Keeps.refl _ _⟩
    case round =>
      obtain ⟨k, hk, rfl, P, K⟩ := hrel
      rw [E2.out] at hk
      by_cases hlt : k < d.ways.length
      · obtain ⟨x, hx⟩ : ∃ x, d.ways[k]? = some x := ⟨_, List.getElem?_eq_getElem hlt⟩
        have hx' : (d1.setDur (flushTo d1.dur d1.ways k)).ways[k]? = some x := by simp only [DS.setDur]; rw [E2.out]; exact hx
        obtain ⟨g, c, hwv, y0, y1⟩ := P.way hx'
        rw [show (d1.setDur (flushTo d1.dur d1.ways k)).ways.length = d.ways.length from congrArg List.length E2.out] at hwv
        injection hwv with hwa _ hwc
        subst hwa hwc
        obtain ⟨hx1, hx2⟩ := H.out.ok.way k x hx
        have hle := H.out.ok.le
        have hln : (d1.setDur (flushTo d1.dur d1.ways k)).dur.length = d.dur.length := by simp only [DS.setDur, flushTo_length]; rw [E1.out]
        obtain ⟨W, hW, qW, hbW, z0, z1⟩ := laid_wayR wr x.1 ⟨x.2.toArray⟩
        have HW := Lib.hid hW
        have PW := P.kept (Keeps.drew qW) (fun _ _ e => e)
        rw [← hln] at PW
        obtain ⟨PS, KS⟩ := PW.store (p := x.1) (by rw [hln]; exact hx1) hx2
        obtain ⟨_, _, hs2, ys⟩ := PW.sec (p := x.1) (by rw [hln]; exact hx1)
        injection hs2 with hs2 _ hs3
        injection hs2 with hs2
        injection hs2 with hs2
        subst hs2
        have c0 : W.cell? ⟨b, 0, none⟩ = some (.slice (some ⟨gs, 0, none⟩) d.dur.length sc) := by
          have := PW.cell 0 _ rfl
          rw [hln] at this
          exact this
        have fs : W.drew.frozen? ⟨gs, x.1, none⟩ = false := by
          rcases PW.secs.2 with ⟨e, _⟩ | ⟨g', cap, cur, e, _, hg, _⟩
          · cases e
          · injection e with e _ _
            injection e with e
            injection e with e
            subst e
            exact frozen_of_row hg _
        rw [hln] at PS KS
        have FF := Lib.hid (show SFlushAt w1 b (.slice (some ⟨gs, 0, none⟩) d.dur.length sc) (.slice (some ⟨g, 0, none⟩) d.ways.length wc) d1 (.int .i64 ((k : Int) + 1)) (W.drew.setCell ⟨gs, x.1, none⟩ (.string ⟨x.2.toArray⟩)) from ⟨k + 1, by rw [E2.out]; exact hlt, by simp, by
          rw [flushTo_succ (show d1.ways[k]? = some x by rw [E2.out]; exact hx)]
          exact PS, Keeps.trans (Keeps.trans K (Keeps.drew qW) (fun _ _ e => e.elim)) KS (fun _ _ e => e)⟩)
        have hx1' : x.1 < 65536 := by omega
        clear P K PW PS KS hs3 hx hx' hW qW hbW
        go_wp2_with fail
        rw [HW.out]
        go_wp2_with fail
        refine wp_region_still_tail 9 (by kernel_rfl) (by kernel_rfl) ?_
        simp only [List.take_succ_cons, List.take_zero, List.drop_succ_cons, List.drop_zero]
        repeat still_step
        try refine wpStill_nil ?_
        change wpList _ _ _ _ _ (World.drew W)
        go_wp2_with fail
        go_roundw
        case rel => exact FF.out
        case measure => simp [intOf]; omega
      · obtain rfl : k = d.ways.length := by omega
        have hfe : d1.setDur (flushTo d1.dur d1.ways d.ways.length) = DS.mk (flushTo d.dur d.ways d.ways.length) d.ways (dec d.armed) d.off d.wr d.fl d.cr := by rw [← HD1.out]; rfl
        rw [hfe] at P
        have c6 : wr.cell? ⟨b, 6, none⟩ = some (.int .i64 d.fl) := P.cell 6 _ rfl
        have c1 : wr.cell? ⟨b, 1, none⟩ = some (.slice wa d.ways.length wc) := P.cell 1 _ rfl
        have f1 := frozen_of_row P.cells 1
        have f6 := frozen_of_row P.cells 6
        have kS := Keeps.trans (keeps_setCell wr b 1 (.slice none 0 0)) (keeps_setCell _ b 6 (.int .i64 ((d.fl : Int) + 1))) (fun _ _ e => e)
        have PF := P.forget d.flushD (by rw [HWW.out]) (by rw [HWW.out]) hokf.out kS (by
          rw [setCell_row (setCell_row P.cells 1 _) 6 _, HWW.out]
          simp [refCells])
        have FIN := Lib.hid (show SFlushedP w b (.slice (some ⟨gs, 0, none⟩) d.dur.length sc) (.slice wa d.ways.length wc) d (.returned (.int .i64 0)) _ from ⟨by rw [HEE.out]; rfl, _, PF, Keeps.trans (Keeps.trans (HK1.out.mono (fun k _ e => (show rfoot b (.slice (some ⟨gs, 0, none⟩) d.dur.length sc) (.slice wa d.ways.length wc) k from .inl e))) K (fun _ _ e => e)) kS (fun k _ e => .inl e), .inr rfl⟩)
        clear P K kS PF hfe hlt
        go_wp2_with fail
        go_ret
        exact FIN.out
end
end Go.Proofs.YtggogaaooacooaaDoor
namespace Go.Proofs.YtggogaaooacooaaDoor
open Go.RowKit Go.WideShapes
set_option maxRecDepth 100000

/-- The state of Crash's loop. -/
def SCrashAt (f : FT) (w : World) (b : Nat) (sv wv : Value) (d : DS) (iv : Value) (wr : World) : Prop :=
  ∃ k : Nat, k ≤ d.ways.length ∧ iv = .int .i64 k ∧ RefP wr b sv wv (d.setDur (crashTo f d.dur d.ways k)) ∧ Keeps (rfoot b sv wv) w wr

/-- A sector torn, as a text. -/
theorem torn_text (X O : List UInt8) (hX : X.length = 256) (hO : O.length = 256) (n : Nat) (hn : n ≤ 256) : ∃ X1 O2 : ByteArray,
    (∀ wx : World, (Instr.slice 9 (.string ⟨X.toArray⟩) none (some (.int .i64 (n : Int))) none).run Tryd.prog wx = .ok (.string X1) wx) ∧
    (∀ wx : World, (Instr.slice 9 (.string ⟨O.toArray⟩) (some (.int .i64 (n : Int))) none none).run Tryd.prog wx = .ok (.string O2) wx) ∧
    X1 ++ O2 = ⟨(tornBy O X n).toArray⟩ ∧ ¬ (9223372036854775807 < X1.size + O2.size) := by
  have zX : (⟨X.toArray⟩ : ByteArray).size = 256 := (List.size_toArray ..).trans hX
  have zO : (⟨O.toArray⟩ : ByteArray).size = 256 := (List.size_toArray ..).trans hO
  refine ⟨(⟨X.toArray⟩ : ByteArray).extract 0 n, (⟨O.toArray⟩ : ByteArray).extract n 256, ?_, ?_, ?_, ?_⟩
  · intro wx
    have := run_slice_string_h (P := Tryd.prog) wx 9 ⟨X.toArray⟩ Tryd.underlying9 .i64 (n : Int) (by omega) (by rw [zX]; omega)
    simpa using this
  · intro wx
    have := run_slice_string_l (P := Tryd.prog) wx 9 ⟨O.toArray⟩ Tryd.underlying9 .i64 (n : Int) (by omega) (by rw [zO]; omega)
    rw [zO] at this
    simpa using this
  · apply ByteArray.ext
    rw [ByteArray.data_append, ByteArray.data_extract, ByteArray.data_extract]
    apply Array.toList_inj.1
    rw [Array.toList_append, Array.toList_extract, Array.toList_extract, List.extract_eq_take_drop, List.extract_eq_take_drop]
    unfold tornBy
    simp only [List.drop_zero, Nat.sub_zero]
    rw [List.take_of_length_le (l := O.drop n) (by rw [List.length_drop]; omega)]
  · rw [ByteArray.size_extract, ByteArray.size_extract, zX, zO]
    omega

section
variable {w : World} {b : Nat} {sv wv : Value} {d : DS}

/-- What a Crash of the reference leaves. -/
def SCrashedP (w : World) (b : Nat) (sv wv : Value) (d : DS) (f : FT) (e : Ending) (w' : World) : Prop :=
  e = .returned (.tuple #[]) ∧ RefP w' b sv (.slice none 0 0) (d.crashD f) ∧ Keeps (rfoot b sv wv) w w'

theorem SCrashedP.on {f : FT} {w1 wr : World} (hok : d.Ok) (q : Qt w w1) (K : Keeps (rfoot b sv wv) w1 wr) (P : RefP wr b sv wv (d.setDur (crashTo f d.dur d.ways d.ways.length))) :
    SCrashedP w b sv wv d f (.returned (.tuple #[])) (((((wr.setCell ⟨b, 1, none⟩ (.slice none 0 0)).setCell ⟨b, 3, none⟩ (.bool false)).setCell ⟨b, 4, none⟩ (.int .i64 0)).setCell ⟨b, 2, none⟩ (.bool false)).setCell ⟨b, 7, none⟩ (.int .i64 ((d.cr : Int) + 1))) := by
  have kS := Keeps.trans (Keeps.trans (Keeps.trans (Keeps.trans (keeps_setCell wr b 1 (.slice none 0 0)) (keeps_setCell _ b 3 (.bool false)) (fun _ _ e => e)) (keeps_setCell _ b 4 (.int .i64 0)) (fun _ _ e => e)) (keeps_setCell _ b 2 (.bool false)) (fun _ _ e => e)) (keeps_setCell _ b 7 (.int .i64 ((d.cr : Int) + 1))) (fun _ _ e => e)
  refine ⟨rfl, P.forget (d.crashD f) rfl rfl (hok.crash f) kS ?_, Keeps.trans (Keeps.trans (q.mono (fun _ _ e => e.elim)) K (fun _ _ e => e)) kS (fun k _ e => .inl e)⟩
  rw [setCell_row (setCell_row (setCell_row (setCell_row (setCell_row P.cells 1 _) 3 _) 4 _) 2 _) 7 _]
  simp [refCells, DS.crashD, DS.setDur]
  rfl

set_option maxHeartbeats 3200000 in
theorem ref_crash (h : RefP w b sv wv d) (hf : d.Few) (v : Value) (f : FT) (hv : Bools w v f.kept) (hb : ∀ a n c, v = .slice (some a) n c → n ≠ 0 → ¬ rfoot b sv wv a.block) :
    Calls Tryd.prog 39 #[.pointer (some ⟨b, 0, none⟩), fateV v f] w (SCrashedP w b sv wv d f) := by
  have hwn := hf.ways
  have hcr := hf.cr
  have hle := h.ok.le
  have hlt0 := h.lt
  obtain ⟨gs, sc, hsv, _⟩ := h.sec (p := 0) (by have := h.ok.pos; omega)
  subst hsv
  obtain ⟨wa, wc, hwv, _⟩ := own_slice h.ways
  subst hwv
  have hv0 := hv
  obtain ⟨ka, kc, hkv, hkc⟩ := hv0
  subst hkv
  have q1 := (Qt.refl w).alloc (.cells #[.slice ka f.kept.length kc, .int .i64 f.torn, .int .i64 f.bytes] 40)
  have hblk := heap_alloc_new w (.cells #[.slice ka f.kept.length kc, .int .i64 f.torn, .int .i64 f.bytes] 40)
  obtain ⟨w1, hw1⟩ : ∃ w1, w.alloc (.cells #[.slice ka f.kept.length kc, .int .i64 f.torn, .int .i64 f.bytes] 40) = w1 := ⟨_, rfl⟩
  rw [hw1] at q1 hblk
  have P1 := h.kept q1 (fun _ _ e => e)
  have c1 : (w.alloc (.cells #[.slice ka f.kept.length kc, .int .i64 f.torn, .int .i64 f.bytes] 40)).cell? ⟨b, 1, none⟩ = some (.slice wa d.ways.length wc) := by rw [hw1]; exact P1.cell 1 _ rfl
  have HW1 := Lib.hid hw1
  have HP1 := Lib.hid P1
  have HQ1 := Lib.hid q1
  have H := Lib.hid h
  have HB := Lib.hid (fun wr (K : Keeps (rfoot b (.slice (some ⟨gs, 0, none⟩) d.dur.length sc) (.slice wa d.ways.length wc)) w1 wr) (j : Nat) (u : Value) (hj : #[Value.slice ka f.kept.length kc, .int .i64 f.torn, .int .i64 f.bytes][j]? = some u) => (K.cellv (p := ⟨w.heap.size, j, none⟩) (by rw [cell_of_row w1 _ _ _ _ _ hblk]; exact hj) (fun e => absurd (hlt0 _ e) (Nat.lt_irrefl _)) : wr.cell? ⟨w.heap.size, j, none⟩ = some u))
  have HKC := Lib.hid (fun wr (K : Keeps (rfoot b (.slice (some ⟨gs, 0, none⟩) d.dur.length sc) (.slice wa d.ways.length wc)) w1 wr) (k : Nat) (x : Bool) (hx : f.kept[k]? = some x) => (show ∃ g o, ka = some ⟨g, o, none⟩ ∧ wr.cell? ⟨g, o + k, none⟩ = some (.bool x) from by
    obtain ⟨g, o, e, hc⟩ := hkc k x hx
    refine ⟨g, o, e, K.cellv (Qt.cellv q1 hc) (fun m => hb ⟨g, o, none⟩ f.kept.length kc (by rw [e]) (fun e0 => ?_) m)⟩
    have := (List.getElem?_eq_some_iff.1 hx).1
    omega))
  clear P1 hblk q1 h hv hb hkc hlt0 hw1
  unfold fateV
  go_enter Tryd.func39, Tryd.ntmps39
  go_wp2_with fail
  rw [HW1.out]
  clear c1
  go_loopw [12] (fun iv wr => SCrashAt f w1 b (.slice (some ⟨gs, 0, none⟩) d.dur.length sc) (.slice wa d.ways.length wc) d iv wr) (fun iv _ => d.ways.length - (intOf iv).toNat)
  case atStart => exact ⟨0, Nat.zero_le _, rfl, HP1.out, Keeps.refl _ _⟩
  case round =>
    obtain ⟨k, hk, rfl, P, K⟩ := hrel
    by_cases hlt : k < d.ways.length
    · obtain ⟨x, hx⟩ : ∃ x, d.ways[k]? = some x := ⟨_, List.getElem?_eq_getElem hlt⟩
      obtain ⟨g, c, hwv, y0, y1⟩ := P.way (k := k) (x := x) hx
      rw [show (d.setDur (crashTo f d.dur d.ways k)).ways.length = d.ways.length from rfl] at hwv
      injection hwv with hwa _ hwc
      subst hwa hwc
      obtain ⟨hx1, hx2⟩ := H.out.ok.way k x hx
      have hln : (d.setDur (crashTo f d.dur d.ways k)).dur.length = d.dur.length := by simp only [DS.setDur, crashTo_length]
      obtain ⟨W, hW, qW, hbW, z0, z1⟩ := laid_wayR wr x.1 ⟨x.2.toArray⟩
      have HW := Lib.hid hW
      have PW := P.kept (Keeps.drew qW) (fun _ _ e => e)
      rw [← hln] at PW
      have hol := getD_length P.ok.each (show x.1 < (d.setDur (crashTo f d.dur d.ways k)).dur.length by rw [hln]; exact hx1)
      have hdn := f.done_le k
      obtain ⟨PS, KS⟩ := PW.store (p := x.1) (by rw [hln]; exact hx1) (tornBy_length hol hx2 hdn)
      obtain ⟨_, _, hs2, ys⟩ := PW.sec (p := x.1) (by rw [hln]; exact hx1)
      injection hs2 with hs2 _ hs3
      injection hs2 with hs2
      injection hs2 with hs2
      subst hs2
      have c0 : W.cell? ⟨b, 0, none⟩ = some (.slice (some ⟨gs, 0, none⟩) d.dur.length sc) := by
        have := PW.cell 0 _ rfl
        rw [hln] at this
        exact this
      have yw : W.cell? ⟨gs, x.1, none⟩ = some (.string ⟨((d.setDur (crashTo f d.dur d.ways k)).dur.getD x.1 []).toArray⟩) := ys
      have fs : W.drew.frozen? ⟨gs, x.1, none⟩ = false := by
        rcases PW.secs.2 with ⟨e, _⟩ | ⟨g', cap, cur, e, _, hg, _⟩
        · cases e
        · injection e with e _ _
          injection e with e
          injection e with e
          subst e
          exact frozen_of_row hg _
      rw [hln] at PS KS
      obtain ⟨X1, O2, s1, s2, hcat, hadd⟩ := torn_text x.2 ((d.setDur (crashTo f d.dur d.ways k)).dur.getD x.1 []) hx2 hol (f.done k) hdn
      have FF0 : SCrashAt f w1 b (.slice (some ⟨gs, 0, none⟩) d.dur.length sc) (.slice (some ⟨g, 0, none⟩) d.ways.length wc) d (.int .i64 ((k : Int) + 1)) (W.drew.setCell ⟨gs, x.1, none⟩ (.string ⟨(tornBy ((d.setDur (crashTo f d.dur d.ways k)).dur.getD x.1 []) x.2 (f.done k)).toArray⟩)) := ⟨k + 1, hlt, by simp, by
        rw [crashTo_succ hx]
        exact PS, Keeps.trans (Keeps.trans K (Keeps.drew qW) (fun _ _ e => e.elim)) KS (fun _ _ e => e)⟩
      rw [← hcat] at FF0
      have FF := Lib.hid FF0
      have e0 : W.cell? ⟨w.heap.size, 0, none⟩ = some (.slice ka f.kept.length kc) := Qt.cellv qW (HB.out wr K 0 _ rfl)
      have e1 : W.cell? ⟨w.heap.size, 1, none⟩ = some (.int .i64 f.torn) := Qt.cellv qW (HB.out wr K 1 _ rfl)
      have e2 : W.cell? ⟨w.heap.size, 2, none⟩ = some (.int .i64 f.bytes) := Qt.cellv qW (HB.out wr K 2 _ rfl)
      have HKW := Lib.hid (fun (x : Bool) (hx : f.kept[k]? = some x) => (show ∃ g o, ka = some ⟨g, o, none⟩ ∧ W.cell? ⟨g, o + k, none⟩ = some (.bool x) from by
        obtain ⟨g, o, e, hc⟩ := HKC.out wr K k x hx
        exact ⟨g, o, e, Qt.cellv qW hc⟩))
      have hx1' : x.1 < 65536 := by omega
      have hdf : f.done k = if (k : Int) = f.torn then (min (max f.bytes 0) 256).toNat else if f.kept.getD k false then 256 else 0 := rfl
      clear P K PW PS KS hs3 hx qW hbW FF0 hcat hW ys
      obtain ⟨Z1, hZ1⟩ : ∃ Z : ByteArray, ⟨x.2.toArray⟩ = Z := ⟨_, rfl⟩
      obtain ⟨Z2, hZ2⟩ : ∃ Z : ByteArray, ⟨((d.setDur (crashTo f d.dur d.ways k)).dur.getD x.1 []).toArray⟩ = Z := ⟨_, rfl⟩
      rw [hZ1] at s1 z1 y1 HW
      rw [hZ2] at s2 yw
      clear hZ1 hZ2 hol hx2 hln
      have e0a : (wr.alloc (.cells #[.int .i64 x.1, .string Z1] 121)).cell? ⟨w.heap.size, 0, none⟩ = some (.slice ka f.kept.length kc) := by rw [HW.out]; exact e0
      have e1a : (wr.alloc (.cells #[.int .i64 x.1, .string Z1] 121)).cell? ⟨w.heap.size, 1, none⟩ = some (.int .i64 f.torn) := by rw [HW.out]; exact e1
      have e2a : (wr.alloc (.cells #[.int .i64 x.1, .string Z1] 121)).cell? ⟨w.heap.size, 2, none⟩ = some (.int .i64 f.bytes) := by rw [HW.out]; exact e2
      by_cases hk2 : k < f.kept.length
      · obtain ⟨kb, hkb⟩ : ∃ kb, f.kept[k]? = some kb := ⟨_, List.getElem?_eq_getElem hk2⟩
        obtain ⟨gk, ok, hka, hkc⟩ := HKW.out kb hkb
        subst hka
        have hkca : (wr.alloc (.cells #[.int .i64 x.1, .string Z1] 121)).cell? ⟨gk, ok + k, none⟩ = some (.bool kb) := by rw [HW.out]; exact hkc
        have gk1 : decide ((k : Int) < (f.kept.length : Int)) = true := decide_eq_true (by omega)
        have hgd : f.kept.getD k false = kb := by simp [List.getD, hkb]
        clear hkb
        cases kb with
        | true =>
          by_cases ht : (k : Int) = f.torn
          · have bT : ((k : Int) == f.torn) = true := beq_iff_eq.2 ht
            have hd : (f.done k : Int) = min (max f.bytes 0) 256 := by rw [hdf, if_pos ht]; omega
            rw [hd] at s1 s2
            clear ht hdf hd hgd
            go_wp2_with fail
            rw [HW.out]
            refine wp_region_still_tail 22 (by kernel_rfl) (by kernel_rfl) ?_
            simp only [List.take_succ_cons, List.take_zero, List.drop_succ_cons, List.drop_zero]
            repeat still_step
            try refine wpStill_nil ?_
            change wpList _ _ _ _ _ (World.drew W)
            go_wp2_with fail
            go_roundw
            case rel => exact FF.out
            case measure => simp [intOf]; omega
          · have bT : ((k : Int) == f.torn) = false := beq_eq_false_iff_ne.2 ht
            have hd : (f.done k : Int) = 256 := by rw [hdf, if_neg ht, hgd, if_pos rfl]; rfl
            rw [hd] at s1 s2
            clear ht hdf hd hgd
            go_wp2_with fail
            rw [HW.out]
            refine wp_region_still_tail 22 (by kernel_rfl) (by kernel_rfl) ?_
            simp only [List.take_succ_cons, List.take_zero, List.drop_succ_cons, List.drop_zero]
            repeat still_step
            try refine wpStill_nil ?_
            change wpList _ _ _ _ _ (World.drew W)
            go_wp2_with fail
            go_roundw
            case rel => exact FF.out
            case measure => simp [intOf]; omega
        | false =>
          by_cases ht : (k : Int) = f.torn
          · have bT : ((k : Int) == f.torn) = true := beq_iff_eq.2 ht
            have hd : (f.done k : Int) = min (max f.bytes 0) 256 := by rw [hdf, if_pos ht]; omega
            rw [hd] at s1 s2
            clear ht hdf hd hgd
            go_wp2_with fail
            rw [HW.out]
            refine wp_region_still_tail 22 (by kernel_rfl) (by kernel_rfl) ?_
            simp only [List.take_succ_cons, List.take_zero, List.drop_succ_cons, List.drop_zero]
            repeat still_step
            try refine wpStill_nil ?_
            change wpList _ _ _ _ _ (World.drew W)
            go_wp2_with fail
            go_roundw
            case rel => exact FF.out
            case measure => simp [intOf]; omega
          · have bT : ((k : Int) == f.torn) = false := beq_eq_false_iff_ne.2 ht
            have hd : (f.done k : Int) = 0 := by rw [hdf, if_neg ht, hgd, if_neg (by decide)]; rfl
            rw [hd] at s1 s2
            clear ht hdf hd hgd
            go_wp2_with fail
            rw [HW.out]
            refine wp_region_still_tail 22 (by kernel_rfl) (by kernel_rfl) ?_
            simp only [List.take_succ_cons, List.take_zero, List.drop_succ_cons, List.drop_zero]
            repeat still_step
            try refine wpStill_nil ?_
            change wpList _ _ _ _ _ (World.drew W)
            go_wp2_with fail
            go_roundw
            case rel => exact FF.out
            case measure => simp [intOf]; omega
      · have gk1 : decide ((k : Int) < (f.kept.length : Int)) = false := decide_eq_false (by omega)
        have hgd : f.kept.getD k false = false := by simp [List.getD, List.getElem?_eq_none (Nat.le_of_not_lt hk2)]
        by_cases ht : (k : Int) = f.torn
        · have bT : ((k : Int) == f.torn) = true := beq_iff_eq.2 ht
          have hd : (f.done k : Int) = min (max f.bytes 0) 256 := by rw [hdf, if_pos ht]; omega
          rw [hd] at s1 s2
          clear ht hdf hd hgd
          go_wp2_with fail
          rw [HW.out]
          refine wp_region_still_tail 22 (by kernel_rfl) (by kernel_rfl) ?_
          simp only [List.take_succ_cons, List.take_zero, List.drop_succ_cons, List.drop_zero]
          repeat still_step
          try refine wpStill_nil ?_
          change wpList _ _ _ _ _ (World.drew W)
          go_wp2_with fail
          go_roundw
          case rel => exact FF.out
          case measure => simp [intOf]; omega
        · have bT : ((k : Int) == f.torn) = false := beq_eq_false_iff_ne.2 ht
          have hd : (f.done k : Int) = 0 := by rw [hdf, if_neg ht, hgd, if_neg (by decide)]; rfl
          rw [hd] at s1 s2
          clear ht hdf hd hgd
          go_wp2_with fail
          rw [HW.out]
          refine wp_region_still_tail 22 (by kernel_rfl) (by kernel_rfl) ?_
          simp only [List.take_succ_cons, List.take_zero, List.drop_succ_cons, List.drop_zero]
          repeat still_step
          try refine wpStill_nil ?_
          change wpList _ _ _ _ _ (World.drew W)
          go_wp2_with fail
          go_roundw
          case rel => exact FF.out
          case measure => simp [intOf]; omega
    · obtain rfl : k = d.ways.length := by omega
      have FIN := Lib.hid (SCrashedP.on (w := w) H.out.ok HQ1.out K P)
      have c1 : wr.cell? ⟨b, 1, none⟩ = some (.slice wa d.ways.length wc) := P.cell 1 _ rfl
      have c2 : wr.cell? ⟨b, 2, none⟩ = some (.bool d.off) := P.cell 2 _ rfl
      have c3 : wr.cell? ⟨b, 3, none⟩ = some (.bool (decide (0 ≤ d.armed))) := P.cell 3 _ rfl
      have c4 : wr.cell? ⟨b, 4, none⟩ = some (.int .i64 (max d.armed 0)) := P.cell 4 _ rfl
      have c7 : wr.cell? ⟨b, 7, none⟩ = some (.int .i64 d.cr) := P.cell 7 _ rfl
      have f1 := frozen_of_row P.cells 1
      have f2 := frozen_of_row P.cells 2
      have f3 := frozen_of_row P.cells 3
      have f4 := frozen_of_row P.cells 4
      have f7 := frozen_of_row P.cells 7
      clear P K hlt
      go_wp2_with fail
      go_end0
      exact FIN.out
end
end Go.Proofs.YtggogaaooacooaaDoor
