/-
  The contracts of remitref06's Flush and Crash.
-/
import Derived.Test.YtbifhnlinnokaaaDoorSWrite
import Derived.Test.YtbifhnlinnokaaaDoorDCrash
namespace Go.Proofs.YtbifhnlinnokaaaDoor
open Go.RowKit Go.WideShapes
set_option maxRecDepth 100000

section
variable {w : World} {b : Nat} {sv wv : Value} {d : DS}

/-- Behind the store of a sector. -/
theorem RefP.store {g c p : Nat} {s : List UInt8} (h : RefP w b (.slice (some ⟨g, 0, none⟩) d.dur.length c) wv d) (hp : p < d.dur.length) (hs : s.length = 256) :
    RefP (w.setCell ⟨g, p, none⟩ (.string ⟨s.toArray⟩)) b (.slice (some ⟨g, 0, none⟩) d.dur.length c) wv (d.setDur (d.dur.set p s)) ∧ Keeps (rfoot b (.slice (some ⟨g, 0, none⟩) d.dur.length c) wv) w (w.setCell ⟨g, p, none⟩ (.string ⟨s.toArray⟩)) := by
  obtain ⟨a1, a2, a3⟩ := h.apart
  have K := keeps_setCell w g p (.string ⟨s.toArray⟩)
  have hg : (Value.slice (some ⟨g, 0, none⟩) d.dur.length c).ownBlock = some g := by simp [Value.ownBlock]
  have hgb : b ≠ g := fun e => a1 (by rw [hg, e])
  refine ⟨⟨?_, ?_, ?_, ?_⟩, K.mono (fun k _ e => by subst e; exact .inr (.inl hg))⟩
  · exact ⟨by simp only [DS.setDur, List.length_set]; exact h.ok.pos, by simp only [DS.setDur, List.length_set]; exact h.ok.le, each_set h.ok.each hs, by simp only [DS.setDur, List.length_set]; exact h.ok.way, h.ok.a0, h.ok.a1⟩
  · exact (K.block b (lt_of_block h.cells) hgb).trans h.cells
  · have := ownsRow_store h.secs hp (strV s)
    simp only [DS.setDur, List.length_set, List.map_set]
    exact this
  · exact ownsRow_kept h.ways K (fun k e q => by subst q; exact a3 k hg e)

/-- The state of Flush's loop. -/
def SFlushAt (w : World) (b : Nat) (sv wv : Value) (d : DS) (iv : Value) (wr : World) : Prop :=
  ∃ k : Nat, k ≤ d.ways.length ∧ iv = .int .i64 k ∧ RefP wr b sv wv (d.setDur (flushTo d.dur d.ways k)) ∧ Keeps (rfoot b sv wv) w wr

/-- Behind the end of a flush or a crash: no way is under way. -/
theorem RefP.forget (h : RefP w b sv wv d) (u : DS) (hu : u.dur = d.dur) (hw : u.ways = []) (ho : u.Ok) {W : World} (hk : Keeps (fun k => k = b) w W) (hc : W.heap[b]? = some (.cells (refCells sv (.slice none 0 0) u) 61 (0, 0))) : RefP W b sv (.slice none 0 0) u := by
  obtain ⟨a1, a2, _⟩ := h.apart
  refine ⟨ho, hc, ?_, ?_⟩
  · rw [hu]; exact ownsRow_kept h.secs hk (fun k e1 e2 => by subst e2; exact a1 e1)
  · rw [hw]; exact World.ownsRow_nil W 0 _ 2

/-- What a Flush of the reference leaves. -/
def SFlushedP (w : World) (b : Nat) (sv wv : Value) (d : DS) (e : Ending) (w' : World) : Prop :=
  e = .returned (.int .i64 d.flushE) ∧ ∃ wv', RefP w' b sv wv' d.flushD ∧ Keeps (rfoot b sv wv) w w' ∧ (wv' = wv ∨ wv' = .slice none 0 0)

set_option maxHeartbeats 3200000 in
theorem ref_flush (h : RefP w b sv wv d) (hf : d.Few) : Calls Tryd.prog 34 #[.pointer (some ⟨b, 0, none⟩)] w (SFlushedP w b sv wv d) := by
  have c2 : w.cell? ⟨b, 2, none⟩ = some (.bool d.off) := h.cell 2 _ rfl
  by_cases hof : d.off = true
  · rw [hof] at c2
    have FIN := Lib.hid (show SFlushedP w b sv wv d (.returned (.int .i64 12)) w from ⟨by unfold DS.flushE; rw [if_pos hof]; rfl, wv, by unfold DS.flushD; rw [if_pos hof]; exact h, Keeps.refl _ _, .inl rfl⟩)
    clear h hof
    go_enter Tryd.func34, Tryd.ntmps34
    go_wp2
    go_ret
    exact FIN.out
  have hof' : d.off = false := by simpa using hof
  rw [hof'] at c2
  have hwn := hf.ways
  have hfl := hf.fl
  obtain ⟨gs, sc, hsv, _⟩ := h.sec (p := 0) (by have := h.ok.pos; omega)
  subst hsv
  obtain ⟨wa, wc, hwv, _⟩ := own_slice h.ways
  subst hwv
  have H := Lib.hid h
  have HOF := Lib.hid hof'
  clear h hof hof'
  go_enter Tryd.func34, Tryd.ntmps34
  go_wp2_with fail
  refine (ref_goes H.out HOF.out).mono ?_
  rintro e w1 ⟨rfl, P1, K1⟩
  by_cases h0 : d.armed = 0
  · have FIN := Lib.hid (show SFlushedP w b (.slice (some ⟨gs, 0, none⟩) d.dur.length sc) (.slice wa d.ways.length wc) d (.returned (.int .i64 12)) w1 from ⟨by unfold DS.flushE; rw [if_neg (by simp [HOF.out]), if_pos h0]; rfl, _, by
      have e : d.flushD = d.goes := by unfold DS.flushD DS.goes; rw [if_neg (by simp [HOF.out]), if_pos h0, if_pos h0]
      rw [e]; exact P1, K1.mono (fun k _ e => .inl e), .inl rfl⟩)
    rw [decide_eq_true h0]
    clear P1 K1 h0
    go_wp2_with fail
    go_ret
    exact FIN.out
  · have hgo : d.goes = { d with armed := dec d.armed } := if_neg h0
    have hE : d.flushE = 0 := by unfold DS.flushE; rw [if_neg (by simp [HOF.out]), if_neg h0]
    have hW : d.flushD = { d with dur := flushTo d.dur d.ways d.ways.length, ways := [], armed := dec d.armed, fl := d.fl + 1 } := by unfold DS.flushD; rw [if_neg (by simp [HOF.out]), if_neg h0]
    have hokf := Lib.hid H.out.ok.flush
    rw [hgo] at P1
    rw [decide_eq_false h0]
    obtain ⟨d1, hd1⟩ : ∃ d1 : DS, { d with armed := dec d.armed } = d1 := ⟨_, rfl⟩
    have e1 : d1.dur = d.dur := by rw [← hd1]
    have e2 : d1.ways = d.ways := by rw [← hd1]
    rw [hd1] at P1
    have HD1 := Lib.hid hd1
    have HP1 := Lib.hid P1
    have HK1 := Lib.hid K1
    have HEE := Lib.hid hE
    have HWW := Lib.hid hW
    have E1 := Lib.hid e1
    have E2 := Lib.hid e2
    have c0 : w1.cell? ⟨b, 0, none⟩ = some (.slice (some ⟨gs, 0, none⟩) d.dur.length sc) := P1.cell 0 _ rfl
    have c1 : w1.cell? ⟨b, 1, none⟩ = some (.slice wa d.ways.length wc) := P1.cell 1 _ rfl
    clear P1 K1 h0 hgo hE hW hd1 e1 e2
    go_wp2_with fail
    clear c0 c1
    go_loopw [18] (fun iv wr => SFlushAt w1 b (.slice (some ⟨gs, 0, none⟩) d.dur.length sc) (.slice wa d.ways.length wc) d1 iv wr) (fun iv _ => d.ways.length - (intOf iv).toNat)
    case atStart => exact ⟨0, Nat.zero_le _, rfl, HP1.out, Keeps.refl _ _⟩
    case round =>
      obtain ⟨k, hk, rfl, P, K⟩ := hrel
      rw [E2.out] at hk
      by_cases hlt : k < d.ways.length
      · obtain ⟨x, hx⟩ : ∃ x, d.ways[k]? = some x := ⟨_, List.getElem?_eq_getElem hlt⟩
        have hx' : (d1.setDur (flushTo d1.dur d1.ways k)).ways[k]? = some x := by simp only [DS.setDur]; rw [E2.out]; exact hx
        obtain ⟨g, c, hwv, y0, y1⟩ := P.way hx'
        rw [show (d1.setDur (flushTo d1.dur d1.ways k)).ways.length = d.ways.length from congrArg List.length E2.out] at hwv
        injection hwv with hwa _ hwc
        subst hwa hwc
        obtain ⟨hx1, hx2⟩ := H.out.ok.way k x hx
        have hle := H.out.ok.le
        have hln : (d1.setDur (flushTo d1.dur d1.ways k)).dur.length = d.dur.length := by simp only [DS.setDur, flushTo_length]; rw [E1.out]
        obtain ⟨W, hW, qW, hbW, z0, z1⟩ := laid_wayR wr x.1 ⟨x.2.toArray⟩
        have HW := Lib.hid hW
        have PW := P.kept (Keeps.drew qW) (fun _ _ e => e)
        rw [← hln] at PW
        obtain ⟨PS, KS⟩ := PW.store (p := x.1) (by rw [hln]; exact hx1) hx2
        obtain ⟨_, _, hs2, ys⟩ := PW.sec (p := x.1) (by rw [hln]; exact hx1)
        injection hs2 with hs2 _ hs3
        injection hs2 with hs2
        injection hs2 with hs2
        subst hs2
        have c0 : W.cell? ⟨b, 0, none⟩ = some (.slice (some ⟨gs, 0, none⟩) d.dur.length sc) := by
          have := PW.cell 0 _ rfl
          rw [hln] at this
          exact this
        have fs : W.drew.frozen? ⟨gs, x.1, none⟩ = false := by
          rcases PW.secs.2 with ⟨e, _⟩ | ⟨g', cap, cur, e, _, hg, _⟩
          · cases e
          · injection e with e _ _
            injection e with e
            injection e with e
            subst e
            exact frozen_of_row hg _
        rw [hln] at PS KS
        have FF := Lib.hid (show SFlushAt w1 b (.slice (some ⟨gs, 0, none⟩) d.dur.length sc) (.slice (some ⟨g, 0, none⟩) d.ways.length wc) d1 (.int .i64 ((k : Int) + 1)) (W.drew.setCell ⟨gs, x.1, none⟩ (.string ⟨x.2.toArray⟩)) from ⟨k + 1, by rw [E2.out]; exact hlt, by simp, by
          rw [flushTo_succ (show d1.ways[k]? = some x by rw [E2.out]; exact hx)]
          exact PS, Keeps.trans (Keeps.trans K (Keeps.drew qW) (fun _ _ e => e.elim)) KS (fun _ _ e => e)⟩)
        have hx1' : x.1 < 65536 := by omega
        clear P K PW PS KS hs3 hx hx' hW qW hbW
        go_wp2_with fail
        rw [HW.out]
        go_wp2_with fail
        refine wp_region_still_tail 9 (by kernel_rfl) (by kernel_rfl) ?_
        simp only [List.take_succ_cons, List.take_zero, List.drop_succ_cons, List.drop_zero]
        repeat still_step
        try refine wpStill_nil ?_
        change wpList _ _ _ _ _ (World.drew W)
        go_wp2_with fail
        go_roundw
        case rel => exact FF.out
        case measure => simp [intOf]; omega
      · obtain rfl : k = d.ways.length := by omega
        have hfe : d1.setDur (flushTo d1.dur d1.ways d.ways.length) = DS.mk (flushTo d.dur d.ways d.ways.length) d.ways (dec d.armed) d.off d.wr d.fl d.cr := by rw [← HD1.out]; rfl
        rw [hfe] at P
        have c6 : wr.cell? ⟨b, 6, none⟩ = some (.int .i64 d.fl) := P.cell 6 _ rfl
        have c1 : wr.cell? ⟨b, 1, none⟩ = some (.slice wa d.ways.length wc) := P.cell 1 _ rfl
        have f1 := frozen_of_row P.cells 1
        have f6 := frozen_of_row P.cells 6
        have kS := Keeps.trans (keeps_setCell wr b 1 (.slice none 0 0)) (keeps_setCell _ b 6 (.int .i64 ((d.fl : Int) + 1))) (fun _ _ e => e)
        have PF := P.forget d.flushD (by rw [HWW.out]) (by rw [HWW.out]) hokf.out kS (by
          rw [setCell_row (setCell_row P.cells 1 _) 6 _, HWW.out]
          simp [refCells])
        have FIN := Lib.hid (show SFlushedP w b (.slice (some ⟨gs, 0, none⟩) d.dur.length sc) (.slice wa d.ways.length wc) d (.returned (.int .i64 0)) _ from ⟨by rw [HEE.out]; rfl, _, PF, Keeps.trans (Keeps.trans (HK1.out.mono (fun k _ e => (show rfoot b (.slice (some ⟨gs, 0, none⟩) d.dur.length sc) (.slice wa d.ways.length wc) k from .inl e))) K (fun _ _ e => e)) kS (fun k _ e => .inl e), .inr rfl⟩)
        clear P K kS PF hfe hlt
        go_wp2_with fail
        go_ret
        exact FIN.out
end
end Go.Proofs.YtbifhnlinnokaaaDoor
