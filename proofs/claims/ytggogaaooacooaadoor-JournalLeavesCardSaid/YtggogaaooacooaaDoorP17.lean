/-
  The contracts of remitref06's Write and Flush.
  The contracts of remitref06's Flush and Crash.
-/
import Derived.Test.YtggogaaooacooaaDoorP16
import Derived.Test.YtggogaaooacooaaDoorP14
namespace Go.Proofs.YtggogaaooacooaaDoor
open Go.RowKit Go.WideShapes
set_option maxRecDepth 100000

theorem infoWay : (Tryd.prog.info? 121).map (fun i => (i.zero, i.size, i.bytes)) = some (some (.agg #[.int .i64 0, .string ⟨#[]⟩]), 2, 24) := by kernel_rfl

section
variable {w : World} {b : Nat} {sv wv : Value} {d : DS}

/-- Behind the append of a way and its store. -/
theorem RefP.push {w1 : World} {v' : Value} (h : RefP w b sv wv d) (i : Nat) (s : List UInt8) (hi : i < d.dur.length) (hs : s.length = 256)
    (ho : w1.ownsRow 0 121 2 v' (d.ways.length + 1) (d.ways.flatMap wayR ++ wayR (i, s))) (hg : w.grownBy w1 wv.ownBlock) (hl : Later w wv.ownBlock v'.ownBlock) :
    RefP (w1.setCell ⟨b, 1, none⟩ v') b sv v' { d with ways := d.ways ++ [(i, s)] } ∧ Keeps (rfoot b sv wv) w (w1.setCell ⟨b, 1, none⟩ v') ∧ (v'.ownBlock = wv.ownBlock ∨ ∀ k, v'.ownBlock = some k → w.heap.size ≤ k) := by
  obtain ⟨a1, a2, a3⟩ := h.apart
  have K1 : Keeps (fun k => some k = wv.ownBlock) w w1 := Keeps.grown (Keeps.refl _ w) hg (fun _ _ e => e)
  have hb1 : w1.heap[b]? = some (.cells (refCells sv wv d) 84 (0, 0)) := (K1.block b (lt_of_block h.cells) (fun e => a2 e.symm)).trans h.cells
  have K2 := keeps_setCell w1 b 1 v'
  have hvb : ∀ k, v'.ownBlock = some k → k ≠ b := by
    intro k hk e
    subst e
    rcases hl with q | ⟨g, q, hq⟩
    · rw [q] at hk; exact a2 hk
    · rw [hk] at q; injection q with q; subst q; have := lt_of_block h.cells; omega
  refine ⟨⟨?_, ?_, ?_, ?_⟩, ?_, ?_⟩
  · exact ⟨h.ok.pos, h.ok.le, h.ok.each, ok_ways h.ok.way ⟨hi, hs⟩, h.ok.a0, h.ok.a1⟩
  · rw [setCell_row hb1]
    simp [refCells]
  · exact ownsRow_kept (ownsRow_kept h.secs K1 (fun k e q => a3 k e q.symm)) K2 (fun k e q => by subst q; exact a1 e)
  · have := ownsRow_kept ho K2 (fun k e q => hvb k e q)
    simpa using this
  · exact Keeps.trans (Keeps.mono K1 (fun k _ e => .inr (.inr e.symm))) K2 (fun k _ e => .inl e)
  · rcases hl with q | ⟨g, q, hq⟩
    · exact .inl q
    · refine .inr (fun k hk => ?_)
      rw [hk] at q; injection q with q; subst q; exact hq

theorem RefP.blk1 {w1 : World} (h : RefP w b sv wv d) (hg : w.grownBy w1 wv.ownBlock) : w1.heap[b]? = some (.cells (refCells sv wv d) 84 (0, 0)) := by
  obtain ⟨_, a2, _⟩ := h.apart
  exact ((Keeps.grown (Keeps.refl _ w) hg (fun _ _ e => e) : Keeps (fun k => some k = wv.ownBlock) w w1).block b (lt_of_block h.cells) (fun e => a2 e.symm)).trans h.cells

theorem DS.writeE_ok {i : Nat} {s : List UInt8} (hr : d.reach i = 0) (hs : s.length = 256) : d.writeE i s = if d.armed = 0 then 12 else 0 := by
  unfold DS.writeE; rw [if_neg (by simp [hr]), if_neg (by simp [hs])]
theorem DS.writeD_ok {i : Nat} {s : List UInt8} (hr : d.reach i = 0) (hs : s.length = 256) : d.writeD i s = if d.armed = 0 then DS.mk d.dur (d.ways ++ [(i, s)]) d.armed true d.wr d.fl d.cr else DS.mk d.dur (d.ways ++ [(i, s)]) (dec d.armed) d.off (d.wr + 1) d.fl d.cr := by
  unfold DS.writeD; rw [if_neg (by simp [hr]), if_neg (by simp [hs])]; simp

/-- What a Write of the reference leaves. -/
def SWroteP (w : World) (b : Nat) (sv wv : Value) (d : DS) (i : Int) (s : List UInt8) (e : Ending) (w' : World) : Prop :=
  e = .returned (.int .i64 (d.writeE i s)) ∧ ∃ wv', RefP w' b sv wv' (d.writeD i s) ∧ Keeps (rfoot b sv wv) w w' ∧ (wv'.ownBlock = wv.ownBlock ∨ ∀ k, wv'.ownBlock = some k → w.heap.size ≤ k)

set_option maxHeartbeats 3200000 in
theorem ref_write_ok (h : RefP w b sv wv d) (hf : d.Few) (i : Nat) (s : ByteArray) (hr : d.reach i = 0) (hs : s.size = 256) : Calls Tryd.prog 40 #[.pointer (some ⟨b, 0, none⟩), .int .i64 i, .string s] w (SWroteP w b sv wv d i (strL s)) := by
  obtain ⟨hof, _, hi1⟩ := DS.reach_zero hr
  obtain ⟨sa, sc, hsv, _⟩ := own_slice h.secs
  subst hsv
  obtain ⟨wa, wc, hwv, _⟩ := own_slice h.ways
  subst hwv
  have c0 : w.cell? ⟨b, 0, none⟩ = some (.slice sa d.dur.length sc) := h.cell 0 _ rfl
  have c1 : w.cell? ⟨b, 1, none⟩ = some (.slice wa d.ways.length wc) := h.cell 1 _ rfl
  have c2 : w.cell? ⟨b, 2, none⟩ = some (.bool d.off) := h.cell 2 _ rfl
  rw [hof] at c2
  have g0 : decide ((i : Int) < 0) = false := decide_eq_false (by omega)
  have g1 : decide ((d.dur.length : Int) ≤ (i : Int)) = false := decide_eq_false (by omega)
  have g2 : ((s.size : Int) != 256) = false := by rw [hs]; rfl
  have g3 : ¬ (d.dur.length ≤ i) := by omega
  have g4 : i < d.dur.length := by omega
  have hln := h.ok.le
  have hwn := hf.ways
  have hwr := hf.wr
  obtain ⟨i0, hi, hz0, hz1, hz2⟩ := info_parts infoWay
  have H := Lib.hid h
  have HOF := Lib.hid hof
  have HR := Lib.hid hr
  have HS := Lib.hid hs
  have HI1 := Lib.hid (show i < d.dur.length by omega)
  clear h hof hr hs hi1
  have qa : Qt w (w.alloc (.cells #[.int .i64 i, .string s] 121)) := (Qt.refl w).alloc _
  have HA := Lib.hid (H.out.kept qa (fun _ _ e => e))
  have HQA := Lib.hid qa
  clear qa
  go_enter Tryd.func40, Tryd.ntmps40
  go_wp2_with (refine wpList_append_cells0 _ rfl (.tmp 33) (.tmp 37) 82 rfl 121 i0 (.agg #[.int .i64 0, .string ⟨#[]⟩]) 2 24 Tryd.underlying82 hi hz0 hz1 hz2 rfl (by decide) (.slice wa d.ways.length wc) d.ways.length (d.ways.flatMap wayR) rfl HA.out.ways ⟨w.heap.size, 0, none⟩ 1 1 [.int .i64 i, .string s] rfl rfl (World.news_of_block (cs := #[.int .i64 i, .string s]) (heap_alloc_new w _)) (by intro u hu; rcases List.mem_cons.1 hu with e | hu; (rw [e]; rfl); rw [List.mem_singleton.1 hu]; rfl) (by unfold maxLen; omega) (by omega) ?_; intro v5 w5 hown5 hg5 hl5 _; obtain ⟨pa5, pc5, e5, _⟩ := own_slice hown5; subst e5; have PU := Lib.hid (HA.out.push i (strL s) HI1.out HS.out hown5 hg5 hl5); have hb5 := HA.out.blk1 hg5; have cq : w5.cell? ⟨b, 1, none⟩ = some (.slice wa d.ways.length wc) := by { rw [cell_of_row _ _ _ _ _ _ hb5]; rfl }; have fq := frozen_of_row hb5 1; clear hown5 hg5 hl5 hb5)
  obtain ⟨w6, hw6⟩ : ∃ W, w5.setCell ⟨b, 1, none⟩ (.slice pa5 (d.ways.length + 1) pc5) = W := ⟨_, rfl⟩
  have PU6 := PU.out
  rw [hw6] at PU6
  obtain ⟨P6, K6, L6⟩ := PU6
  have K6' := Lib.hid (Keeps.trans (Keeps.mono HQA.out (fun _ _ e => e.elim)) K6 (fun _ _ e => e) : Keeps (rfoot b (.slice sa d.dur.length sc) (.slice wa d.ways.length wc)) w w6)
  have HP6 := Lib.hid P6
  have HL6 := Lib.hid (show (Value.slice pa5 (d.ways.length + 1) pc5).ownBlock = (Value.slice wa d.ways.length wc).ownBlock ∨ ∀ k, (Value.slice pa5 (d.ways.length + 1) pc5).ownBlock = some k → w.heap.size ≤ k from L6.imp id (fun f k e => Nat.le_trans HQA.out.size (f k e)))
  clear P6 K6 L6 cq fq
  rw [hw6]
  go_wp2_with fail
  refine (ref_goes HP6.out HOF.out).mono ?_
  rintro e w7 ⟨rfl, P7, K7⟩
  have K67 := Lib.hid (Keeps.trans K6'.out K7 (fun k _ e => (show rfoot b (.slice sa d.dur.length sc) (.slice wa d.ways.length wc) k from .inl e)))
  have hE := DS.writeE_ok HR.out (show (strL s).length = 256 from HS.out)
  have hW := DS.writeD_ok HR.out (show (strL s).length = 256 from HS.out)
  by_cases h0 : d.armed = 0
  · have hd : decide ((DS.mk d.dur (d.ways ++ [(i, strL s)]) d.armed d.off d.wr d.fl d.cr).armed = 0) = true := decide_eq_true h0
    have hgo : (DS.mk d.dur (d.ways ++ [(i, strL s)]) d.armed d.off d.wr d.fl d.cr).goes = d.writeD i (strL s) := by rw [hW, if_pos h0]; exact if_pos h0
    rw [hgo] at P7
    rw [if_pos h0] at hE
    have FIN := Lib.hid (show SWroteP w b (.slice sa d.dur.length sc) (.slice wa d.ways.length wc) d i (strL s) (.returned (.int .i64 12)) w7 from ⟨by rw [hE]; rfl, _, P7, K67.out, HL6.out⟩)
    rw [hd]
    clear P7 K7 h0 hd hgo hE hW
    go_wp2_with fail
    go_ret
    exact FIN.out
  · have hd : decide ((DS.mk d.dur (d.ways ++ [(i, strL s)]) d.armed d.off d.wr d.fl d.cr).armed = 0) = false := decide_eq_false h0
    have hgo : (DS.mk d.dur (d.ways ++ [(i, strL s)]) d.armed d.off d.wr d.fl d.cr).goes = DS.mk d.dur (d.ways ++ [(i, strL s)]) (dec d.armed) d.off d.wr d.fl d.cr := if_neg h0
    rw [hgo] at P7
    rw [if_neg h0] at hE hW
    have c5 : w7.cell? ⟨b, 5, none⟩ = some (.int .i64 d.wr) := P7.cell 5 _ rfl
    have f5 := frozen_of_row P7.cells 5
    have HP7 := Lib.hid P7
    have kS := keeps_setCell w7 b 5 (.int .i64 ((d.wr : Int) + 1))
    have P8 : RefP (w7.setCell ⟨b, 5, none⟩ (.int .i64 ((d.wr : Int) + 1))) b (.slice sa d.dur.length sc) (.slice pa5 (d.ways.length + 1) pc5) (d.writeD i (strL s)) := by
      rw [hW]
      refine P7.turn kS ?_ ?_ rfl rfl
      · rw [setCell_row P7.cells]
        simp [refCells]
      · have := P7.ok; exact ⟨this.pos, this.le, this.each, this.way, this.a0, this.a1⟩
    have FIN := Lib.hid (show SWroteP w b (.slice sa d.dur.length sc) (.slice wa d.ways.length wc) d i (strL s) (.returned (.int .i64 0)) (w7.setCell ⟨b, 5, none⟩ (.int .i64 ((d.wr : Int) + 1))) from ⟨by rw [hE]; rfl, _, P8, Keeps.trans K67.out kS (fun k _ e => .inl e), HL6.out⟩)
    rw [hd]
    clear P7 K7 h0 hd hgo hE hW kS P8
    go_wp2_with fail
    go_ret
    exact FIN.out

theorem ref_write_no (h : RefP w b sv wv d) (i : Int) (s : ByteArray) (hr : d.reach i ≠ 0) : Calls Tryd.prog 40 #[.pointer (some ⟨b, 0, none⟩), .int .i64 i, .string s] w (SWroteP w b sv wv d i (strL s)) := by
  obtain ⟨sa, sc, rfl, _⟩ := own_slice h.secs
  have c0 : w.cell? ⟨b, 0, none⟩ = some (.slice sa d.dur.length sc) := h.cell 0 _ rfl
  have c2 : w.cell? ⟨b, 2, none⟩ = some (.bool d.off) := h.cell 2 _ rfl
  have FIN := Lib.hid (fun (e : Ending) (he : e = .returned (.int .i64 (d.reach i))) => (show SWroteP w b (.slice sa d.dur.length sc) wv d i (strL s) e w from ⟨by rw [he]; unfold DS.writeE; rw [if_pos hr], wv, by unfold DS.writeD; rw [if_pos hr]; exact h, Keeps.refl _ _, .inl rfl⟩))
  clear h
  by_cases ho : d.off = true
  · rw [ho] at c2
    have e : d.reach i = 12 := by unfold DS.reach; rw [if_pos ho]
    rw [e] at FIN
    clear hr e ho
    go_enter Tryd.func40, Tryd.ntmps40
    go_wp2
    go_ret
    exact FIN.out _ rfl
  · have ho' : d.off = false := by simpa using ho
    rw [ho'] at c2
    have hrg : i < 0 ∨ (d.dur.length : Int) ≤ i := by
      unfold DS.reach at hr
      rw [if_neg ho] at hr
      by_cases q : i < 0 ∨ (d.dur.length : Int) ≤ i
      · exact q
      · rw [if_neg q] at hr; exact absurd rfl hr
    have e : d.reach i = 6 := by unfold DS.reach; rw [if_neg ho, if_pos hrg]
    rw [e] at FIN
    clear hr e ho ho'
    by_cases h0 : i < 0
    · have g0 : decide (i < 0) = true := decide_eq_true h0
      clear hrg
      go_enter Tryd.func40, Tryd.ntmps40
      go_wp2
      go_ret
      exact FIN.out _ rfl
    · have g0 : decide (i < 0) = false := decide_eq_false h0
      have g1 : decide ((d.dur.length : Int) ≤ i) = true := decide_eq_true (by omega)
      clear hrg
      go_enter Tryd.func40, Tryd.ntmps40
      go_wp2
      go_ret
      exact FIN.out _ rfl

theorem ref_write_form (h : RefP w b sv wv d) (i : Nat) (s : ByteArray) (hr : d.reach i = 0) (hs : s.size ≠ 256) : Calls Tryd.prog 40 #[.pointer (some ⟨b, 0, none⟩), .int .i64 i, .string s] w (SWroteP w b sv wv d i (strL s)) := by
  obtain ⟨hof, _, hi1⟩ := DS.reach_zero hr
  obtain ⟨sa, sc, rfl, _⟩ := own_slice h.secs
  have c0 : w.cell? ⟨b, 0, none⟩ = some (.slice sa d.dur.length sc) := h.cell 0 _ rfl
  have c2 : w.cell? ⟨b, 2, none⟩ = some (.bool d.off) := h.cell 2 _ rfl
  rw [hof] at c2
  have hl : (strL s).length ≠ 256 := hs
  have FIN := Lib.hid (show SWroteP w b (.slice sa d.dur.length sc) wv d i (strL s) (.returned (.int .i64 7)) w from ⟨by unfold DS.writeE; rw [if_neg (by simp [hr]), if_pos hl]; rfl, wv, by unfold DS.writeD; rw [if_neg (by simp [hr]), if_pos hl]; exact h, Keeps.refl _ _, .inl rfl⟩)
  have g0 : decide ((i : Int) < 0) = false := decide_eq_false (by omega)
  have g3 : ¬ (d.dur.length ≤ i) := by omega
  have g4 : i < d.dur.length := by omega
  have g1 : decide ((d.dur.length : Int) ≤ (i : Int)) = false := decide_eq_false (by omega)
  have g2 : ((s.size : Int) != 256) = true := by rw [bne_iff_ne]; omega
  clear h hr hs hl hof hi1
  go_enter Tryd.func40, Tryd.ntmps40
  go_wp2
  go_ret
  exact FIN.out

theorem ref_write (h : RefP w b sv wv d) (hf : d.Few) (i : Int) (s : ByteArray) : Calls Tryd.prog 40 #[.pointer (some ⟨b, 0, none⟩), .int .i64 i, .string s] w (SWroteP w b sv wv d i (strL s)) := by
  by_cases hr : d.reach i = 0
  · obtain ⟨_, h0, _⟩ := DS.reach_zero hr
    obtain ⟨p, rfl⟩ := Int.eq_ofNat_of_zero_le h0
    by_cases hs : s.size = 256
    · exact ref_write_ok h hf p s hr hs
    · exact ref_write_form h p s hr hs
  · exact ref_write_no h i s hr
end
end Go.Proofs.YtggogaaooacooaaDoor
namespace Go.Proofs.YtggogaaooacooaaDoor
open Go.RowKit Go.WideShapes
set_option maxRecDepth 100000

section
variable {w : World} {b : Nat} {sv wv : Value} {d : DS}

/-- Behind the store of a sector. -/
theorem RefP.store {g c p : Nat} {s : List UInt8} (h : RefP w b (.slice (some ⟨g, 0, none⟩) d.dur.length c) wv d) (hp : p < d.dur.length) (hs : s.length = 256) :
    RefP (w.setCell ⟨g, p, none⟩ (.string ⟨s.toArray⟩)) b (.slice (some ⟨g, 0, none⟩) d.dur.length c) wv (d.setDur (d.dur.set p s)) ∧ Keeps (rfoot b (.slice (some ⟨g, 0, none⟩) d.dur.length c) wv) w (w.setCell ⟨g, p, none⟩ (.string ⟨s.toArray⟩)) := by
  obtain ⟨a1, a2, a3⟩ := h.apart
  have K := keeps_setCell w g p (.string ⟨s.toArray⟩)
  have hg : (Value.slice (some ⟨g, 0, none⟩) d.dur.length c).ownBlock = some g := by simp [Value.ownBlock]
  have hgb : b ≠ g := fun e => a1 (by rw [hg, e])
  refine ⟨⟨?_, ?_, ?_, ?_⟩, K.mono (fun k _ e => by subst e; exact .inr (.inl hg))⟩
  · exact ⟨by simp only [DS.setDur, List.length_set]; exact h.ok.pos, by simp only [DS.setDur, List.length_set]; exact h.ok.le, each_set h.ok.each hs, by simp only [DS.setDur, List.length_set]; exact h.ok.way, h.ok.a0, h.ok.a1⟩
  · exact (K.block b (lt_of_block h.cells) hgb).trans h.cells
  · have := ownsRow_store h.secs hp (strV s)
    simp only [DS.setDur, List.length_set, List.map_set]
    exact this
  · exact ownsRow_kept h.ways K (fun k e q => by subst q; exact a3 k hg e)

/-- The state of Flush's loop. -/
def SFlushAt (w : World) (b : Nat) (sv wv : Value) (d : DS) (iv : Value) (wr : World) : Prop :=
  ∃ k : Nat, k ≤ d.ways.length ∧ iv = .int .i64 k ∧ RefP wr b sv wv (d.setDur (flushTo d.dur d.ways k)) ∧ Keeps (rfoot b sv wv) w wr

/-- Behind the end of a flush or a crash: no way is under way. -/
theorem RefP.forget (h : RefP w b sv wv d) (u : DS) (hu : u.dur = d.dur) (hw : u.ways = []) (ho : u.Ok) {W : World} (hk : Keeps (fun k => k = b) w W) (hc : W.heap[b]? = some (.cells (refCells sv (.slice none 0 0) u) 84 (0, 0))) : RefP W b sv (.slice none 0 0) u := by
  obtain ⟨a1, a2, _⟩ := h.apart
  refine ⟨ho, hc, ?_, ?_⟩
  · rw [hu]; exact ownsRow_kept h.secs hk (fun k e1 e2 => by subst e2; exact a1 e1)
  · rw [hw]; exact World.ownsRow_nil W 0 _ 2

/-- What a Flush of the reference leaves. -/
def SFlushedP (w : World) (b : Nat) (sv wv : Value) (d : DS) (e : Ending) (w' : World) : Prop :=
  e = .returned (.int .i64 d.flushE) ∧ ∃ wv', RefP w' b sv wv' d.flushD ∧ Keeps (rfoot b sv wv) w w' ∧ (wv' = wv ∨ wv' = .slice none 0 0)

set_option maxHeartbeats 3200000 in
theorem ref_flush (h : RefP w b sv wv d) (hf : d.Few) : Calls Tryd.prog 70 #[.pointer (some ⟨b, 0, none⟩)] w (SFlushedP w b sv wv d) := by
  have c2 : w.cell? ⟨b, 2, none⟩ = some (.bool d.off) := h.cell 2 _ rfl
  by_cases hof : d.off = true
  · rw [hof] at c2
    have FIN := Lib.hid (show SFlushedP w b sv wv d (.returned (.int .i64 12)) w from ⟨by unfold DS.flushE; rw [if_pos hof]; rfl, wv, by unfold DS.flushD; rw [if_pos hof]; exact h, Keeps.refl _ _, .inl rfl⟩)
    clear h hof
    go_enter Tryd.func70, Tryd.ntmps70
    go_wp2
    go_ret
    exact FIN.out
  have hof' : d.off = false := by simpa using hof
  rw [hof'] at c2
  have hwn := hf.ways
  have hfl := hf.fl
  obtain ⟨gs, sc, hsv, _⟩ := h.sec (p := 0) (by have := h.ok.pos; omega)
  subst hsv
  obtain ⟨wa, wc, hwv, _⟩ := own_slice h.ways
  subst hwv
  have H := Lib.hid h
  have HOF := Lib.hid hof'
  clear h hof hof'
  go_enter Tryd.func70, Tryd.ntmps70
  go_wp2_with fail
  refine (ref_goes H.out HOF.out).mono ?_
  rintro e w1 ⟨rfl, P1, K1⟩
  by_cases h0 : d.armed = 0
  · have FIN := Lib.hid (show SFlushedP w b (.slice (some ⟨gs, 0, none⟩) d.dur.length sc) (.slice wa d.ways.length wc) d (.returned (.int .i64 12)) w1 from ⟨by unfold DS.flushE; rw [if_neg (by simp [HOF.out]), if_pos h0]; rfl, _, by
      have e : d.flushD = d.goes := by unfold DS.flushD DS.goes; rw [if_neg (by simp [HOF.out]), if_pos h0, if_pos h0]
      rw [e]; exact P1, K1.mono (fun k _ e => .inl e), .inl rfl⟩)
    rw [decide_eq_true h0]
    clear P1 K1 h0
    go_wp2_with fail
    go_ret
    exact FIN.out
  · have hgo : d.goes = { d with armed := dec d.armed } := if_neg h0
    have hE : d.flushE = 0 := by unfold DS.flushE; rw [if_neg (by simp [HOF.out]), if_neg h0]
    have hW : d.flushD = { d with dur := flushTo d.dur d.ways d.ways.length, ways := [], armed := dec d.armed, fl := d.fl + 1 } := by unfold DS.flushD; rw [if_neg (by simp [HOF.out]), if_neg h0]
    have hokf := Lib.hid H.out.ok.flush
    rw [hgo] at P1
    rw [decide_eq_false h0]
    obtain ⟨d1, hd1⟩ : ∃ d1 : DS, { d with armed := dec d.armed } = d1 := ⟨_, rfl⟩
    have e1 : d1.dur = d.dur := by rw [← hd1]
    have e2 : d1.ways = d.ways := by rw [← hd1]
    rw [hd1] at P1
    have HD1 := Lib.hid hd1
    have HP1 := Lib.hid P1
    have HK1 := Lib.hid K1
    have HEE := Lib.hid hE
    have HWW := Lib.hid hW
    have E1 := Lib.hid e1
    have E2 := Lib.hid e2
    have c0 : w1.cell? ⟨b, 0, none⟩ = some (.slice (some ⟨gs, 0, none⟩) d.dur.length sc) := P1.cell 0 _ rfl
    have c1 : w1.cell? ⟨b, 1, none⟩ = some (.slice wa d.ways.length wc) := P1.cell 1 _ rfl
    clear P1 K1 h0 hgo hE hW hd1 e1 e2
    go_wp2_with fail
    clear c0 c1
    go_loopw [18] (fun iv wr => SFlushAt w1 b (.slice (some ⟨gs, 0, none⟩) d.dur.length sc) (.slice wa d.ways.length wc) d1 iv wr) (fun iv _ => d.ways.length - (intOf iv).toNat)
    case atStart => exact ⟨0, Nat.zero_le _, rfl, HP1.out, Keeps.refl _ _⟩
    case round =>
      obtain ⟨k, hk, rfl, P, K⟩ := hrel
      rw [E2.out] at hk
      by_cases hlt : k < d.ways.length
      · obtain ⟨x, hx⟩ : ∃ x, d.ways[k]? = some x := ⟨_, List.getElem?_eq_getElem hlt⟩
        have hx' : (d1.setDur (flushTo d1.dur d1.ways k)).ways[k]? = some x := by simp only [DS.setDur]; rw [E2.out]; exact hx
        obtain ⟨g, c, hwv, y0, y1⟩ := P.way hx'
        rw [show (d1.setDur (flushTo d1.dur d1.ways k)).ways.length = d.ways.length from congrArg List.length E2.out] at hwv
        injection hwv with hwa _ hwc
        subst hwa hwc
        obtain ⟨hx1, hx2⟩ := H.out.ok.way k x hx
        have hle := H.out.ok.le
        have hln : (d1.setDur (flushTo d1.dur d1.ways k)).dur.length = d.dur.length := by simp only [DS.setDur, flushTo_length]; rw [E1.out]
        obtain ⟨W, hW, qW, hbW, z0, z1⟩ := laid_wayR wr x.1 ⟨x.2.toArray⟩
        have HW := Lib.hid hW
        have PW := P.kept (Keeps.drew qW) (fun _ _ e => e)
        rw [← hln] at PW
        obtain ⟨PS, KS⟩ := PW.store (p := x.1) (by rw [hln]; exact hx1) hx2
        obtain ⟨_, _, hs2, ys⟩ := PW.sec (p := x.1) (by rw [hln]; exact hx1)
        injection hs2 with hs2 _ hs3
        injection hs2 with hs2
        injection hs2 with hs2
        subst hs2
        have c0 : W.cell? ⟨b, 0, none⟩ = some (.slice (some ⟨gs, 0, none⟩) d.dur.length sc) := by
          have := PW.cell 0 _ rfl
          rw [hln] at this
          exact this
        have fs : W.drew.frozen? ⟨gs, x.1, none⟩ = false := by
          rcases PW.secs.2 with ⟨e, _⟩ | ⟨g', cap, cur, e, _, hg, _⟩
          · cases e
          · injection e with e _ _
            injection e with e
            injection e with e
            subst e
            exact frozen_of_row hg _
        rw [hln] at PS KS
        have FF := Lib.hid (show SFlushAt w1 b (.slice (some ⟨gs, 0, none⟩) d.dur.length sc) (.slice (some ⟨g, 0, none⟩) d.ways.length wc) d1 (.int .i64 ((k : Int) + 1)) (W.drew.setCell ⟨gs, x.1, none⟩ (.string ⟨x.2.toArray⟩)) from ⟨k + 1, by rw [E2.out]; exact hlt, by simp, by
          rw [flushTo_succ (show d1.ways[k]? = some x by rw [E2.out]; exact hx)]
          exact PS, Keeps.trans (Keeps.trans K (Keeps.drew qW) (fun _ _ e => e.elim)) KS (fun _ _ e => e)⟩)
        have hx1' : x.1 < 65536 := by omega
        clear P K PW PS KS hs3 hx hx' hW qW hbW
        go_wp2_with fail
        rw [HW.out]
        go_wp2_with fail
        refine wp_region_still_tail 9 (by kernel_rfl) (by kernel_rfl) ?_
        simp only [List.take_succ_cons, List.take_zero, List.drop_succ_cons, List.drop_zero]
        repeat still_step
        try refine wpStill_nil ?_
        change wpList _ _ _ _ _ (World.drew W)
        go_wp2_with fail
        go_roundw
        case rel => exact FF.out
        case measure => simp [intOf]; omega
      · obtain rfl : k = d.ways.length := by omega
        have hfe : d1.setDur (flushTo d1.dur d1.ways d.ways.length) = DS.mk (flushTo d.dur d.ways d.ways.length) d.ways (dec d.armed) d.off d.wr d.fl d.cr := by rw [← HD1.out]; rfl
        rw [hfe] at P
        have c6 : wr.cell? ⟨b, 6, none⟩ = some (.int .i64 d.fl) := P.cell 6 _ rfl
        have c1 : wr.cell? ⟨b, 1, none⟩ = some (.slice wa d.ways.length wc) := P.cell 1 _ rfl
        have f1 := frozen_of_row P.cells 1
        have f6 := frozen_of_row P.cells 6
        have kS := Keeps.trans (keeps_setCell wr b 1 (.slice none 0 0)) (keeps_setCell _ b 6 (.int .i64 ((d.fl : Int) + 1))) (fun _ _ e => e)
        have PF := P.forget d.flushD (by rw [HWW.out]) (by rw [HWW.out]) hokf.out kS (by
          rw [setCell_row (setCell_row P.cells 1 _) 6 _, HWW.out]
          simp [refCells])
        have FIN := Lib.hid (show SFlushedP w b (.slice (some ⟨gs, 0, none⟩) d.dur.length sc) (.slice wa d.ways.length wc) d (.returned (.int .i64 0)) _ from ⟨by rw [HEE.out]; rfl, _, PF, Keeps.trans (Keeps.trans (HK1.out.mono (fun k _ e => (show rfoot b (.slice (some ⟨gs, 0, none⟩) d.dur.length sc) (.slice wa d.ways.length wc) k from .inl e))) K (fun _ _ e => e)) kS (fun k _ e => .inl e), .inr rfl⟩)
        clear P K kS PF hfe hlt
        go_wp2_with fail
        go_ret
        exact FIN.out
end
end Go.Proofs.YtggogaaooacooaaDoor
