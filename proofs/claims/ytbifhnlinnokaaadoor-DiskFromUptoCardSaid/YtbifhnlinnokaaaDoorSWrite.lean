/-
  The contracts of remitref06's Write and Flush.
-/
import Derived.Test.YtbifhnlinnokaaaDoorSImage
namespace Go.Proofs.YtbifhnlinnokaaaDoor
open Go.RowKit Go.WideShapes
set_option maxRecDepth 100000

theorem infoWay : (Tryd.prog.info? 86).map (fun i => (i.zero, i.size, i.bytes)) = some (some (.agg #[.int .i64 0, .string ⟨#[]⟩]), 2, 24) := by kernel_rfl

section
variable {w : World} {b : Nat} {sv wv : Value} {d : DS}

/-- Behind the append of a way and its store. -/
theorem RefP.push {w1 : World} {v' : Value} (h : RefP w b sv wv d) (i : Nat) (s : List UInt8) (hi : i < d.dur.length) (hs : s.length = 256)
    (ho : w1.ownsRow 0 86 2 v' (d.ways.length + 1) (d.ways.flatMap wayR ++ wayR (i, s))) (hg : w.grownBy w1 wv.ownBlock) (hl : Later w wv.ownBlock v'.ownBlock) :
    RefP (w1.setCell ⟨b, 1, none⟩ v') b sv v' { d with ways := d.ways ++ [(i, s)] } ∧ Keeps (rfoot b sv wv) w (w1.setCell ⟨b, 1, none⟩ v') ∧ (v'.ownBlock = wv.ownBlock ∨ ∀ k, v'.ownBlock = some k → w.heap.size ≤ k) := by
  obtain ⟨a1, a2, a3⟩ := h.apart
  have K1 : Keeps (fun k => some k = wv.ownBlock) w w1 := Keeps.grown (Keeps.refl _ w) hg (fun _ _ e => e)
  have hb1 : w1.heap[b]? = some (.cells (refCells sv wv d) 61 (0, 0)) := (K1.block b (lt_of_block h.cells) (fun e => a2 e.symm)).trans h.cells
  have K2 := keeps_setCell w1 b 1 v'
  have hvb : ∀ k, v'.ownBlock = some k → k ≠ b := by
    intro k hk e
    subst e
    rcases hl with q | ⟨g, q, hq⟩
    · rw [q] at hk; exact a2 hk
    · rw [hk] at q; injection q with q; subst q; have := lt_of_block h.cells; omega
  refine ⟨⟨?_, ?_, ?_, ?_⟩, ?_, ?_⟩
  · exact ⟨h.ok.pos, h.ok.le, h.ok.each, ok_ways h.ok.way ⟨hi, hs⟩, h.ok.a0, h.ok.a1⟩
  · rw [setCell_row hb1]
    simp [refCells]
  · exact ownsRow_kept (ownsRow_kept h.secs K1 (fun k e q => a3 k e q.symm)) K2 (fun k e q => by subst q; exact a1 e)
  · have := ownsRow_kept ho K2 (fun k e q => hvb k e q)
    simpa using this
  · exact Keeps.trans (Keeps.mono K1 (fun k _ e => .inr (.inr e.symm))) K2 (fun k _ e => .inl e)
  · rcases hl with q | ⟨g, q, hq⟩
    · exact .inl q
    · refine .inr (fun k hk => ?_)
      rw [hk] at q; injection q with q; subst q; exact hq

theorem RefP.blk1 {w1 : World} (h : RefP w b sv wv d) (hg : w.grownBy w1 wv.ownBlock) : w1.heap[b]? = some (.cells (refCells sv wv d) 61 (0, 0)) := by
  obtain ⟨_, a2, _⟩ := h.apart
  exact ((Keeps.grown (Keeps.refl _ w) hg (fun _ _ e => e) : Keeps (fun k => some k = wv.ownBlock) w w1).block b (lt_of_block h.cells) (fun e => a2 e.symm)).trans h.cells

theorem DS.writeE_ok {i : Nat} {s : List UInt8} (hr : d.reach i = 0) (hs : s.length = 256) : d.writeE i s = if d.armed = 0 then 12 else 0 := by
  unfold DS.writeE; rw [if_neg (by simp [hr]), if_neg (by simp [hs])]
theorem DS.writeD_ok {i : Nat} {s : List UInt8} (hr : d.reach i = 0) (hs : s.length = 256) : d.writeD i s = if d.armed = 0 then DS.mk d.dur (d.ways ++ [(i, s)]) d.armed true d.wr d.fl d.cr else DS.mk d.dur (d.ways ++ [(i, s)]) (dec d.armed) d.off (d.wr + 1) d.fl d.cr := by
  unfold DS.writeD; rw [if_neg (by simp [hr]), if_neg (by simp [hs])]; simp

/-- What a Write of the reference leaves. -/
def SWroteP (w : World) (b : Nat) (sv wv : Value) (d : DS) (i : Int) (s : List UInt8) (e : Ending) (w' : World) : Prop :=
  e = .returned (.int .i64 (d.writeE i s)) ∧ ∃ wv', RefP w' b sv wv' (d.writeD i s) ∧ Keeps (rfoot b sv wv) w w' ∧ (wv'.ownBlock = wv.ownBlock ∨ ∀ k, wv'.ownBlock = some k → w.heap.size ≤ k)

set_option maxHeartbeats 3200000 in
theorem ref_write_ok (h : RefP w b sv wv d) (hf : d.Few) (i : Nat) (s : ByteArray) (hr : d.reach i = 0) (hs : s.size = 256) : Calls Tryd.prog 33 #[.pointer (some ⟨b, 0, none⟩), .int .i64 i, .string s] w (SWroteP w b sv wv d i (strL s)) := by
  obtain ⟨hof, _, hi1⟩ := DS.reach_zero hr
  obtain ⟨sa, sc, hsv, _⟩ := own_slice h.secs
  subst hsv
  obtain ⟨wa, wc, hwv, _⟩ := own_slice h.ways
  subst hwv
  have c0 : w.cell? ⟨b, 0, none⟩ = some (.slice sa d.dur.length sc) := h.cell 0 _ rfl
  have c1 : w.cell? ⟨b, 1, none⟩ = some (.slice wa d.ways.length wc) := h.cell 1 _ rfl
  have c2 : w.cell? ⟨b, 2, none⟩ = some (.bool d.off) := h.cell 2 _ rfl
  rw [hof] at c2
  have g0 : decide ((i : Int) < 0) = false := decide_eq_false (by omega)
  have g1 : decide ((d.dur.length : Int) ≤ (i : Int)) = false := decide_eq_false (by omega)
  have g2 : ((s.size : Int) != 256) = false := by rw [hs]; rfl
  have g3 : ¬ (d.dur.length ≤ i) := by omega
  have g4 : i < d.dur.length := by omega
  have hln := h.ok.le
  have hwn := hf.ways
  have hwr := hf.wr
  obtain ⟨i0, hi, hz0, hz1, hz2⟩ := info_parts infoWay
  have H := Lib.hid h
  have HOF := Lib.hid hof
  have HR := Lib.hid hr
  have HS := Lib.hid hs
  have HI1 := Lib.hid (show i < d.dur.length by omega)
  clear h hof hr hs hi1
  have qa : Qt w (w.alloc (.cells #[.int .i64 i, .string s] 86)) := (Qt.refl w).alloc _
  have HA := Lib.hid (H.out.kept qa (fun _ _ e => e))
  have HQA := Lib.hid qa
  clear qa
  go_enter Tryd.func33, Tryd.ntmps33
  go_wp2_with (refine wpList_append_cells0 _ rfl (.tmp 33) (.tmp 37) 59 rfl 86 i0 (.agg #[.int .i64 0, .string ⟨#[]⟩]) 2 24 Tryd.underlying59 hi hz0 hz1 hz2 rfl (by decide) (.slice wa d.ways.length wc) d.ways.length (d.ways.flatMap wayR) rfl HA.out.ways ⟨w.heap.size, 0, none⟩ 1 1 [.int .i64 i, .string s] rfl rfl (World.news_of_block (cs := #[.int .i64 i, .string s]) (heap_alloc_new w _)) (by intro u hu; rcases List.mem_cons.1 hu with e | hu; (rw [e]; rfl); rw [List.mem_singleton.1 hu]; rfl) (by unfold maxLen; omega) (by omega) ?_; intro v5 w5 hown5 hg5 hl5 _; obtain ⟨pa5, pc5, e5, _⟩ := own_slice hown5; subst e5; have PU := Lib.hid (HA.out.push i (strL s) HI1.out HS.out hown5 hg5 hl5); have hb5 := HA.out.blk1 hg5; have cq : w5.cell? ⟨b, 1, none⟩ = some (.slice wa d.ways.length wc) := by { rw [cell_of_row _ _ _ _ _ _ hb5]; rfl }; have fq := frozen_of_row hb5 1; clear hown5 hg5 hl5 hb5)
  obtain ⟨w6, hw6⟩ : ∃ W, w5.setCell ⟨b, 1, none⟩ (.slice pa5 (d.ways.length + 1) pc5) = W := ⟨_, rfl⟩
  have PU6 := PU.out
  rw [hw6] at PU6
  obtain ⟨P6, K6, L6⟩ := PU6
  have K6' := Lib.hid (Keeps.trans (Keeps.mono HQA.out (fun _ _ e => e.elim)) K6 (fun _ _ e => e) : Keeps (rfoot b (.slice sa d.dur.length sc) (.slice wa d.ways.length wc)) w w6)
  have HP6 := Lib.hid P6
  have HL6 := Lib.hid (show (Value.slice pa5 (d.ways.length + 1) pc5).ownBlock = (Value.slice wa d.ways.length wc).ownBlock ∨ ∀ k, (Value.slice pa5 (d.ways.length + 1) pc5).ownBlock = some k → w.heap.size ≤ k from L6.imp id (fun f k e => Nat.le_trans HQA.out.size (f k e)))
  clear P6 K6 L6 cq fq
  rw [hw6]
  go_wp2_with fail
  refine (ref_goes HP6.out HOF.out).mono ?_
  rintro e w7 ⟨rfl, P7, K7⟩
  have K67 := Lib.hid (Keeps.trans K6'.out K7 (fun k _ e => (show rfoot b (.slice sa d.dur.length sc) (.slice wa d.ways.length wc) k from .inl e)))
  have hE := DS.writeE_ok HR.out (show (strL s).length = 256 from HS.out)
  have hW := DS.writeD_ok HR.out (show (strL s).length = 256 from HS.out)
  by_cases h0 : d.armed = 0
  · have hd : decide ((DS.mk d.dur (d.ways ++ [(i, strL s)]) d.armed d.off d.wr d.fl d.cr).armed = 0) = true := decide_eq_true h0
    have hgo : (DS.mk d.dur (d.ways ++ [(i, strL s)]) d.armed d.off d.wr d.fl d.cr).goes = d.writeD i (strL s) := by rw [hW, if_pos h0]; exact if_pos h0
    rw [hgo] at P7
    rw [if_pos h0] at hE
    have FIN := Lib.hid (show SWroteP w b (.slice sa d.dur.length sc) (.slice wa d.ways.length wc) d i (strL s) (.returned (.int .i64 12)) w7 from ⟨by rw [hE]; rfl, _, P7, K67.out, HL6.out⟩)
    rw [hd]
    clear P7 K7 h0 hd hgo hE hW
    go_wp2_with fail
    go_ret
    exact FIN.out
  · have hd : decide ((DS.mk d.dur (d.ways ++ [(i, strL s)]) d.armed d.off d.wr d.fl d.cr).armed = 0) = false := decide_eq_false h0
    have hgo : (DS.mk d.dur (d.ways ++ [(i, strL s)]) d.armed d.off d.wr d.fl d.cr).goes = DS.mk d.dur (d.ways ++ [(i, strL s)]) (dec d.armed) d.off d.wr d.fl d.cr := if_neg h0
    rw [hgo] at P7
    rw [if_neg h0] at hE hW
    have c5 : w7.cell? ⟨b, 5, none⟩ = some (.int .i64 d.wr) := P7.cell 5 _ rfl
    have f5 := frozen_of_row P7.cells 5
    have HP7 := Lib.hid P7
    have kS := keeps_setCell w7 b 5 (.int .i64 ((d.wr : Int) + 1))
    have P8 : RefP (w7.setCell ⟨b, 5, none⟩ (.int .i64 ((d.wr : Int) + 1))) b (.slice sa d.dur.length sc) (.slice pa5 (d.ways.length + 1) pc5) (d.writeD i (strL s)) := by
      rw [hW]
      refine P7.turn kS ?_ ?_ rfl rfl
      · rw [setCell_row P7.cells]
        simp [refCells]
      · have := P7.ok; exact ⟨this.pos, this.le, this.each, this.way, this.a0, this.a1⟩
    have FIN := Lib.hid (show SWroteP w b (.slice sa d.dur.length sc) (.slice wa d.ways.length wc) d i (strL s) (.returned (.int .i64 0)) (w7.setCell ⟨b, 5, none⟩ (.int .i64 ((d.wr : Int) + 1))) from ⟨by rw [hE]; rfl, _, P8, Keeps.trans K67.out kS (fun k _ e => .inl e), HL6.out⟩)
    rw [hd]
    clear P7 K7 h0 hd hgo hE hW kS P8
    go_wp2_with fail
    go_ret
    exact FIN.out

theorem ref_write_no (h : RefP w b sv wv d) (i : Int) (s : ByteArray) (hr : d.reach i ≠ 0) : Calls Tryd.prog 33 #[.pointer (some ⟨b, 0, none⟩), .int .i64 i, .string s] w (SWroteP w b sv wv d i (strL s)) := by
  obtain ⟨sa, sc, rfl, _⟩ := own_slice h.secs
  have c0 : w.cell? ⟨b, 0, none⟩ = some (.slice sa d.dur.length sc) := h.cell 0 _ rfl
  have c2 : w.cell? ⟨b, 2, none⟩ = some (.bool d.off) := h.cell 2 _ rfl
  have FIN := Lib.hid (fun (e : Ending) (he : e = .returned (.int .i64 (d.reach i))) => (show SWroteP w b (.slice sa d.dur.length sc) wv d i (strL s) e w from ⟨by rw [he]; unfold DS.writeE; rw [if_pos hr], wv, by unfold DS.writeD; rw [if_pos hr]; exact h, Keeps.refl _ _, .inl rfl⟩))
  clear h
  by_cases ho : d.off = true
  · rw [ho] at c2
    have e : d.reach i = 12 := by unfold DS.reach; rw [if_pos ho]
    rw [e] at FIN
    clear hr e ho
    go_enter Tryd.func33, Tryd.ntmps33
    go_wp2
    go_ret
    exact FIN.out _ rfl
  · have ho' : d.off = false := by simpa using ho
    rw [ho'] at c2
    have hrg : i < 0 ∨ (d.dur.length : Int) ≤ i := by
      unfold DS.reach at hr
      rw [if_neg ho] at hr
      by_cases q : i < 0 ∨ (d.dur.length : Int) ≤ i
      · exact q
      · rw [if_neg q] at hr; exact absurd rfl hr
    have e : d.reach i = 6 := by unfold DS.reach; rw [if_neg ho, if_pos hrg]
    rw [e] at FIN
    clear hr e ho ho'
    by_cases h0 : i < 0
    · have g0 : decide (i < 0) = true := decide_eq_true h0
      clear hrg
      go_enter Tryd.func33, Tryd.ntmps33
      go_wp2
      go_ret
      exact FIN.out _ rfl
    · have g0 : decide (i < 0) = false := decide_eq_false h0
      have g1 : decide ((d.dur.length : Int) ≤ i) = true := decide_eq_true (by omega)
      clear hrg
      go_enter Tryd.func33, Tryd.ntmps33
      go_wp2
      go_ret
      exact FIN.out _ rfl

theorem ref_write_form (h : RefP w b sv wv d) (i : Nat) (s : ByteArray) (hr : d.reach i = 0) (hs : s.size ≠ 256) : Calls Tryd.prog 33 #[.pointer (some ⟨b, 0, none⟩), .int .i64 i, .string s] w (SWroteP w b sv wv d i (strL s)) := by
  obtain ⟨hof, _, hi1⟩ := DS.reach_zero hr
  obtain ⟨sa, sc, rfl, _⟩ := own_slice h.secs
  have c0 : w.cell? ⟨b, 0, none⟩ = some (.slice sa d.dur.length sc) := h.cell 0 _ rfl
  have c2 : w.cell? ⟨b, 2, none⟩ = some (.bool d.off) := h.cell 2 _ rfl
  rw [hof] at c2
  have hl : (strL s).length ≠ 256 := hs
  have FIN := Lib.hid (show SWroteP w b (.slice sa d.dur.length sc) wv d i (strL s) (.returned (.int .i64 7)) w from ⟨by unfold DS.writeE; rw [if_neg (by simp [hr]), if_pos hl]; rfl, wv, by unfold DS.writeD; rw [if_neg (by simp [hr]), if_pos hl]; exact h, Keeps.refl _ _, .inl rfl⟩)
  have g0 : decide ((i : Int) < 0) = false := decide_eq_false (by omega)
  have g3 : ¬ (d.dur.length ≤ i) := by omega
  have g4 : i < d.dur.length := by omega
  have g1 : decide ((d.dur.length : Int) ≤ (i : Int)) = false := decide_eq_false (by omega)
  have g2 : ((s.size : Int) != 256) = true := by rw [bne_iff_ne]; omega
  clear h hr hs hl hof hi1
  go_enter Tryd.func33, Tryd.ntmps33
  go_wp2
  go_ret
  exact FIN.out

theorem ref_write (h : RefP w b sv wv d) (hf : d.Few) (i : Int) (s : ByteArray) : Calls Tryd.prog 33 #[.pointer (some ⟨b, 0, none⟩), .int .i64 i, .string s] w (SWroteP w b sv wv d i (strL s)) := by
  by_cases hr : d.reach i = 0
  · obtain ⟨_, h0, _⟩ := DS.reach_zero hr
    obtain ⟨p, rfl⟩ := Int.eq_ofNat_of_zero_le h0
    by_cases hs : s.size = 256
    · exact ref_write_ok h hf p s hr hs
    · exact ref_write_form h p s hr hs
  · exact ref_write_no h i s hr
end
end Go.Proofs.YtbifhnlinnokaaaDoor
