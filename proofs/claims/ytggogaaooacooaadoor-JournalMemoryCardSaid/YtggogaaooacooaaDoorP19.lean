/-
  The contracts of remitref06's Read and Image.
  The contract of remitref06's Image.
  The contracts of remitref06's Write and Flush.
-/
import Derived.Test.YtggogaaooacooaaDoorP18
import Derived.Test.YtggogaaooacooaaDoorP13
namespace Go.Proofs.YtggogaaooacooaaDoor
open Go.RowKit Go.WideShapes
set_option maxRecDepth 100000

theorem wayR_get {ws : List (Nat × List UInt8)} {k : Nat} {x : Nat × List UInt8} (h : ws[k]? = some x) : (ws.flatMap wayR)[k * 2]? = some (.int .i64 x.1) ∧ (ws.flatMap wayR)[k * 2 + 1]? = some (strV x.2) :=
  ⟨flatMap_get wayR 2 ws (fun _ _ _ => rfl) k x h 0 _ rfl, flatMap_get wayR 2 ws (fun _ _ _ => rfl) k x h 1 _ rfl⟩

section
variable {w : World} {b : Nat} {sv wv : Value} {d : DS}

/-- Way k in memory. -/
theorem RefP.way (h : RefP w b sv wv d) {k : Nat} {x : Nat × List UInt8} (hx : d.ways[k]? = some x) : ∃ g c, wv = .slice (some ⟨g, 0, none⟩) d.ways.length c ∧ w.cell? ⟨g, k * 2, none⟩ = some (.int .i64 x.1) ∧ w.cell? ⟨g, k * 2 + 1, none⟩ = some (.string ⟨x.2.toArray⟩) := by
  have hk := (List.getElem?_eq_some_iff.1 hx).1
  rcases h.ways.2 with ⟨e, h0⟩ | ⟨g, cap, cur, e, _⟩
  · omega
  · refine ⟨g, cap, e, ?_, ?_⟩
    · have := (World.ownsRowF_of (e ▸ h.ways)).cells (g := g) rfl (k * 2) _ (wayR_get hx).1
      rwa [add_plain, Nat.zero_add] at this
    · have := (World.ownsRowF_of (e ▸ h.ways)).cells (g := g) rfl (k * 2 + 1) _ (wayR_get hx).2
      rwa [add_plain, Nat.zero_add] at this

/-- Sector p in memory. -/
theorem RefP.sec (h : RefP w b sv wv d) {p : Nat} (hp : p < d.dur.length) : ∃ g c, sv = .slice (some ⟨g, 0, none⟩) d.dur.length c ∧ w.cell? ⟨g, p, none⟩ = some (.string ⟨(d.dur.getD p []).toArray⟩) := by
  rcases h.secs.2 with ⟨e, h0⟩ | ⟨g, cap, cur, e, _⟩
  · omega
  · refine ⟨g, cap, e, ?_⟩
    have := (World.ownsRowF_of (e ▸ h.secs)).cells (g := g) rfl p (strV (d.dur.getD p [])) (by rw [List.getElem?_map, show d.dur[p]? = some (d.dur.getD p []) by simp [List.getD, hp]]; rfl)
    rwa [add_plain, Nat.zero_add] at this

/-- A way laid into a new block. -/
theorem laid_wayR (w : World) (i : Int) (s : ByteArray) : ∃ W, w.alloc (.cells #[.int .i64 i, .string s] 121) = W ∧ Qt w W ∧ W.heap[w.heap.size]? = some (.cells #[.int .i64 i, .string s] 121 (0, 0)) ∧ W.cell? ⟨w.heap.size, 0, none⟩ = some (.int .i64 i) ∧ W.cell? ⟨w.heap.size, 1, none⟩ = some (.string s) := by
  have hb := heap_alloc_new w (.cells #[.int .i64 i, .string s] 121)
  refine ⟨_, rfl, (Qt.refl w).alloc _, hb, ?_, ?_⟩ <;> (rw [cell_of_row _ _ _ _ _ _ hb]; rfl)

/-- The state of Read's loop. -/
def SReadAt (w : World) (d : DS) (p : Nat) (tv iv : Value) (wr : World) : Prop := ∃ k : Nat, k ≤ d.ways.length ∧ iv = .int .i64 k ∧ tv = .string ⟨(readTo d.dur d.ways p k).toArray⟩ ∧ Qt w wr

theorem readTo_succ {D : List (List UInt8)} {ws : List (Nat × List UInt8)} {p k : Nat} {x : Nat × List UInt8} (h : ws[k]? = some x) : readTo D ws p (k + 1) = if x.1 = p then x.2 else readTo D ws p k := by
  rw [readTo, h]

theorem ref_read_ok (h : RefP w b sv wv d) (hf : d.Few) (p : Nat) (ho : d.off = false) (hp : p < d.dur.length) : Calls Tryd.prog 98 #[.pointer (some ⟨b, 0, none⟩), .int .i64 p] w fun e w' => e = .returned (.tuple #[.string ⟨(d.read p).toArray⟩, .int .i64 0]) ∧ Qt w w' := by
  obtain ⟨gs, sc, rfl, cs⟩ := h.sec hp
  obtain ⟨wa, wc, hwv, _⟩ := own_slice h.ways
  subst hwv
  have c0 : w.cell? ⟨b, 0, none⟩ = some (.slice (some ⟨gs, 0, none⟩) d.dur.length sc) := h.cell 0 _ rfl
  have c1 : w.cell? ⟨b, 1, none⟩ = some (.slice wa d.ways.length wc) := h.cell 1 _ rfl
  have c2 : w.cell? ⟨b, 2, none⟩ = some (.bool d.off) := h.cell 2 _ rfl
  rw [ho] at c2
  have g1 : decide ((d.dur.length : Int) ≤ (p : Int)) = false := decide_eq_false (by omega)
  have hwn := hf.ways
  have hdn := h.ok.le
  have HF := Lib.hid (show d.read p = readTo d.dur d.ways p d.ways.length from rfl)
  have H := Lib.hid h
  have HZ := Lib.hid (show readTo d.dur d.ways p 0 = d.dur.getD p [] from rfl)
  have hdz : (⟨(d.dur.getD p []).toArray⟩ : ByteArray) = ⟨(readTo d.dur d.ways p 0).toArray⟩ := rfl
  obtain ⟨X0, hX0⟩ : ∃ X : ByteArray, ⟨(d.dur.getD p []).toArray⟩ = X := ⟨_, rfl⟩
  rw [hX0] at cs hdz
  have HDZ := Lib.hid hdz
  clear h hdz hX0
  go_enter Tryd.func98, Tryd.ntmps98
  go_wp2_with fail
  clear cs
  go_loopw [6, 36] (fun tv iv wr => SReadAt w d p tv iv wr) (fun _ iv _ => d.ways.length - (intOf iv).toNat)
  case atStart => exact ⟨0, Nat.zero_le _, rfl, by rw [HDZ.out], Qt.refl _⟩
  case round =>
    obtain ⟨k, hk, rfl, rfl, q⟩ := hrel
    by_cases hlt : k < d.ways.length
    · obtain ⟨x, hx⟩ : ∃ x, d.ways[k]? = some x := ⟨_, List.getElem?_eq_getElem hlt⟩
      obtain ⟨g, c, hwv, y0, y1⟩ := (H.out.kept q (fun _ _ e => e)).way hx
      injection hwv with hwa _ hwc
      subst hwa hwc
      have hsu := readTo_succ (D := d.dur) (p := p) hx
      obtain ⟨W, hW, qW, _, z0, z1⟩ := laid_wayR wr x.1 ⟨x.2.toArray⟩
      have HW := Lib.hid hW
      have hx1 : x.1 < 9223372036854775807 := by have := (H.out.ok.way k x hx).1; omega
      have FF := Lib.hid (show SReadAt w d p (.string ⟨(readTo d.dur d.ways p (k + 1)).toArray⟩) (.int .i64 ((k : Int) + 1)) W from ⟨k + 1, hlt, by simp, rfl, Qt.trans q qW⟩)
      rw [hsu] at FF
      clear hsu q qW hx hW
      obtain ⟨Y, hY⟩ : ∃ Y : ByteArray, ⟨(readTo d.dur d.ways p k).toArray⟩ = Y := ⟨_, rfl⟩
      by_cases hp1 : x.1 = p
      · have hb : ((x.1 : Int) == (p : Int)) = true := by rw [beq_iff_eq]; omega
        rw [if_pos hp1] at FF
        clear hp1
        go_wp2_with fail
        rw [HW.out]
        go_wp2_with fail
        go_roundw
        case rel => exact FF.out
        case measure => simp [intOf]; omega
      · have hb : ((x.1 : Int) == (p : Int)) = false := by rw [beq_eq_false_iff_ne]; omega
        rw [if_neg hp1] at FF
        clear hp1
        go_wp2_with fail
        rw [HW.out]
        go_wp2_with fail
        go_roundw
        case rel => exact FF.out
        case measure => simp [intOf]; omega
    · obtain rfl : k = d.ways.length := by omega
      have HQ := Lib.hid q
      clear q hlt
      rw [← HF.out]
      go_wp2_with fail
      go_ret2
      exact ⟨rfl, HQ.out⟩

theorem ref_read_no (h : RefP w b sv wv d) (i : Int) (hr : d.reach i ≠ 0) : Calls Tryd.prog 98 #[.pointer (some ⟨b, 0, none⟩), .int .i64 i] w fun e w' => e = .returned (.tuple #[.string ⟨#[]⟩, .int .i64 (d.reach i)]) ∧ Qt w w' := by
  obtain ⟨sa, sc, rfl, _⟩ := own_slice h.secs
  have c0 : w.cell? ⟨b, 0, none⟩ = some (.slice sa d.dur.length sc) := h.cell 0 _ rfl
  have c2 : w.cell? ⟨b, 2, none⟩ = some (.bool d.off) := h.cell 2 _ rfl
  clear h
  by_cases ho : d.off = true
  · rw [ho] at c2
    have e : d.reach i = 12 := by unfold DS.reach; rw [if_pos ho]
    rw [e]
    clear hr e ho
    go_enter Tryd.func98, Tryd.ntmps98
    go_wp2
    go_ret2
    exact ⟨rfl, Qt.refl _⟩
  · have ho' : d.off = false := by simpa using ho
    rw [ho'] at c2
    have hrg : i < 0 ∨ (d.dur.length : Int) ≤ i := by
      unfold DS.reach at hr
      rw [if_neg ho] at hr
      by_cases q : i < 0 ∨ (d.dur.length : Int) ≤ i
      · exact q
      · rw [if_neg q] at hr; exact absurd rfl hr
    have e : d.reach i = 6 := by unfold DS.reach; rw [if_neg ho, if_pos hrg]
    rw [e]
    clear hr e ho ho'
    by_cases h0 : i < 0
    · have g0 : decide (i < 0) = true := decide_eq_true h0
      clear hrg
      go_enter Tryd.func98, Tryd.ntmps98
      go_wp2
      go_ret2
      exact ⟨rfl, Qt.refl _⟩
    · have g0 : decide (i < 0) = false := decide_eq_false h0
      have g1 : decide ((d.dur.length : Int) ≤ i) = true := decide_eq_true (by omega)
      clear hrg
      go_enter Tryd.func98, Tryd.ntmps98
      go_wp2
      go_ret2
      exact ⟨rfl, Qt.refl _⟩

theorem ref_read (h : RefP w b sv wv d) (hf : d.Few) (i : Int) : Calls Tryd.prog 98 #[.pointer (some ⟨b, 0, none⟩), .int .i64 i] w fun e w' => e = .returned (.tuple #[.string ⟨(d.readE i).toArray⟩, .int .i64 (d.reach i)]) ∧ Qt w w' := by
  by_cases hr : d.reach i = 0
  · obtain ⟨ho, h0, h1⟩ := DS.reach_zero hr
    obtain ⟨p, rfl⟩ := Int.eq_ofNat_of_zero_le h0
    have e : d.readE (p : Int) = d.read p := by unfold DS.readE; rw [if_pos hr]; rfl
    rw [e, hr]
    exact ref_read_ok h hf p ho (by omega)
  · have e : d.readE i = [] := by unfold DS.readE; rw [if_neg hr]
    rw [e]
    exact ref_read_no h i hr
end
end Go.Proofs.YtggogaaooacooaaDoor
namespace Go.Proofs.YtggogaaooacooaaDoor
open Go.RowKit Go.WideShapes
set_option maxRecDepth 100000

theorem infoU8s : (Tryd.prog.info? 5).map (fun i => (i.zero, i.size, i.bytes)) = some (some (.int .u8 0), 1, 1) := by kernel_rfl
theorem strCells_mk (l : List UInt8) : Lib.strCells ⟨l.toArray⟩ = Lib.byteCells l := by
  unfold Lib.strCells Lib.byteCells
  simp

/-- The state of Image's loop. -/
def SImgAt (w : World) (d : DS) (vo iv : Value) (wr : World) : Prop :=
  ∃ k : Nat, k ≤ d.dur.length ∧ iv = .int .i64 k ∧ wr.ownsRowF 0 5 1 vo (k * 256) (Lib.byteCells (d.dur.take k).flatten) ∧ (∀ q, vo.ownBlock = some q → w.heap.size ≤ q) ∧ Qt w wr

theorem SImgAt.more {w wr w2 : World} {d : DS} {k : Nat} {v v' : Value} (hk : k < d.dur.length) (hn : ∀ q, v.ownBlock = some q → w.heap.size ≤ q) (q : Qt w wr)
    (ho : w2.ownsRowF 0 5 1 v' (k * 256 + 256) (Lib.byteCells (d.dur.take k).flatten ++ Lib.byteCells (d.dur.getD k []))) (hg : wr.grownBy w2 v.ownBlock) (hl : Later wr v.ownBlock v'.ownBlock) : SImgAt w d v' (.int .i64 ((k : Int) + 1)) w2 := by
  refine ⟨k + 1, hk, by simp, ?_, ?_, ?_⟩
  · rw [flat_succ (show d.dur[k]? = some (d.dur.getD k []) by simp [List.getD, hk]), Lib.byteCells_append, Nat.succ_mul]
    exact ho
  · intro p hp
    rcases hl with e | ⟨g, e, hg'⟩
    · exact hn p (e ▸ hp)
    · rw [hp] at e
      injection e with e
      subst e
      exact Nat.le_trans q.size hg'
  · exact Keeps.grown q hg (fun p hp e => by have := hn p e.symm; omega)

theorem ref_image {w : World} {b : Nat} {sv wv : Value} {d : DS} (h : RefP w b sv wv d) : Calls Tryd.prog 14 #[.pointer (some ⟨b, 0, none⟩)] w fun e w' => e = .returned (.string ⟨d.image.toArray⟩) ∧ Qt w w' := by
  obtain ⟨gs, sc, rfl, _⟩ := h.sec (p := 0) (by have := h.ok.pos; omega)
  have hle := h.ok.le
  have H := Lib.hid h
  have HD := Lib.hid h.ok.each
  obtain ⟨i0, hi, hz0, hz1, hz2⟩ := info_parts infoU8s
  have ow := World.ownsRow_made (base := 0) (e := 5) (size := 1) w #[] 0 (Nat.zero_le _) (Nat.zero_le _) rfl
  have q1 : Qt w (w.alloc (.cells #[] 5)) := (Qt.refl w).alloc _
  obtain ⟨w1, hw1⟩ : ∃ W, w.alloc (.cells #[] 5) = W := ⟨_, rfl⟩
  rw [hw1] at ow q1
  have A0 := Lib.hid (show SImgAt w d (.slice (some ⟨w.heap.size, 0, none⟩) 0 0) (.int .i64 0) w1 from ⟨0, Nat.zero_le _, rfl, World.ownsRowF_of ow, fun q e => by have : w.heap.size = q := by { simpa [Value.ownBlock] using e }; omega, q1⟩)
  have c0 : (w.alloc (.cells #[] 5)).cell? ⟨b, 0, none⟩ = some (.slice (some ⟨gs, 0, none⟩) d.dur.length sc) := by rw [hw1]; exact q1.cellv (h.cell 0 _ rfl)
  have HW1 := Lib.hid hw1
  clear h ow q1 hw1
  go_enter Tryd.func14, Tryd.ntmps14
  go_wp2_with fail
  rw [HW1.out]
  clear c0
  go_loopw [3, 12] (fun vo iv wr => SImgAt w d vo iv wr) (fun _ iv _ => d.dur.length - (intOf iv).toNat)
  case atStart => exact A0.out
  case round =>
    obtain ⟨k, hk, rfl, ho, hn, q⟩ := hrel
    obtain ⟨va, vc, hvo⟩ : ∃ a c, u3 = .slice a (k * 256) c := by
      rcases ho.2 with ⟨e, h0⟩ | ⟨g, cap, cur, fz, e, _⟩
      · exact ⟨none, 0, by rw [e, h0]⟩
      · exact ⟨_, _, e⟩
    subst hvo
    by_cases hlt : k < d.dur.length
    · obtain ⟨g, c, hsv, y⟩ := (H.out.kept q (fun _ _ e => e)).sec hlt
      injection hsv with hsa _ hsc
      injection hsa with hsa
      injection hsa with hsa
      subst hsa hsc
      have hl256 := getD_length HD.out hlt
      have hysz : (⟨(d.dur.getD k []).toArray⟩ : ByteArray).size = 256 := (List.size_toArray ..).trans hl256
      have HM := Lib.hid (fun (v' : Value) (w2 : World) => SImgAt.more (w := w) (wr := wr) (w2 := w2) (v' := v') hlt hn q)
      have HST := Lib.hid (strCells_mk (d.dur.getD k []))
      have HOW := Lib.hid ho
      clear hn q ho hl256
      obtain ⟨Y, hY⟩ : ∃ Y : ByteArray, ⟨(d.dur.getD k []).toArray⟩ = Y := ⟨_, rfl⟩
      rw [hY] at y hysz HST
      have hbd : k * 256 + Y.size ≤ 140737488355328 := by omega
      clear hY
      go_wp2_with (refine wpList_append_strF _ rfl _ _ 75 9 rfl 5 i0 Tryd.underlying75 Tryd.underlying9 hi hz0 hz1 hz2 (.slice va (k * 256) vc) (k * 256) (Lib.byteCells (d.dur.take k).flatten) rfl HOW.out Y rfl (by unfold maxLen; omega) (by omega) ?_; intro v' w2 hown hg hl _)
      refine ⟨HM.out v' w2 ?_ hg hl, by simp [intOf]; omega⟩
      rw [hysz, HST.out] at hown
      exact hown
    · obtain rfl : k = d.dur.length := by omega
      have hl := flat_len HD.out d.dur.length (Nat.le_refl _)
      rw [List.take_length] at hl ho
      have hpos := H.out.ok.pos
      have hcv : (convert 75 9 (.slice va (d.dur.length * 256) vc)).run Tryd.prog wr = .ok (.string ⟨d.image.toArray⟩) wr := by
        rcases ho.2 with ⟨e, h0⟩ | ⟨g, cap, cur, fz, e, _⟩
        · omega
        · injection e with e1 _ e3
          subst e1 e3
          refine conv_at (fun j u hj => ?_) _ _ hl
          have := ho.cells (g := g) rfl j u hj
          rw [add_plain, Nat.zero_add] at this
          rw [Nat.zero_add]
          exact this
      have HQ := Lib.hid q
      clear ho hn q hlt hl
      obtain ⟨I, hI⟩ : ∃ I : ByteArray, ⟨d.image.toArray⟩ = I := ⟨_, rfl⟩
      rw [hI] at hcv
      go_wp2_with fail
      go_ret
      exact ⟨by rw [hI]; rfl, HQ.out⟩
end Go.Proofs.YtggogaaooacooaaDoor
namespace Go.Proofs.YtggogaaooacooaaDoor
open Go.RowKit Go.WideShapes
set_option maxRecDepth 100000

theorem infoWay : (Tryd.prog.info? 121).map (fun i => (i.zero, i.size, i.bytes)) = some (some (.agg #[.int .i64 0, .string ⟨#[]⟩]), 2, 24) := by kernel_rfl

section
variable {w : World} {b : Nat} {sv wv : Value} {d : DS}

/-- Behind the append of a way and its store. -/
theorem RefP.push {w1 : World} {v' : Value} (h : RefP w b sv wv d) (i : Nat) (s : List UInt8) (hi : i < d.dur.length) (hs : s.length = 256)
    (ho : w1.ownsRow 0 121 2 v' (d.ways.length + 1) (d.ways.flatMap wayR ++ wayR (i, s))) (hg : w.grownBy w1 wv.ownBlock) (hl : Later w wv.ownBlock v'.ownBlock) :
    RefP (w1.setCell ⟨b, 1, none⟩ v') b sv v' { d with ways := d.ways ++ [(i, s)] } ∧ Keeps (rfoot b sv wv) w (w1.setCell ⟨b, 1, none⟩ v') ∧ (v'.ownBlock = wv.ownBlock ∨ ∀ k, v'.ownBlock = some k → w.heap.size ≤ k) := by
  obtain ⟨a1, a2, a3⟩ := h.apart
  have K1 : Keeps (fun k => some k = wv.ownBlock) w w1 := Keeps.grown (Keeps.refl _ w) hg (fun _ _ e => e)
  have hb1 : w1.heap[b]? = some (.cells (refCells sv wv d) 84 (0, 0)) := (K1.block b (lt_of_block h.cells) (fun e => a2 e.symm)).trans h.cells
  have K2 := keeps_setCell w1 b 1 v'
  have hvb : ∀ k, v'.ownBlock = some k → k ≠ b := by
    intro k hk e
    subst e
    rcases hl with q | ⟨g, q, hq⟩
    · rw [q] at hk; exact a2 hk
    · rw [hk] at q; injection q with q; subst q; have := lt_of_block h.cells; omega
  refine ⟨⟨?_, ?_, ?_, ?_⟩, ?_, ?_⟩
  · exact ⟨h.ok.pos, h.ok.le, h.ok.each, ok_ways h.ok.way ⟨hi, hs⟩, h.ok.a0, h.ok.a1⟩
  · rw [setCell_row hb1]
    simp [refCells]
  · exact ownsRow_kept (ownsRow_kept h.secs K1 (fun k e q => a3 k e q.symm)) K2 (fun k e q => by subst q; exact a1 e)
  · have := ownsRow_kept ho K2 (fun k e q => hvb k e q)
    simpa using this
  · exact Keeps.trans (Keeps.mono K1 (fun k _ e => .inr (.inr e.symm))) K2 (fun k _ e => .inl e)
  · rcases hl with q | ⟨g, q, hq⟩
    · exact .inl q
    · refine .inr (fun k hk => ?_)
      rw [hk] at q; injection q with q; subst q; exact hq

theorem RefP.blk1 {w1 : World} (h : RefP w b sv wv d) (hg : w.grownBy w1 wv.ownBlock) : w1.heap[b]? = some (.cells (refCells sv wv d) 84 (0, 0)) := by
  obtain ⟨_, a2, _⟩ := h.apart
  exact ((Keeps.grown (Keeps.refl _ w) hg (fun _ _ e => e) : Keeps (fun k => some k = wv.ownBlock) w w1).block b (lt_of_block h.cells) (fun e => a2 e.symm)).trans h.cells

theorem DS.writeE_ok {i : Nat} {s : List UInt8} (hr : d.reach i = 0) (hs : s.length = 256) : d.writeE i s = if d.armed = 0 then 12 else 0 := by
  unfold DS.writeE; rw [if_neg (by simp [hr]), if_neg (by simp [hs])]
theorem DS.writeD_ok {i : Nat} {s : List UInt8} (hr : d.reach i = 0) (hs : s.length = 256) : d.writeD i s = if d.armed = 0 then DS.mk d.dur (d.ways ++ [(i, s)]) d.armed true d.wr d.fl d.cr else DS.mk d.dur (d.ways ++ [(i, s)]) (dec d.armed) d.off (d.wr + 1) d.fl d.cr := by
  unfold DS.writeD; rw [if_neg (by simp [hr]), if_neg (by simp [hs])]; simp

/-- What a Write of the reference leaves. -/
def SWroteP (w : World) (b : Nat) (sv wv : Value) (d : DS) (i : Int) (s : List UInt8) (e : Ending) (w' : World) : Prop :=
  e = .returned (.int .i64 (d.writeE i s)) ∧ ∃ wv', RefP w' b sv wv' (d.writeD i s) ∧ Keeps (rfoot b sv wv) w w' ∧ (wv'.ownBlock = wv.ownBlock ∨ ∀ k, wv'.ownBlock = some k → w.heap.size ≤ k)

set_option maxHeartbeats 3200000 in
theorem ref_write_ok (h : RefP w b sv wv d) (hf : d.Few) (i : Nat) (s : ByteArray) (hr : d.reach i = 0) (hs : s.size = 256) : Calls Tryd.prog 40 #[.pointer (some ⟨b, 0, none⟩), .int .i64 i, .string s] w (SWroteP w b sv wv d i (strL s)) := by
  obtain ⟨hof, _, hi1⟩ := DS.reach_zero hr
  obtain ⟨sa, sc, hsv, _⟩ := own_slice h.secs
  subst hsv
  obtain ⟨wa, wc, hwv, _⟩ := own_slice h.ways
  subst hwv
  have c0 : w.cell? ⟨b, 0, none⟩ = some (.slice sa d.dur.length sc) := h.cell 0 _ rfl
  have c1 : w.cell? ⟨b, 1, none⟩ = some (.slice wa d.ways.length wc) := h.cell 1 _ rfl
  have c2 : w.cell? ⟨b, 2, none⟩ = some (.bool d.off) := h.cell 2 _ rfl
  rw [hof] at c2
  have g0 : decide ((i : Int) < 0) = false := decide_eq_false (by omega)
  have g1 : decide ((d.dur.length : Int) ≤ (i : Int)) = false := decide_eq_false (by omega)
  have g2 : ((s.size : Int) != 256) = false := by rw [hs]; rfl
  have g3 : ¬ (d.dur.length ≤ i) := by omega
  have g4 : i < d.dur.length := by omega
  have hln := h.ok.le
  have hwn := hf.ways
  have hwr := hf.wr
  obtain ⟨i0, hi, hz0, hz1, hz2⟩ := info_parts infoWay
  have H := Lib.hid h
  have HOF := Lib.hid hof
  have HR := Lib.hid hr
  have HS := Lib.hid hs
  have HI1 := Lib.hid (show i < d.dur.length by omega)
  clear h hof hr hs hi1
  have qa : Qt w (w.alloc (.cells #[.int .i64 i, .string s] 121)) := (Qt.refl w).alloc _
  have HA := Lib.hid (H.out.kept qa (fun _ _ e => e))
  have HQA := Lib.hid qa
  clear qa
  go_enter Tryd.func40, Tryd.ntmps40
  go_wp2_with (refine wpList_append_cells0 _ rfl (.tmp 33) (.tmp 37) 82 rfl 121 i0 (.agg #[.int .i64 0, .string ⟨#[]⟩]) 2 24 Tryd.underlying82 hi hz0 hz1 hz2 rfl (by decide) (.slice wa d.ways.length wc) d.ways.length (d.ways.flatMap wayR) rfl HA.out.ways ⟨w.heap.size, 0, none⟩ 1 1 [.int .i64 i, .string s] rfl rfl (World.news_of_block (cs := #[.int .i64 i, .string s]) (heap_alloc_new w _)) (by intro u hu; rcases List.mem_cons.1 hu with e | hu; (rw [e]; rfl); rw [List.mem_singleton.1 hu]; rfl) (by unfold maxLen; omega) (by omega) ?_; intro v5 w5 hown5 hg5 hl5 _; obtain ⟨pa5, pc5, e5, _⟩ := own_slice hown5; subst e5; have PU := Lib.hid (HA.out.push i (strL s) HI1.out HS.out hown5 hg5 hl5); have hb5 := HA.out.blk1 hg5; have cq : w5.cell? ⟨b, 1, none⟩ = some (.slice wa d.ways.length wc) := by { rw [cell_of_row _ _ _ _ _ _ hb5]; rfl }; have fq := frozen_of_row hb5 1; clear hown5 hg5 hl5 hb5)
  obtain ⟨w6, hw6⟩ : ∃ W, w5.setCell ⟨b, 1, none⟩ (.slice pa5 (d.ways.length + 1) pc5) = W := ⟨_, rfl⟩
  have PU6 := PU.out
  rw [hw6] at PU6
  obtain ⟨P6, K6, L6⟩ := PU6
  have K6' := Lib.hid (Keeps.trans (Keeps.mono HQA.out (fun _ _ e => e.elim)) K6 (fun _ _ e => e) : Keeps (rfoot b (.slice sa d.dur.length sc) (.slice wa d.ways.length wc)) w w6)
  have HP6 := Lib.hid P6
  have HL6 := Lib.hid (show (Value.slice pa5 (d.ways.length + 1) pc5).ownBlock = (Value.slice wa d.ways.length wc).ownBlock ∨ ∀ k, (Value.slice pa5 (d.ways.length + 1) pc5).ownBlock = some k → w.heap.size ≤ k from L6.imp id (fun f k e => Nat.le_trans HQA.out.size (f k e)))
  clear P6 K6 L6 cq fq
  rw [hw6]
  go_wp2_with fail
  refine (ref_goes HP6.out HOF.out).mono ?_
  rintro e w7 ⟨rfl, P7, K7⟩
  have K67 := Lib.hid (Keeps.trans K6'.out K7 (fun k _ e => (show rfoot b (.slice sa d.dur.length sc) (.slice wa d.ways.length wc) k from .inl e)))
  have hE := DS.writeE_ok HR.out (show (strL s).length = 256 from HS.out)
  have hW := DS.writeD_ok HR.out (show (strL s).length = 256 from HS.out)
  by_cases h0 : d.armed = 0
  · have hd : decide ((DS.mk d.dur (d.ways ++ [(i, strL s)]) d.armed d.off d.wr d.fl d.cr).armed = 0) = true := decide_eq_true h0
    have hgo : (DS.mk d.dur (d.ways ++ [(i, strL s)]) d.armed d.off d.wr d.fl d.cr).goes = d.writeD i (strL s) := by rw [hW, if_pos h0]; exact if_pos h0
    rw [hgo] at P7
    rw [if_pos h0] at hE
    have FIN := Lib.hid (show SWroteP w b (.slice sa d.dur.length sc) (.slice wa d.ways.length wc) d i (strL s) (.returned (.int .i64 12)) w7 from ⟨by rw [hE]; rfl, _, P7, K67.out, HL6.out⟩)
    rw [hd]
    clear P7 K7 h0 hd hgo hE hW
    go_wp2_with fail
    go_ret
    exact FIN.out
  · have hd : decide ((DS.mk d.dur (d.ways ++ [(i, strL s)]) d.armed d.off d.wr d.fl d.cr).armed = 0) = false := decide_eq_false h0
    have hgo : (DS.mk d.dur (d.ways ++ [(i, strL s)]) d.armed d.off d.wr d.fl d.cr).goes = DS.mk d.dur (d.ways ++ [(i, strL s)]) (dec d.armed) d.off d.wr d.fl d.cr := if_neg h0
    rw [hgo] at P7
    rw [if_neg h0] at hE hW
    have c5 : w7.cell? ⟨b, 5, none⟩ = some (.int .i64 d.wr) := P7.cell 5 _ rfl
    have f5 := frozen_of_row P7.cells 5
    have HP7 := Lib.hid P7
    have kS := keeps_setCell w7 b 5 (.int .i64 ((d.wr : Int) + 1))
    have P8 : RefP (w7.setCell ⟨b, 5, none⟩ (.int .i64 ((d.wr : Int) + 1))) b (.slice sa d.dur.length sc) (.slice pa5 (d.ways.length + 1) pc5) (d.writeD i (strL s)) := by
      rw [hW]
      refine P7.turn kS ?_ ?_ rfl rfl
      · rw [setCell_row P7.cells]
        simp [refCells]
      · have := P7.ok; exact ⟨this.pos, this.le, this.each, this.way, this.a0, this.a1⟩
    have FIN := Lib.hid (show SWroteP w b (.slice sa d.dur.length sc) (.slice wa d.ways.length wc) d i (strL s) (.returned (.int .i64 0)) (w7.setCell ⟨b, 5, none⟩ (.int .i64 ((d.wr : Int) + 1))) from ⟨by rw [hE]; rfl, _, P8, Keeps.trans K67.out kS (fun k _ e => .inl e), HL6.out⟩)
    rw [hd]
    clear P7 K7 h0 hd hgo hE hW kS P8
    go_wp2_with fail
    go_ret
    exact FIN.out

theorem ref_write_no (h : RefP w b sv wv d) (i : Int) (s : ByteArray) (hr : d.reach i ≠ 0) : Calls Tryd.prog 40 #[.pointer (some ⟨b, 0, none⟩), .int .i64 i, .string s] w (SWroteP w b sv wv d i (strL s)) := by
  obtain ⟨sa, sc, rfl, _⟩ := own_slice h.secs
  have c0 : w.cell? ⟨b, 0, none⟩ = some (.slice sa d.dur.length sc) := h.cell 0 _ rfl
  have c2 : w.cell? ⟨b, 2, none⟩ = some (.bool d.off) := h.cell 2 _ rfl
  have FIN := Lib.hid (fun (e : Ending) (he : e = .returned (.int .i64 (d.reach i))) => (show SWroteP w b (.slice sa d.dur.length sc) wv d i (strL s) e w from ⟨by rw [he]; unfold DS.writeE; rw [if_pos hr], wv, by unfold DS.writeD; rw [if_pos hr]; exact h, Keeps.refl _ _, .inl rfl⟩))
  clear h
  by_cases ho : d.off = true
  · rw [ho] at c2
    have e : d.reach i = 12 := by unfold DS.reach; rw [if_pos ho]
    rw [e] at FIN
    clear hr e ho
    go_enter Tryd.func40, Tryd.ntmps40
    go_wp2
    go_ret
    exact FIN.out _ rfl
  · have ho' : d.off = false := by simpa using ho
    rw [ho'] at c2
    have hrg : i < 0 ∨ (d.dur.length : Int) ≤ i := by
      unfold DS.reach at hr
      rw [if_neg ho] at hr
      by_cases q : i < 0 ∨ (d.dur.length : Int) ≤ i
      · exact q
      · rw [if_neg q] at hr; exact absurd rfl hr
    have e : d.reach i = 6 := by unfold DS.reach; rw [if_neg ho, if_pos hrg]
    rw [e] at FIN
    clear hr e ho ho'
    by_cases h0 : i < 0
    · have g0 : decide (i < 0) = true := decide_eq_true h0
      clear hrg
      go_enter Tryd.func40, Tryd.ntmps40
      go_wp2
      go_ret
      exact FIN.out _ rfl
    · have g0 : decide (i < 0) = false := decide_eq_false h0
      have g1 : decide ((d.dur.length : Int) ≤ i) = true := decide_eq_true (by omega)
      clear hrg
      go_enter Tryd.func40, Tryd.ntmps40
      go_wp2
      go_ret
      exact FIN.out _ rfl

theorem ref_write_form (h : RefP w b sv wv d) (i : Nat) (s : ByteArray) (hr : d.reach i = 0) (hs : s.size ≠ 256) : Calls Tryd.prog 40 #[.pointer (some ⟨b, 0, none⟩), .int .i64 i, .string s] w (SWroteP w b sv wv d i (strL s)) := by
  obtain ⟨hof, _, hi1⟩ := DS.reach_zero hr
  obtain ⟨sa, sc, rfl, _⟩ := own_slice h.secs
  have c0 : w.cell? ⟨b, 0, none⟩ = some (.slice sa d.dur.length sc) := h.cell 0 _ rfl
  have c2 : w.cell? ⟨b, 2, none⟩ = some (.bool d.off) := h.cell 2 _ rfl
  rw [hof] at c2
  have hl : (strL s).length ≠ 256 := hs
  have FIN := Lib.hid (show SWroteP w b (.slice sa d.dur.length sc) wv d i (strL s) (.returned (.int .i64 7)) w from ⟨by unfold DS.writeE; rw [if_neg (by simp [hr]), if_pos hl]; rfl, wv, by unfold DS.writeD; rw [if_neg (by simp [hr]), if_pos hl]; exact h, Keeps.refl _ _, .inl rfl⟩)
  have g0 : decide ((i : Int) < 0) = false := decide_eq_false (by omega)
  have g3 : ¬ (d.dur.length ≤ i) := by omega
  have g4 : i < d.dur.length := by omega
  have g1 : decide ((d.dur.length : Int) ≤ (i : Int)) = false := decide_eq_false (by omega)
  have g2 : ((s.size : Int) != 256) = true := by rw [bne_iff_ne]; omega
  clear h hr hs hl hof hi1
  go_enter Tryd.func40, Tryd.ntmps40
  go_wp2
  go_ret
  exact FIN.out

theorem ref_write (h : RefP w b sv wv d) (hf : d.Few) (i : Int) (s : ByteArray) : Calls Tryd.prog 40 #[.pointer (some ⟨b, 0, none⟩), .int .i64 i, .string s] w (SWroteP w b sv wv d i (strL s)) := by
  by_cases hr : d.reach i = 0
  · obtain ⟨_, h0, _⟩ := DS.reach_zero hr
    obtain ⟨p, rfl⟩ := Int.eq_ofNat_of_zero_le h0
    by_cases hs : s.size = 256
    · exact ref_write_ok h hf p s hr hs
    · exact ref_write_form h p s hr hs
  · exact ref_write_no h i s hr
end
end Go.Proofs.YtggogaaooacooaaDoor
