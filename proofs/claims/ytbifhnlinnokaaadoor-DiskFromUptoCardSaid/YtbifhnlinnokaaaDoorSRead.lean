/-
  The contracts of remitref06's Read and Image.
-/
import Derived.Test.YtbifhnlinnokaaaDoorSAt
namespace Go.Proofs.YtbifhnlinnokaaaDoor
open Go.RowKit Go.WideShapes
set_option maxRecDepth 100000

theorem wayR_get {ws : List (Nat × List UInt8)} {k : Nat} {x : Nat × List UInt8} (h : ws[k]? = some x) : (ws.flatMap wayR)[k * 2]? = some (.int .i64 x.1) ∧ (ws.flatMap wayR)[k * 2 + 1]? = some (strV x.2) :=
  ⟨flatMap_get wayR 2 ws (fun _ _ _ => rfl) k x h 0 _ rfl, flatMap_get wayR 2 ws (fun _ _ _ => rfl) k x h 1 _ rfl⟩

section
variable {w : World} {b : Nat} {sv wv : Value} {d : DS}

/-- Way k in memory. -/
theorem RefP.way (h : RefP w b sv wv d) {k : Nat} {x : Nat × List UInt8} (hx : d.ways[k]? = some x) : ∃ g c, wv = .slice (some ⟨g, 0, none⟩) d.ways.length c ∧ w.cell? ⟨g, k * 2, none⟩ = some (.int .i64 x.1) ∧ w.cell? ⟨g, k * 2 + 1, none⟩ = some (.string ⟨x.2.toArray⟩) := by
  have hk := (List.getElem?_eq_some_iff.1 hx).1
  rcases h.ways.2 with ⟨e, h0⟩ | ⟨g, cap, cur, e, _⟩
  · omega
  · refine ⟨g, cap, e, ?_, ?_⟩
    · have := (World.ownsRowF_of (e ▸ h.ways)).cells (g := g) rfl (k * 2) _ (wayR_get hx).1
      rwa [add_plain, Nat.zero_add] at this
    · have := (World.ownsRowF_of (e ▸ h.ways)).cells (g := g) rfl (k * 2 + 1) _ (wayR_get hx).2
      rwa [add_plain, Nat.zero_add] at this

/-- Sector p in memory. -/
theorem RefP.sec (h : RefP w b sv wv d) {p : Nat} (hp : p < d.dur.length) : ∃ g c, sv = .slice (some ⟨g, 0, none⟩) d.dur.length c ∧ w.cell? ⟨g, p, none⟩ = some (.string ⟨(d.dur.getD p []).toArray⟩) := by
  rcases h.secs.2 with ⟨e, h0⟩ | ⟨g, cap, cur, e, _⟩
  · omega
  · refine ⟨g, cap, e, ?_⟩
    have := (World.ownsRowF_of (e ▸ h.secs)).cells (g := g) rfl p (strV (d.dur.getD p [])) (by rw [List.getElem?_map, show d.dur[p]? = some (d.dur.getD p []) by simp [List.getD, hp]]; rfl)
    rwa [add_plain, Nat.zero_add] at this

/-- A way laid into a new block. -/
theorem laid_wayR (w : World) (i : Int) (s : ByteArray) : ∃ W, w.alloc (.cells #[.int .i64 i, .string s] 86) = W ∧ Qt w W ∧ W.heap[w.heap.size]? = some (.cells #[.int .i64 i, .string s] 86 (0, 0)) ∧ W.cell? ⟨w.heap.size, 0, none⟩ = some (.int .i64 i) ∧ W.cell? ⟨w.heap.size, 1, none⟩ = some (.string s) := by
  have hb := heap_alloc_new w (.cells #[.int .i64 i, .string s] 86)
  refine ⟨_, rfl, (Qt.refl w).alloc _, hb, ?_, ?_⟩ <;> (rw [cell_of_row _ _ _ _ _ _ hb]; rfl)

/-- The state of Read's loop. -/
def SReadAt (w : World) (d : DS) (p : Nat) (tv iv : Value) (wr : World) : Prop := ∃ k : Nat, k ≤ d.ways.length ∧ iv = .int .i64 k ∧ tv = .string ⟨(readTo d.dur d.ways p k).toArray⟩ ∧ Qt w wr

theorem readTo_succ {D : List (List UInt8)} {ws : List (Nat × List UInt8)} {p k : Nat} {x : Nat × List UInt8} (h : ws[k]? = some x) : readTo D ws p (k + 1) = if x.1 = p then x.2 else readTo D ws p k := by
  rw [readTo, h]

theorem ref_read_ok (h : RefP w b sv wv d) (hf : d.Few) (p : Nat) (ho : d.off = false) (hp : p < d.dur.length) : Calls Tryd.prog 32 #[.pointer (some ⟨b, 0, none⟩), .int .i64 p] w fun e w' => e = .returned (.tuple #[.string ⟨(d.read p).toArray⟩, .int .i64 0]) ∧ Qt w w' := by
  obtain ⟨gs, sc, rfl, cs⟩ := h.sec hp
  obtain ⟨wa, wc, hwv, _⟩ := own_slice h.ways
  subst hwv
  have c0 : w.cell? ⟨b, 0, none⟩ = some (.slice (some ⟨gs, 0, none⟩) d.dur.length sc) := h.cell 0 _ rfl
  have c1 : w.cell? ⟨b, 1, none⟩ = some (.slice wa d.ways.length wc) := h.cell 1 _ rfl
  have c2 : w.cell? ⟨b, 2, none⟩ = some (.bool d.off) := h.cell 2 _ rfl
  rw [ho] at c2
  have g1 : decide ((d.dur.length : Int) ≤ (p : Int)) = false := decide_eq_false (by omega)
  have hwn := hf.ways
  have hdn := h.ok.le
  have HF := Lib.hid (show d.read p = readTo d.dur d.ways p d.ways.length from rfl)
  have H := Lib.hid h
  have HZ := Lib.hid (show readTo d.dur d.ways p 0 = d.dur.getD p [] from rfl)
  have hdz : (⟨(d.dur.getD p []).toArray⟩ : ByteArray) = ⟨(readTo d.dur d.ways p 0).toArray⟩ := rfl
  obtain ⟨X0, hX0⟩ : ∃ X : ByteArray, ⟨(d.dur.getD p []).toArray⟩ = X := ⟨_, rfl⟩
  rw [hX0] at cs hdz
  have HDZ := Lib.hid hdz
  clear h hdz hX0
  go_enter Tryd.func32, Tryd.ntmps32
  go_wp2_with fail
  clear cs
  go_loopw [6, 36] (fun tv iv wr => SReadAt w d p tv iv wr) (fun _ iv _ => d.ways.length - (intOf iv).toNat)
  case atStart => exact ⟨0, Nat.zero_le _, rfl, by rw [HDZ.out], Qt.refl _⟩
  case round =>
    obtain ⟨k, hk, rfl, rfl, q⟩ := hrel
    by_cases hlt : k < d.ways.length
    · obtain ⟨x, hx⟩ : ∃ x, d.ways[k]? = some x := ⟨_, List.getElem?_eq_getElem hlt⟩
      obtain ⟨g, c, hwv, y0, y1⟩ := (H.out.kept q (fun _ _ e => e)).way hx
      injection hwv with hwa _ hwc
      subst hwa hwc
      have hsu := readTo_succ (D := d.dur) (p := p) hx
      obtain ⟨W, hW, qW, _, z0, z1⟩ := laid_wayR wr x.1 ⟨x.2.toArray⟩
      have HW := Lib.hid hW
      have hx1 : x.1 < 9223372036854775807 := by have := (H.out.ok.way k x hx).1; omega
      have FF := Lib.hid (show SReadAt w d p (.string ⟨(readTo d.dur d.ways p (k + 1)).toArray⟩) (.int .i64 ((k : Int) + 1)) W from ⟨k + 1, hlt, by simp, rfl, Qt.trans q qW⟩)
      rw [hsu] at FF
      clear hsu q qW hx hW
      obtain ⟨Y, hY⟩ : ∃ Y : ByteArray, ⟨(readTo d.dur d.ways p k).toArray⟩ = Y := ⟨_, rfl⟩
      by_cases hp1 : x.1 = p
      · have hb : ((x.1 : Int) == (p : Int)) = true := by rw [beq_iff_eq]; omega
        rw [if_pos hp1] at FF
        clear hp1
        go_wp2_with fail
        rw [HW.out]
        go_wp2_with fail
        go_roundw
        case rel => exact FF.out
        case measure => simp [intOf]; omega
      · have hb : ((x.1 : Int) == (p : Int)) = false := by rw [beq_eq_false_iff_ne]; omega
        rw [if_neg hp1] at FF
        clear hp1
        go_wp2_with fail
        rw [HW.out]
        go_wp2_with fail
        go_roundw
        case rel => exact FF.out
        case measure => simp [intOf]; omega
    · obtain rfl : k = d.ways.length := by omega
      have HQ := Lib.hid q
      clear q hlt
      rw [← HF.out]
      go_wp2_with fail
      go_ret2
      exact ⟨rfl, HQ.out⟩

theorem ref_read_no (h : RefP w b sv wv d) (i : Int) (hr : d.reach i ≠ 0) : Calls Tryd.prog 32 #[.pointer (some ⟨b, 0, none⟩), .int .i64 i] w fun e w' => e = .returned (.tuple #[.string ⟨#[]⟩, .int .i64 (d.reach i)]) ∧ Qt w w' := by
  obtain ⟨sa, sc, rfl, _⟩ := own_slice h.secs
  have c0 : w.cell? ⟨b, 0, none⟩ = some (.slice sa d.dur.length sc) := h.cell 0 _ rfl
  have c2 : w.cell? ⟨b, 2, none⟩ = some (.bool d.off) := h.cell 2 _ rfl
  clear h
  by_cases ho : d.off = true
  · rw [ho] at c2
    have e : d.reach i = 12 := by unfold DS.reach; rw [if_pos ho]
    rw [e]
    clear hr e ho
    go_enter Tryd.func32, Tryd.ntmps32
    go_wp2
    go_ret2
    exact ⟨rfl, Qt.refl _⟩
  · have ho' : d.off = false := by simpa using ho
    rw [ho'] at c2
    have hrg : i < 0 ∨ (d.dur.length : Int) ≤ i := by
      unfold DS.reach at hr
      rw [if_neg ho] at hr
      by_cases q : i < 0 ∨ (d.dur.length : Int) ≤ i
      · exact q
      · rw [if_neg q] at hr; exact absurd rfl hr
    have e : d.reach i = 6 := by unfold DS.reach; rw [if_neg ho, if_pos hrg]
    rw [e]
    clear hr e ho ho'
    by_cases h0 : i < 0
    · have g0 : decide (i < 0) = true := decide_eq_true h0
      clear hrg
      go_enter Tryd.func32, Tryd.ntmps32
      go_wp2
      go_ret2
      exact ⟨rfl, Qt.refl _⟩
    · have g0 : decide (i < 0) = false := decide_eq_false h0
      have g1 : decide ((d.dur.length : Int) ≤ i) = true := decide_eq_true (by omega)
      clear hrg
      go_enter Tryd.func32, Tryd.ntmps32
      go_wp2
      go_ret2
      exact ⟨rfl, Qt.refl _⟩

theorem ref_read (h : RefP w b sv wv d) (hf : d.Few) (i : Int) : Calls Tryd.prog 32 #[.pointer (some ⟨b, 0, none⟩), .int .i64 i] w fun e w' => e = .returned (.tuple #[.string ⟨(d.readE i).toArray⟩, .int .i64 (d.reach i)]) ∧ Qt w w' := by
  by_cases hr : d.reach i = 0
  · obtain ⟨ho, h0, h1⟩ := DS.reach_zero hr
    obtain ⟨p, rfl⟩ := Int.eq_ofNat_of_zero_le h0
    have e : d.readE (p : Int) = d.read p := by unfold DS.readE; rw [if_pos hr]; rfl
    rw [e, hr]
    exact ref_read_ok h hf p ho (by omega)
  · have e : d.readE i = [] := by unfold DS.readE; rw [if_neg hr]
    rw [e]
    exact ref_read_no h i hr
end
end Go.Proofs.YtbifhnlinnokaaaDoor
