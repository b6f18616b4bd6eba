/-
  The contract of remitref06's Image.
-/
import Derived.Test.YtbifhnlinnokaaaDoorSRead
import Derived.Test.YtbifhnlinnokaaaDoorDRead
namespace Go.Proofs.YtbifhnlinnokaaaDoor
open Go.RowKit Go.WideShapes
set_option maxRecDepth 100000

theorem infoU8s : (Tryd.prog.info? 5).map (fun i => (i.zero, i.size, i.bytes)) = some (some (.int .u8 0), 1, 1) := by kernel_rfl
theorem strCells_mk (l : List UInt8) : Lib.strCells ⟨l.toArray⟩ = Lib.byteCells l := by
  unfold Lib.strCells Lib.byteCells
  simp

/-- The state of Image's loop. -/
def SImgAt (w : World) (d : DS) (vo iv : Value) (wr : World) : Prop :=
  ∃ k : Nat, k ≤ d.dur.length ∧ iv = .int .i64 k ∧ wr.ownsRowF 0 5 1 vo (k * 256) (Lib.byteCells (d.dur.take k).flatten) ∧ (∀ q, vo.ownBlock = some q → w.heap.size ≤ q) ∧ Qt w wr

theorem SImgAt.more {w wr w2 : World} {d : DS} {k : Nat} {v v' : Value} (hk : k < d.dur.length) (hn : ∀ q, v.ownBlock = some q → w.heap.size ≤ q) (q : Qt w wr)
    (ho : w2.ownsRowF 0 5 1 v' (k * 256 + 256) (Lib.byteCells (d.dur.take k).flatten ++ Lib.byteCells (d.dur.getD k []))) (hg : wr.grownBy w2 v.ownBlock) (hl : Later wr v.ownBlock v'.ownBlock) : SImgAt w d v' (.int .i64 ((k : Int) + 1)) w2 := by
  refine ⟨k + 1, hk, by simp, ?_, ?_, ?_⟩
  · rw [flat_succ (show d.dur[k]? = some (d.dur.getD k []) by simp [List.getD, hk]), Lib.byteCells_append, Nat.succ_mul]
    exact ho
  · intro p hp
    rcases hl with e | ⟨g, e, hg'⟩
    · exact hn p (e ▸ hp)
    · rw [hp] at e
      injection e with e
      subst e
      exact Nat.le_trans q.size hg'
  · exact Keeps.grown q hg (fun p hp e => by have := hn p e.symm; omega)

theorem ref_image {w : World} {b : Nat} {sv wv : Value} {d : DS} (h : RefP w b sv wv d) : Calls Tryd.prog 38 #[.pointer (some ⟨b, 0, none⟩)] w fun e w' => e = .returned (.string ⟨d.image.toArray⟩) ∧ Qt w w' := by
  obtain ⟨gs, sc, rfl, _⟩ := h.sec (p := 0) (by have := h.ok.pos; omega)
  have hle := h.ok.le
  have H := Lib.hid h
  have HD := Lib.hid h.ok.each
  obtain ⟨i0, hi, hz0, hz1, hz2⟩ := info_parts infoU8s
  have ow := World.ownsRow_made (base := 0) (e := 5) (size := 1) w #[] 0 (Nat.zero_le _) (Nat.zero_le _) rfl
  have q1 : Qt w (w.alloc (.cells #[] 5)) := (Qt.refl w).alloc _
  obtain ⟨w1, hw1⟩ : ∃ W, w.alloc (.cells #[] 5) = W := ⟨_, rfl⟩
  rw [hw1] at ow q1
  have A0 := Lib.hid (show SImgAt w d (.slice (some ⟨w.heap.size, 0, none⟩) 0 0) (.int .i64 0) w1 from ⟨0, Nat.zero_le _, rfl, World.ownsRowF_of ow, fun q e => by have : w.heap.size = q := by { simpa [Value.ownBlock] using e }; omega, q1⟩)
  have c0 : (w.alloc (.cells #[] 5)).cell? ⟨b, 0, none⟩ = some (.slice (some ⟨gs, 0, none⟩) d.dur.length sc) := by rw [hw1]; exact q1.cellv (h.cell 0 _ rfl)
  have HW1 := Lib.hid hw1
  clear h ow q1 hw1
  go_enter Tryd.func38, Tryd.ntmps38
  go_wp2_with fail
  rw [HW1.out]
  clear c0
  go_loopw [3, 12] (fun vo iv wr => SImgAt w d vo iv wr) (fun _ iv _ => d.dur.length - (intOf iv).toNat)
  case atStart => exact A0.out
  case round =>
    obtain ⟨k, hk, rfl, ho, hn, q⟩ := hrel
    obtain ⟨va, vc, hvo⟩ : ∃ a c, u3 = .slice a (k * 256) c := by
      rcases ho.2 with ⟨e, h0⟩ | ⟨g, cap, cur, fz, e, _⟩
      · exact ⟨none, 0, by rw [e, h0]⟩
      · exact ⟨_, _, e⟩
    subst hvo
    by_cases hlt : k < d.dur.length
    · obtain ⟨g, c, hsv, y⟩ := (H.out.kept q (fun _ _ e => e)).sec hlt
      injection hsv with hsa _ hsc
      injection hsa with hsa
      injection hsa with hsa
      subst hsa hsc
      have hl256 := getD_length HD.out hlt
      have hysz : (⟨(d.dur.getD k []).toArray⟩ : ByteArray).size = 256 := (List.size_toArray ..).trans hl256
      have HM := Lib.hid (fun (v' : Value) (w2 : World) => SImgAt.more (w := w) (wr := wr) (w2 := w2) (v' := v') hlt hn q)
      have HST := Lib.hid (strCells_mk (d.dur.getD k []))
      have HOW := Lib.hid ho
      clear hn q ho hl256
      obtain ⟨Y, hY⟩ : ∃ Y : ByteArray, ⟨(d.dur.getD k []).toArray⟩ = Y := ⟨_, rfl⟩
      rw [hY] at y hysz HST
      have hbd : k * 256 + Y.size ≤ 140737488355328 := by omega
      clear hY
      go_wp2_with (refine wpList_append_strF _ rfl _ _ 52 9 rfl 5 i0 Tryd.underlying52 Tryd.underlying9 hi hz0 hz1 hz2 (.slice va (k * 256) vc) (k * 256) (Lib.byteCells (d.dur.take k).flatten) rfl HOW.out Y rfl (by unfold maxLen; omega) (by omega) ?_; intro v' w2 hown hg hl _)
      refine ⟨HM.out v' w2 ?_ hg hl, by simp [intOf]; omega⟩
      rw [hysz, HST.out] at hown
      exact hown
    · obtain rfl : k = d.dur.length := by omega
      have hl := flat_len HD.out d.dur.length (Nat.le_refl _)
      rw [List.take_length] at hl ho
      have hpos := H.out.ok.pos
      have hcv : (convert 52 9 (.slice va (d.dur.length * 256) vc)).run Tryd.prog wr = .ok (.string ⟨d.image.toArray⟩) wr := by
        rcases ho.2 with ⟨e, h0⟩ | ⟨g, cap, cur, fz, e, _⟩
        · omega
        · injection e with e1 _ e3
          subst e1 e3
          refine conv_at (fun j u hj => ?_) _ _ hl
          have := ho.cells (g := g) rfl j u hj
          rw [add_plain, Nat.zero_add] at this
          rw [Nat.zero_add]
          exact this
      have HQ := Lib.hid q
      clear ho hn q hlt hl
      obtain ⟨I, hI⟩ : ∃ I : ByteArray, ⟨d.image.toArray⟩ = I := ⟨_, rfl⟩
      rw [hI] at hcv
      go_wp2_with fail
      go_ret
      exact ⟨by rw [hI]; rfl, HQ.out⟩
end Go.Proofs.YtbifhnlinnokaaaDoor
