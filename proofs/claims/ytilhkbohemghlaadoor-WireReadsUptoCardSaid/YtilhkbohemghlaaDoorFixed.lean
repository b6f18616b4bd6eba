/-
  The contract of remitlaw01.fixed: it answers true.
-/
import Derived.Test.YtilhkbohemghlaaDoorReaders5
import Derived.Test.YtilhkbohemghlaaDoorNum
namespace Go.Proofs.YtilhkbohemghlaaDoor
open Go.RowKit
set_option maxRecDepth 100000

theorem OffErrs.of_ge {ad : Nat → Addr} {w : World} (h : Errs ad w) {S : Nat → Prop} (hS : ∀ k, S k → w.heap.size ≤ k) : OffErrs ad S := by
  refine ⟨fun g hg hs => ?_, fun i hi hs => ?_⟩
  · obtain ⟨i, hi⟩ := List.getElem?_of_mem hg
    have h1 : g < w.heap.size := World.block_lt_of_cell? w _ (h.cells i g hi)
    have := hS g hs
    omega
  · obtain ⟨c, t, hb⟩ := h.blk i hi
    have := lt_of_block hb
    have := hS _ hs
    omega

theorem Keeps.fresh {w w' : World} (h : Keeps (fun k => w.heap.size ≤ k) w w') : Keeps (fun _ => False) w w' := h.mono (fun i hi h => by omega)

/-- A step that touches only what is new since B. -/
abbrev Since (B : Nat) (w w' : World) : Prop := Keeps (fun k => B ≤ k) w w'
theorem Since.step {S : Nat → Prop} {B : Nat} {w w1 w2 : World} (h : Since B w w1) (k : Keeps S w1 w2) (hS : ∀ i, S i → B ≤ i) : Since B w w2 := h.trans k (fun i _ s => hS i s)
theorem Kept.since {B b : Nat} {r r' : Option Nat} {w w1 w2 : World} (h : Since B w w1) (k : Kept b r r' w1 w2) (hb : B ≤ b) (hr : ∀ g, r = some g → B ≤ g) : Since B w w2 := h.step k.keeps (fun i s => by rcases s with rfl | e; exact hb; exact hr i e.symm)
theorem Kept.row {B b : Nat} {r r' : Option Nat} {w1 w2 : World} (k : Kept b r r' w1 w2) (hB : B ≤ w1.heap.size) (hr : ∀ g, r = some g → B ≤ g) : ∀ g, r' = some g → B ≤ g := fun g hg => by
  rcases k.later with e | ⟨g', e, hge⟩
  · exact hr g (e ▸ hg)
  · rw [e] at hg; injection hg with hg; omega
theorem Errs.since {ad : Nat → Addr} {B : Nat} {w w' : World} (h : Errs ad w) (hB : w.heap.size ≤ B) (k : Since B w w') : Errs ad w' := h.kept k (OffErrs.of_ge h (fun i hi => by omega))

theorem fb1 : [] ++ Lib.uvarint 300 = [172, 2] := by rw [Lib.uvarint_big (by omega), Lib.uvarint_small (by omega)]; rfl
theorem fb2 : [172, 2] ++ Lib.uvarint (Lib.zigzag (-2)) = [172, 2, 3] := by rw [show Lib.zigzag (-2) = 3 by decide, Lib.uvarint_small (by omega)]; rfl
theorem fb3 : [172, 2, 3] ++ floatB 1065353216 = [172, 2, 3, 0, 0, 128, 63] := by decide
theorem fb4 : [172, 2, 3, 0, 0, 128, 63] ++ textsB [[], [97]] = [172, 2, 3, 0, 0, 128, 63, 2, 0, 1, 97] := by
  have e3 : Lib.uvarint 0 = [0] := by rw [Lib.uvarint_small (by omega)]; rfl
  have e4 : Lib.uvarint 1 = [1] := by rw [Lib.uvarint_small (by omega)]; rfl
  have e5 : Lib.uvarint 2 = [2] := by rw [Lib.uvarint_small (by omega)]; rfl
  simp [textsB, eachB, textB, e3, e4, e5]
theorem fb5 : (eachB [[], [97]]).length = 3 := by
  have e3 : Lib.uvarint 0 = [0] := by rw [Lib.uvarint_small (by omega)]; rfl
  have e4 : Lib.uvarint 1 = [1] := by rw [Lib.uvarint_small (by omega)]; rfl
  simp [eachB, textB, e3, e4]
theorem fb6 : varintD (rest ⟨#[128, 0]⟩ 0) = .inl 2 := by decide

/-- A Writer of the call's own. -/
structure MyWr (B b : Nat) (l : List UInt8) (w0 w : World) : Prop where
  wr : ∃ r, Wr b r l w ∧ ∀ g, r = some g → B ≤ g
  since : Since B w0 w

theorem MyWr.wrote {B b : Nat} {r : Option Nat} {l' : List UInt8} {w0 w w' : World} (hs : Since B w0 w) (hB : B ≤ b) (hw : B ≤ w.heap.size) (hr : ∀ g, r = some g → B ≤ g) (h : Wrote b r l' w w') : MyWr B b l' w0 w' := by
  obtain ⟨r', h1, k⟩ := h
  exact ⟨⟨r', h1, k.row hw hr⟩, Kept.since hs k hB hr⟩

set_option maxHeartbeats 1600000 in
theorem fixed_any (ad : Nat → Addr) (w : World) (hE : Errs ad w) :
    Calls Tryd.prog 9 #[] w fun e w' => e = .returned (.bool true) ∧ Keeps (fun _ => False) w w' := by
  go_enter Tryd.func9, Tryd.ntmps9
  go_wp2_with fail
  refine (wnew_any w).mono ?_
  rintro e w1 ⟨rfl, h1, k1, s1⟩
  have S1 : Since w.heap.size w w1 := k1.mono (fun _ _ h => h.elim)
  clear k1
  go_wp2_with fail
  refine (wuint_any _ _ _ 300 w1 h1 (by simp) (by omega)).mono ?_
  rintro e w2 ⟨rfl, q2⟩
  rw [fb1] at q2
  obtain ⟨⟨r2, h2, R2⟩, S2⟩ := MyWr.wrote S1 (Nat.le_refl _) S1.size (fun g h => by cases h) q2
  clear q2 h1 s1
  go_wp2_with fail
  refine (wint_any _ _ _ (-2) w2 h2 (by simp) (by omega) (by omega)).mono ?_
  rintro e w3 ⟨rfl, q3⟩
  rw [fb2] at q3
  obtain ⟨⟨r3, h3, R3⟩, S3⟩ := MyWr.wrote S2 (Nat.le_refl _) S2.size R2 q3
  clear q3 h2 R2 S1
  go_wp2_with fail
  refine (wfloat_any _ _ _ 1065353216 w3 h3 (by simp) (by omega)).mono ?_
  rintro e w4 ⟨rfl, q4⟩
  rw [fb3] at q4
  obtain ⟨⟨r4, h4, R4⟩, S4⟩ := MyWr.wrote S3 (Nat.le_refl _) S3.size R3 q4
  clear q4 h3 R3 S2
  have hst : Strs (w4.alloc (.cells #[.string { data := #[] }, .string { data := #[97] }] 9)) (.slice (some ⟨w4.heap.size, 0, none⟩) 2 2) w4.heap.size 0 [[], [97]] := by
    refine ⟨⟨_, _, rfl, fun _ => rfl⟩, by simp, fun j s hj => ?_⟩
    rw [cell_of_row _ _ _ _ _ _ (heap_alloc_new w4 _)]
    match j, hj with
    | 0, hj => simp at hj; subst hj; rfl
    | 1, hj => simp at hj; subst hj; rfl
  have S5 : Since w.heap.size w (w4.alloc (.cells #[.string { data := #[] }, .string { data := #[97] }] 9)) := S4.alloc _
  have h5 := h4.alloc (.cells #[.string { data := #[] }, .string { data := #[97] }] 9)
  have hd : ([[], [97]] : List (List UInt8)) ≠ [] → w4.heap.size ≠ w.heap.size ∧ some w4.heap.size ≠ r4 := fun _ => ⟨fun e => by have := h4.lt; omega, fun e => by have := h4.rlt e.symm; omega⟩
  have hst' := Lib.hid hst; have hd' := Lib.hid hd; have S5' := Lib.hid S5; have h5' := Lib.hid h5
  clear hst hd S5 h5 S3 h4
  go_wp2_with fail
  refine (wtexts_any _ _ _ _ _ _ _ _ h5'.out hst'.out hd'.out (by rw [fb5]; simp)).mono ?_
  rintro e w6 ⟨rfl, q6⟩
  rw [fb4] at q6
  obtain ⟨⟨r6, h6, R6⟩, S6⟩ := MyWr.wrote S5'.out (Nat.le_refl _) S5'.out.size R4 q6
  clear q6 hst' hd' S5' h5' R4 S4
  go_wp2_with fail
  refine (wout_any _ _ _ w6 h6).mono ?_
  rintro e w7 ⟨rfl, h7, k7⟩
  have S7 := S6.step k7 (fun i e => R6 i e.symm)
  clear k7 h6 S6
  go_wp2_with fail
  refine (wlen_any _ _ _ w7 h7).mono ?_
  rintro e w8 ⟨rfl, rfl⟩
  clear h7 R6
  go_wp2_with fail
  refine (rread_any _ _ (by decide)).mono ?_
  rintro e w9 ⟨rfl, h9, k9⟩
  have S9 := S7.step k9 (fun i h => h.elim)
  have hB := S7.size
  have hE9 := hE.since (Nat.le_refl _) S9
  clear S7 k9
  go_wp2_with fail
  refine (ruint_err ad _ _ _ 2 _ h9 hE9 fb6).mono ?_
  rintro e w10 ⟨rfl, h10⟩
  have S10 := S9.step h10.keeps (fun i e => by omega)
  have hE10 := hE.since (Nat.le_refl _) S10
  have hr10 := h10.rd
  clear S9 h9 h10 hE9
  go_wp2_with fail
  refine (num_pos ad 1 _ hE10 (by omega)).mono ?_
  rintro e w11 ⟨rfl, k11⟩
  have S11 := S10.step k11 (fun i h => h.elim)
  have hE11 := hE.since (Nat.le_refl _) S11
  have hr11 := hr10.kept k11 (fun h => h)
  clear S10 hE10 hr10 k11
  go_wp2_with fail
  refine (rat_any _ _ _ _ hr11).mono ?_
  rintro e w12 ⟨rfl, rfl⟩
  go_wp2_with fail
  refine (rleft_any _ _ _ _ hr11).mono ?_
  rintro e w12 ⟨rfl, n12, rfl⟩
  have S12 := S11.drewN n12
  have hE12 := hE11.drewN n12
  have hr12 := hr11.drewN n12
  clear S11 hE11 hr11
  go_wp2_with fail
  refine (rdone_any ad _ _ _ _ hr12 hE12).mono ?_
  rintro e w13 ⟨rfl, n13, rfl⟩
  have S13 := S12.drewN n13
  have hE13 := hE12.drewN n13
  rw [World.drewN_drewN] at S13 hE13
  clear S12 hE12 hr12
  go_wp2_with fail
  refine (num_any ad 5 _ hE13 (by omega)).mono ?_
  rintro e w14 ⟨rfl, k14⟩
  have S14 := Lib.hid (Keeps.fresh (Since.step S13 k14 (fun i h => h.elim)))
  clear S13 hE13 k14
  go_wp2
  go_ret
  exact ⟨rfl, S14.out⟩
end Go.Proofs.YtilhkbohemghlaaDoor
