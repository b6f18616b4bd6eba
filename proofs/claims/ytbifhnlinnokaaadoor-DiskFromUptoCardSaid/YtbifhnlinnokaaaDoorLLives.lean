/-
  The contract of remitlaw06.lives.
-/
import Derived.Test.YtbifhnlinnokaaaDoorLOwn
namespace Go.Proofs.YtbifhnlinnokaaaDoor
open Go.RowKit Go.WideShapes
set_option maxRecDepth 100000

/-- The sector of 'a' and on. -/
def secA : List UInt8 := (List.range 256).map (secB 97)
theorem secA_length : secA.length = 256 := by simp [secA]

def dA1 : DS := (DS.newD 2).writeD 1 secA
def dA2 : DS := dA1.armD 0
def dA3 : DS := dA2.flushD
def dA4 : DS := dA3.crashD ⟨[], 0, 3⟩

theorem dA1_eq : dA1 = ⟨[zeros, zeros], [(1, secA)], -1, false, 1, 0, 0⟩ := by
  unfold dA1 DS.writeD DS.reach
  rw [if_neg (by simp [DS.newD]), if_neg (by rw [secA_length]; decide), if_neg (by simp [DS.newD])]
  simp [DS.newD, dec]
theorem dA2_eq : dA2 = ⟨[zeros, zeros], [(1, secA)], 0, false, 1, 0, 0⟩ := by unfold dA2; rw [dA1_eq]; rfl
theorem dA3_eq : dA3 = ⟨[zeros, zeros], [(1, secA)], 0, true, 1, 0, 0⟩ := by unfold dA3; rw [dA2_eq]; rfl
theorem dA4_eq : dA4 = ⟨[zeros, tornBy zeros secA 3], [], -1, false, 1, 0, 1⟩ := by
  unfold dA4
  rw [dA3_eq]
  simp [DS.crashD, crashTo, FT.done]
  rfl

theorem dA0_few : (DS.newD 2).Few := ⟨by decide, by decide, by decide, by decide⟩
theorem dA2_few : dA2.Few := by rw [dA2_eq]; exact ⟨by decide, by decide, by decide, by decide⟩
theorem dA3_few : dA3.Few := by rw [dA3_eq]; exact ⟨by decide, by decide, by decide, by decide⟩
theorem dA_write : (DS.newD 2).writeE 1 secA = 0 := by
  unfold DS.writeE DS.reach
  rw [if_neg (by simp [DS.newD]), if_neg (by rw [secA_length]; decide), if_neg (by simp [DS.newD])]
theorem dA_flush : dA2.flushE = 12 := by rw [dA2_eq]; rfl
theorem dA_pend : dA1.ways.length = 1 := by rw [dA1_eq]; rfl
theorem dA_off3 : dA3.off = true := by rw [dA3_eq]
theorem dA_off4 : dA4.off = false := by rw [dA4_eq]
theorem dA_life : dA4.cr = 1 := by rw [dA4_eq]
theorem dA_reach : dA4.reach 1 = 0 := by rw [dA4_eq]; rfl
def secT : List UInt8 := tornBy zeros secA 3
theorem secT_length : secT.length = 256 := tornBy_length (by simp [zeros]) secA_length (by decide)
theorem dA_read : dA4.readE 1 = secT := by unfold DS.readE; rw [if_pos dA_reach, dA4_eq]; rfl
theorem dA_image : dA4.image = zeros ++ secT := by rw [dA4_eq]; simp [DS.image, secT]

def opA : OpD := ⟨0, 0, ⟨#[]⟩, 97, .slice none 0 0, ⟨[], 0, 0⟩⟩
theorem opA_sector : opA.sector = secA := if_pos rfl

theorem secA3 : secA.take 3 = [97, 97, 97] := by decide
theorem secT4 : secT.take 4 = [97, 97, 97, 0] := by
  have h : secT = secA.take 3 ++ zeros.drop 3 := rfl
  rw [h, secA3]
  decide

/-- 'string(make([]byte, 256))'. -/
theorem made_zero {j : Nat} (h : j < 256) : (madeCells #[Value.int .u8 0] 256)[j]? = some (.int .u8 0) := by
  unfold madeCells
  rw [Array.getElem?_map, Array.getElem?_range, if_pos h]
  simp [Nat.mod_one]
theorem zero_range {W : World} {g : Nat} (h : W.heap[g]? = some (.cells (madeCells #[Value.int .u8 0] 256) 5 (0, 0))) : W.rangeAt g 0 (Lib.byteCells zeros) := by
  intro j v hj
  have hj2 : j < 256 := by have := (List.getElem?_eq_some_iff.1 hj).1; rw [Lib.byteCells_length] at this; simpa [zeros] using this
  have hb : Lib.byteCells zeros = List.replicate 256 (.int .u8 0) := by simp only [Lib.byteCells, zeros, List.map_replicate]; rfl
  rw [hb, List.getElem?_replicate, if_pos hj2] at hj
  rw [cell_of_row W g _ _ _ _ h, Nat.zero_add, made_zero hj2]
  exact hj
theorem conv_zero {W : World} {g : Nat} (h : W.heap[g]? = some (.cells (madeCells #[Value.int .u8 0] 256) 5 (0, 0))) : (convert 52 9 (.slice (some ⟨g, 0, none⟩) 256 256)).run Tryd.prog W = .ok (.string ⟨zeros.toArray⟩) W :=
  conv_at (zero_range h) 256 256 (by simp [zeros])
theorem conv_kept (W W' : World) (k : Qt (W.alloc (.cells (madeCells #[Value.int .u8 0] 256) 5)) W') : (convert 52 9 (.slice (some ⟨W.heap.size, 0, none⟩) 256 256)).run Tryd.prog W' = .ok (.string ⟨zeros.toArray⟩) W' :=
  conv_zero ((k.block _ (by simp) (fun e => e)).trans (heap_alloc_new W _))

theorem heads_same : ((⟨secT.toArray⟩ : ByteArray).extract 0 4).toList = ((⟨secA.toArray⟩ : ByteArray).extract 0 3 ++ ⟨#[0]⟩).toList := by
  rw [Lib.toList_data, Lib.toList_data]
  have h1 : ((⟨secT.toArray⟩ : ByteArray).extract 0 4).data.toList = secT.take 4 := by rw [Lib.extract_data]; simp
  have h2 : ((⟨secA.toArray⟩ : ByteArray).extract 0 3 ++ ⟨#[0]⟩).data.toList = secA.take 3 ++ [0] := by rw [ByteArray.data_append, Array.toList_append, Lib.extract_data]; simp
  rw [h1, h2, secT4, secA3]
  rfl

theorem cat_same (Z T : List UInt8) : (Z ++ T == ((⟨Z.toArray⟩ : ByteArray) ++ ⟨T.toArray⟩).toList) = true := by
  rw [Lib.toList_data, ByteArray.data_append, Array.toList_append]
  simp

theorem strL_mk (l : List UInt8) : strL ⟨l.toArray⟩ = l := rfl

set_option maxHeartbeats 3200000 in
theorem lives_any (ad : Nat → Addr) (w : World) (hE : Errs ad w) : Calls Tryd.prog 5 #[] w fun e w' => e = .returned (.bool true) ∧ Qt w w' := by
  have HE := Lib.hid hE
  have hS := Lib.hid (Keeps.refl (fun k => w.heap.size ≤ k) w)
  have v0 := Lib.hid (errV_zero ad)
  have v12 := Lib.hid (show errV ad 12 = .iface 90 (.pointer (some (ad 12))) from rfl)
  clear hE
  go_enter Tryd.func5, Tryd.ntmps5
  go_wp2_with fail
  refine (own_new hS.out 2 (by decide) (by decide)).mono ?_
  rintro e w1 ⟨b, rfl, h1, S1⟩
  have H1 := Lib.hid h1
  have HS1 := Lib.hid S1
  clear h1 S1
  go_wp2_with fail
  refine (size_any H1.out).mono ?_
  rintro e w2 ⟨rfl, rfl⟩
  rw [show ((DS.newD 2).dur.length : Int) = 2 from rfl]
  go_wp2_with fail
  refine (own_sector HS1.out opA H1.out).mono ?_
  rintro e w2 ⟨rfl, h2, S2, _⟩
  have H2 := Lib.hid h2
  have HS2 := Lib.hid S2
  clear h2 S2
  rw [opA_sector]
  go_wp2_with fail
  refine (own_write HE.out HS2.out H2.out dA0_few 1 ⟨secA.toArray⟩).mono ?_
  rintro e w3 ⟨rfl, h3, S3⟩
  have H3 := Lib.hid (show Own w.heap.size w3 b dA1 from h3)
  have HS3 := Lib.hid S3
  clear h3 S3
  rw [strL_mk, dA_write, v0.out]
  go_wp2_with fail
  refine (pending_any H3.out).mono ?_
  rintro e w4 ⟨rfl, rfl⟩
  rw [dA_pend]
  go_wp2_with fail
  refine (own_arm HS3.out H3.out 0 (by decide)).mono ?_
  rintro e w4 ⟨rfl, h4, S4⟩
  have H4 := Lib.hid (show Own w.heap.size w4 b dA2 from h4)
  have HS4 := Lib.hid S4
  clear h4 S4
  go_wp2_with fail
  refine (own_flush HE.out HS4.out H4.out dA2_few).mono ?_
  rintro e w5 ⟨rfl, h5, S5⟩
  have H5 := Lib.hid (show Own w.heap.size w5 b dA3 from h5)
  have HS5 := Lib.hid S5
  clear h5 S5
  rw [dA_flush]
  go_wp2_with fail
  refine (own_num HE.out HS5.out H5.out 12 (by decide)).mono ?_
  rintro e w6 ⟨rfl, h6, S6, _⟩
  have H6 := Lib.hid h6
  have HS6 := Lib.hid S6
  clear h6 S6
  go_wp2_with fail
  refine (off_any H6.out).mono ?_
  rintro e w7 ⟨rfl, rfl⟩
  rw [dA_off3]
  go_wp2_with fail
  refine (own_crash HS6.out H6.out dA3_few (.slice none 0 0) ⟨[], 0, 3⟩ ⟨none, 0, rfl, by decide, fun k x hx => by simp at hx⟩ (fun a n c e _ => by cases e)).mono ?_
  rintro e w7 ⟨rfl, h7, S7⟩
  have H7 := Lib.hid (show Own w.heap.size w7 b dA4 from h7)
  have HS7 := Lib.hid S7
  clear h7 S7
  go_wp2_with fail
  refine (own_read HE.out HS7.out H7.out 1).mono ?_
  rintro e w8 ⟨rfl, rfl⟩
  rw [dA_reach, v0.out, dA_read]
  go_wp2_with fail
  have hmk := fun W => make_bytes W
  have hEq : (((⟨secT.toArray⟩ : ByteArray).extract 0 4).toList == ((⟨secA.toArray⟩ : ByteArray).extract 0 3 ++ ⟨#[0]⟩).toList) = true := by rw [heads_same]; exact beq_self_eq_true _
  have hTl := secT_length
  have hAl := secA_length
  have hZl : zeros.length = 256 := by simp [zeros]
  have HQ1 := Lib.hid (show Qt w7 w7.drew from (Qt.refl w7).drew)
  have HQ2 := Lib.hid (show Qt w7 (w7.drew.alloc (.cells (madeCells #[Value.int .u8 0] 256) 5)) from ((Qt.refl w7).drew).alloc _)
  have hc1 := conv_kept w7.drew _ (Qt.refl _)
  have HI := Lib.hid dA_image
  have HO4 := Lib.hid dA_off4
  have HL4 := Lib.hid dA_life
  have H7' := H7.out
  clear H7 H6 H5 H4 H3 H2 H1 HS1 HS2 HS3 HS4 HS5 HS6 v0 v12
  have HC1 := Lib.hid hc1
  have HCK := Lib.hid conv_kept
  generalize dA4 = d4 at *
  generalize secT = T at *
  generalize secA = A at *
  generalize zeros = Z at *
  have H7 := Lib.hid H7'
  clear H7'
  have hc3 : (convert 52 9 (.slice (some ⟨w7.heap.size, 0, none⟩) 256 256)).run Tryd.prog (w7.drew.alloc (.cells (madeCells #[Value.int .u8 0] 256) 5)) = .ok (.string ⟨Z.toArray⟩) (w7.drew.alloc (.cells (madeCells #[Value.int .u8 0] 256) 5)) := hc1
  have hc4 : (convert 52 9 (.slice (some ⟨w7.heap.size, 0, none⟩) 256 256)).run Tryd.prog (w7.alloc (.cells (madeCells #[Value.int .u8 0] 256) 5)).drew = .ok (.string ⟨Z.toArray⟩) (w7.alloc (.cells (madeCells #[Value.int .u8 0] 256) 5)).drew := hc1
  clear hc1
  go_region_held (fun W' => Qt w7 W') (first | assumption | exact (Qt.refl w7).drew | (refine Keeps.alloc ?_ _; assumption) | (refine Qt.trans ?_ (by assumption); assumption))
    (first | (go_at_call 18; refine (off_any (DiskAt.qt H7.out (by assumption))).mono ?_; rintro e wa ⟨rfl, rfl⟩; rw [HO4.out]) | (go_at_call 21; refine (life_any (DiskAt.qt H7.out (by assumption))).mono ?_; rintro e wa ⟨rfl, rfl⟩; rw [HL4.out]) | (go_at_call 22; refine (image_any _ b _ _ (DiskAt.qt H7.out (by assumption))).mono ?_; rintro e wa ⟨rfl, ka⟩; rw [HI.out]; have hc2 := HCK.out wa _ (Qt.refl _); try (have hc5 : (convert 52 9 (.slice (some ⟨w7.heap.size, 0, none⟩) 256 256)).run Tryd.prog wa = .ok (.string ⟨Z.toArray⟩) wa := HCK.out w7.drew wa ka)))
  all_goals
    rename_i hHeldQ
    have HQ := Lib.hid (Since.qt (HS7.out.step hHeldQ (fun _ e => e.elim)))
    clear hHeldQ
    go_wp2
    go_ret
    exact ⟨congrArg (fun x => Ending.returned (.bool x)) (cat_same Z T), HQ.out⟩
end Go.Proofs.YtbifhnlinnokaaaDoor
