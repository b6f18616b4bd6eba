/-
  The contract of remitlaw08.lives, and errors compared.
-/
import Derived.Test.YtnnkibhlildojaaDoorGCalls
namespace Go.Proofs.YtnnkibhlildojaaDoor
open Go.RowKit Go.WideShapes
set_option maxRecDepth 100000

theorem eq_same (ei : Addr) (w : World) : (binOp .eql 26 (.iface 104 (.pointer (some ei))) (.iface 104 (.pointer (some ei)))).run Tryd.prog w = .ok (.bool true) w := by
  obtain ⟨i, hi, hcmp⟩ := Option.map_eq_some_iff.1 compErr
  obtain ⟨j, hj, _⟩ := Option.map_eq_some_iff.1 sizeErr
  exact run_eql_iface_ptr_same (P := Tryd.prog) w ei Tryd.underlying26 Tryd.underlying104 hi hcmp hj
theorem ne_same (ei : Addr) (w : World) : (binOp .neq 26 (.iface 104 (.pointer (some ei))) (.iface 104 (.pointer (some ei)))).run Tryd.prog w = .ok (.bool false) w := by
  obtain ⟨i, hi, hcmp⟩ := Option.map_eq_some_iff.1 compErr
  obtain ⟨j, hj, _⟩ := Option.map_eq_some_iff.1 sizeErr
  simp only [binOp]
  simp [Op.equal, Op.maxDepth, run_equalIn_iface_ptr_same (P := Tryd.prog) w 9998 ei Tryd.underlying26 Tryd.underlying104 hi hcmp hj]

theorem eq_nil (ei : Addr) (w : World) : (binOp .eql 26 .nilIface (.iface 104 (.pointer (some ei)))).run Tryd.prog w = .ok (.bool false) w :=
  run_eql_iface_nil_left (P := Tryd.prog) (w := w) 104 (.pointer (some ei)) Tryd.underlying26

/-! ### A Write that goes through, over a disk of which nothing is under way -/
def DS.wrote (d : DS) (i v : Nat) (p : List UInt8) : DS := { d with dur := d.dur.set (i + v % 2) (E.sct v p), ways := [], armed := dec (dec d.armed), wr := d.wr + 1, fl := d.fl + 1 }
theorem DS.Calm.wrote' {d : DS} (h : d.Calm) (i v : Nat) (p : List UInt8) : (d.wrote i v p).Calm := ⟨rfl, h.off⟩
theorem getD_set_same {D : List (List UInt8)} {i : Nat} (s : List UInt8) (h : i < D.length) : (D.set i s).getD i [] = s := by simp [List.getD, h]
theorem getD_set_other {D : List (List UInt8)} {i j : Nat} (s : List UInt8) (h : i ≠ j) : (D.set i s).getD j [] = D.getD j [] := by simp [List.getD, h]

def dB0 : DS := DS.newD 4
def dB1 : DS := dB0.wrote 1 1 [97]
def dB2 : DS := dB1.wrote 1 2 [98]
theorem dB0_calm : dB0.Calm := ⟨rfl, rfl⟩
theorem dB0_len : dB0.dur.length = 4 := by simp [dB0, DS.newD]
theorem dB1_len : dB1.dur.length = 4 := by show (dB0.dur.set _ _).length = 4; rw [List.length_set, dB0_len]
theorem dB2_len : dB2.dur.length = 4 := by show (dB1.dur.set _ _).length = 4; rw [List.length_set, dB1_len]
theorem dB1_calm : dB1.Calm := ⟨rfl, rfl⟩
theorem dB2_calm : dB2.Calm := ⟨rfl, rfl⟩
theorem dB_write1 : dB0.slotsE 1 1 [97] = 0 ∧ dB0.slotsD 1 1 [97] = dB1 := dB0_calm.slots2 (i := 1) (v := 1) (by rw [dB0_len]; decide) (by decide) (by decide) (by decide) (by decide) (by decide)
theorem dB_write2 : dB1.slotsE 1 2 [98] = 0 ∧ dB1.slotsD 1 2 [98] = dB2 := dB1_calm.slots2 (i := 1) (v := 2) (by rw [dB1_len]; decide) (by decide) (by decide) (by decide) (by decide) (by decide)
theorem newD_getD {n i : Nat} (h : i < n) : (DS.newD n).dur.getD i [] = G.zeros := by simp [DS.newD, List.getD, h]; rfl
theorem dB_read0 : dB0.slotsR 1 = ([], 0, 14) := by
  rw [show dB0.slotsR 1 = dB0.slotsR ((1 : Nat) : Int) from rfl, dB0_calm.tells (by rw [dB0_len]; decide)]
  unfold G.readS
  have h0 : dB0.dur.getD (1 + 0) [] = G.zeros := newD_getD (by decide)
  have h1 : dB0.dur.getD (1 + 1) [] = G.zeros := newD_getD (by decide)
  simp only [h0, h1, G.slotV_zeros]
  rfl
theorem dB_read2 : dB2.slotsR 1 = ([98], 2, 0) := by
  rw [show dB2.slotsR 1 = dB2.slotsR ((1 : Nat) : Int) from rfl, dB2_calm.tells (by rw [dB2_len]; decide)]
  unfold G.readS
  have h0 : dB2.dur.getD (1 + 0) [] = E.sct 2 [98] := getD_set_same _ (by rw [dB1_len]; decide)
  have h1 : dB2.dur.getD (1 + 1) [] = E.sct 1 [97] := by
    rw [show dB2.dur = dB1.dur.set (1 + 2 % 2) (E.sct 2 [98]) from rfl, getD_set_other _ (by decide)]
    exact getD_set_same _ (by rw [dB0_len]; decide)
  simp only [h0, h1]
  rw [G.slotV_sct (by decide) (by decide) (by decide) (by decide), G.slotV_sct (by decide) (by decide) (by decide) (by decide)]
  rfl
theorem fewer_of {d : DS} {a b : Nat} (h1 : d.ways = []) (h2 : d.wr = a) (h3 : d.fl = a) (h4 : d.cr = b) (ha : a ≤ 1000000) (hb : b ≤ 1000000) : d.Fewer := ⟨by rw [h1]; decide, by omega, by omega, by omega⟩

set_option maxHeartbeats 1600000 in
theorem lives8_any (ad : Nat → Addr) (w : World) (hE : Errs ad w) (hT : Tab w) : Calls Tryd.prog 7 #[] w fun e w' => e = .returned (.bool true) ∧ Qt w w' := by
  have HE := Lib.hid hE
  have HT := Lib.hid hT
  have hS := Lib.hid (Keeps.refl (fun k => w.heap.size ≤ k) w)
  have v0 := Lib.hid (errV_zero ad)
  have E14 := Lib.hid (fun W (q : Since w.heap.size w W) => (show W.cell? ⟨1, 0, none⟩ = some (.iface 104 (.pointer (some (ad 14)))) from (errs_since hE q).cells 13 _ rfl))
  have NE := ne_same (ad 14)
  clear hE hT
  go_enter Tryd.func7, Tryd.ntmps7
  go_wp2_with fail
  refine (own_new hS.out 4 (by decide) (by decide)).mono ?_
  rintro e w1 ⟨b, rfl, h1, S1⟩
  have H1 := Lib.hid (show Own w.heap.size w1 b dB0 from h1)
  have HS1 := Lib.hid S1
  clear h1 S1
  go_wp2_with fail
  refine (own_slotsRead HE.out HT.out HS1.out H1.out 1).mono ?_
  rw [dB_read0]
  rintro e w2 ⟨rfl, h2, S2, _⟩
  have H2 := Lib.hid h2
  have HS2 := Lib.hid S2
  clear h2
  have c14 := E14.out w2 S2
  clear S2
  unfold readT
  rw [errV_pos ad (by decide)]
  go_wp2_with fail
  refine (own_slotsWrite HE.out HT.out HS2.out H2.out (fewer_of (a := 0) (b := 0) rfl rfl rfl rfl (by decide) (by decide)) 1 1 (by decide) (by decide) ⟨#[97]⟩).mono ?_
  rw [show (⟨#[97]⟩ : ByteArray).data.toList = [97] from rfl, dB_write1.1, dB_write1.2, v0.out]
  rintro e w3 ⟨rfl, h3, S3⟩
  have H3 := Lib.hid h3
  have HS3 := Lib.hid S3
  clear h3 S3
  go_wp2_with fail
  refine (own_slotsWrite HE.out HT.out HS3.out H3.out (fewer_of (a := 1) (b := 0) rfl rfl rfl rfl (by decide) (by decide)) 1 2 (by decide) (by decide) ⟨#[98]⟩).mono ?_
  rw [show (⟨#[98]⟩ : ByteArray).data.toList = [98] from rfl, dB_write2.1, dB_write2.2, v0.out]
  rintro e w4 ⟨rfl, h4, S4⟩
  have H4 := Lib.hid h4
  have HS4 := Lib.hid S4
  clear h4 S4
  go_wp2_with fail
  refine (own_slotsRead HE.out HT.out HS4.out H4.out 1).mono ?_
  rw [dB_read2]
  rintro e w5 ⟨rfl, h5, S5, _⟩
  have HS5 := Lib.hid S5
  clear h5 S5
  unfold readT
  rw [v0.out]
  go_wp2
  go_ret
  exact ⟨rfl, HS5.out.qt⟩
end Go.Proofs.YtnnkibhlildojaaDoor
