/-
  DiskTwin, walked.
-/
import Derived.Test.YtfondfhikmaniaaDoorLFlushes
import Derived.Test.YtfondfhikmaniaaDoorDFrom
namespace Go.Proofs.YtfondfhikmaniaaDoor
open Go.RowKit Go.WideShapes
set_option maxRecDepth 100000

/-- A crash that keeps nothing changes nothing durable. -/
theorem crashTo_none {f : FT} (h1 : f.torn = -1) (h2 : f.kept = []) (D : List (List UInt8)) (hD : ∀ (i : Nat) (t : List UInt8), D[i]? = some t → t.length = 256) (ws : List (Nat × List UInt8)) : ∀ k, crashTo f D ws k = D
  | 0 => rfl
  | k + 1 => by
    unfold crashTo
    split
    · rename_i w _
      rw [crashTo_none h1 h2 D hD ws k]
      have hd : f.done k = 0 := by
        unfold FT.done
        rw [h1, h2, if_neg (by omega)]
        simp
      rw [hd, tornBy_zero]
      by_cases hw : w.1 < D.length
      · apply List.ext_getElem?
        intro i
        rw [List.getElem?_set]
        split
        · rename_i e
          subst e
          simp [List.getD, hw]
        · rfl
      · rw [List.set_eq_of_length_le (by omega)]
    · exact crashTo_none h1 h2 D hD ws k

theorem flat_eq {D : List (List UInt8)} (hD : ∀ (i : Nat) (t : List UInt8), D[i]? = some t → t.length = 256) : cuts D.flatten D.length = D := by
  have hf := fun k hk => flat_len hD k hk
  apply List.ext_getElem?
  intro i
  unfold cuts
  rw [List.getElem?_map]
  by_cases hi : i < D.length
  · rw [List.getElem?_range hi, Option.map_some, List.getElem?_eq_getElem hi]
    congr 1
    have e := List.take_append_drop i D
    have hl := hf i (by omega)
    unfold cutAt
    have e2 : D.flatten = (D.take i).flatten ++ (D.drop i).flatten := by rw [← List.flatten_append, e]
    rw [e2, ← hl, List.drop_left', List.drop_eq_getElem_cons hi, List.flatten_cons]
    · have h256 := hD i D[i] (List.getElem?_eq_getElem hi)
      rw [← h256]
      exact List.take_left' rfl
    · rfl
  · rw [List.getElem?_eq_none (by simpa using hi), List.getElem?_eq_none (by omega)]
    rfl

theorem MadeI.twin {N k : Nat} {d : DS} (h : MadeI N k d) (hk : k ≤ 1048576) (f : FT) : FlushedI N (d.crashD f) := by
  have h' := h.crash f
  exact ⟨h'.off, h'.armed, h'.len, rfl, h'.few (by omega)⟩

/-- The two are alike. -/
theorem twins {N k : Nat} {d : DS} (h : MadeI N k d) (ho : d.Ok) : (d.crashD ⟨[], -1, 0⟩).dur = d.dur ∧ (DS.fromD d.image N).dur = d.dur ∧ FlushedI N (DS.fromD d.image N) := by
  have e : cuts d.image N = d.dur := by
    rw [← h.len]
    exact flat_eq ho.each
  refine ⟨crashTo_none rfl rfl _ ho.each _ _, e, ⟨rfl, rfl, ?_, rfl, ⟨Nat.zero_le _, Nat.zero_le _, Nat.zero_le _, Nat.zero_le _⟩⟩⟩
  show (cuts d.image N).length = N
  rw [e]
  exact h.len

/-- The state of DiskTwin's loop. -/
def TwAt (N : Nat) (w0 : World) (b c : Nat) (d t : DS) (S T : Nat → Prop) (iv : Value) (wr : World) : Prop :=
  ∃ k : Nat, k ≤ N ∧ iv = .int .i64 k ∧ DiskAt wr b d S ∧ DiskAt wr c t T ∧ Since w0.heap.size w0 wr

set_option maxHeartbeats 3200000 in
theorem twin_any (ad : Nat → Addr) (n : Int) (_lo : -9223372036854775808 ≤ n) (_hi : n ≤ 9223372036854775807) (v : Value) (g off : Nat) (os : List OpD) (w : World) (hE : Errs ad w) (hs : Script w v g off os) :
    Calls Tryd.prog 7 #[.int .i64 n, v] w fun e w' => e = .returned (.bool true) ∧ Qt w w' := by
  have hle := hs.le
  obtain ⟨hN0, hN1⟩ := madeN_bd n
  have v0 := Lib.hid (errV_zero ad)
  have HE := Lib.hid hE
  have HSC := Lib.hid hs
  clear hs hE
  go_enter Tryd.func7, Tryd.ntmps7
  go_wp2_with fail
  refine (lives_any ad w HE.out).mono ?_
  rintro e w1 ⟨rfl, q1⟩
  have HS1 := Lib.hid (Qt.since (B := w.heap.size) q1)
  clear q1
  go_wp2_with fail
  refine (made_any ad n v g off os w w1 HE.out HSC.out HS1.out).mono ?_
  rintro e w2 ⟨b, d, rfl, hI, h2, S2⟩
  obtain ⟨N, hN⟩ : ∃ N, madeN n = N := ⟨_, rfl⟩
  rw [hN] at hI hN0 hN1
  rw [hN]
  have HF := Lib.hid (hI.few (by omega))
  have HT := Lib.hid (twins hI h2.ok)
  have HC := Lib.hid (hI.twin hle ⟨[], -1, 0⟩)
  have hlen := flat_len h2.ok.each d.dur.length (Nat.le_refl _)
  rw [List.take_length, hI.len] at hlen
  have HLN := Lib.hid (show d.image.length = N * 256 from hlen)
  have HEA := Lib.hid h2.ok.each
  have HDL := Lib.hid hI.len
  have H2 := Lib.hid h2
  have HS2 := Lib.hid S2
  clear h2 S2 hI hlen
  go_wp2_with fail
  refine (own_image HS2.out H2.out).mono ?_
  rintro e w3 ⟨rfl, h3, S3, _⟩
  have H3 := Lib.hid h3.there
  have HS3 := Lib.hid S3
  clear h3 S3
  have hsz : (⟨d.image.toArray⟩ : ByteArray).size = N * 256 := (List.size_toArray ..).trans HLN.out
  go_wp2_with fail
  refine (from_any ad ⟨d.image.toArray⟩ w3 (errs_since HE.out HS3.out) (by omega)).mono ?_
  rintro e w4 (⟨h1, _⟩ | ⟨_, h1, _⟩ | ⟨_, _, _, c, rfl, hT, q4⟩)
  · exact absurd h1 (by rw [hsz]; omega)
  · exact absurd h1 (by rw [hsz]; omega)
  rw [hsz, show N * 256 / 256 = N by omega, strL_mk] at hT
  have T4 := Lib.hid (DiskAt.mono hT (T := fun k => w3.heap.size ≤ k) (fun k hk => hk.elim (fun e => e.elim) (fun e => e.1)))
  have H4 := Lib.hid (DiskAt.qt H3.out q4)
  have HS4 := Lib.hid (HS3.out.step q4 (fun _ e => e.elim))
  clear hT q4 hsz
  go_wp2_with fail
  refine (size_any T4.out).mono ?_
  rintro e wx ⟨rfl, rfl⟩
  rw [HT.out.2.2.len]
  go_wp2_with fail
  refine (off_any T4.out).mono ?_
  rintro e wx ⟨rfl, rfl⟩
  rw [HT.out.2.2.off]
  go_wp2_with fail
  refine (pending_any T4.out).mono ?_
  rintro e wx ⟨rfl, rfl⟩
  rw [HT.out.2.2.ways]
  go_wp2_with fail
  refine (life_any T4.out).mono ?_
  rintro e wx ⟨rfl, rfl⟩
  rw [show (DS.fromD d.image N).cr = 0 from rfl]
  go_wp2_with fail
  have HCR := crash_any w4 b d _ H4.out HF.out (.slice none 0 0) ⟨[], -1, 0⟩ ⟨none, 0, rfl, by decide, fun k x hx => by simp at hx⟩ (fun a n c e _ => by cases e)
  unfold fateV at HCR
  refine HCR.mono ?_
  rintro e w5 ⟨rfl, D5, K5⟩
  have T5 := Lib.hid (T4.out.kept K5 (fun k h1 h2 => by omega))
  have HS5 := Lib.hid (HS4.out.step K5 (fun k e => e.1))
  have D5' := Lib.hid D5
  clear D5 K5 HCR
  go_wp2_with fail
  obtain ⟨dc, hdc⟩ : ∃ dc, d.crashD ⟨[], -1, 0⟩ = dc := ⟨_, rfl⟩
  obtain ⟨dt, hdt⟩ : ∃ dt, DS.fromD d.image N = dt := ⟨_, rfl⟩
  rw [hdc, hdt] at HT
  rw [hdc] at D5' HC
  rw [hdt] at T5
  go_loopw [8] (fun iv wr => TwAt N w b c dc dt (Grow (fun k => w.heap.size ≤ k ∧ k < w3.heap.size) w4 w5) (fun k => w3.heap.size ≤ k) iv wr) (fun iv _ => N - (intOf iv).toNat)
  case atStart => exact ⟨0, Nat.zero_le _, rfl, D5'.out, T5.out, HS5.out⟩
  case round =>
    obtain ⟨k, hk, rfl, hD, hT, hS⟩ := hrel
    by_cases hlt : k < N
    · have HD := Lib.hid hD
      have HTT := Lib.hid hT
      have HSW := Lib.hid hS
      have r1 := HC.out.read hlt
      have r2 := HT.out.2.2.read hlt
      rw [HT.out.1] at r1
      rw [HT.out.2.1] at r2
      have HR1 := Lib.hid r1
      have HR2 := Lib.hid r2
      have HC1 := Lib.hid (HC.out.reach hlt)
      have HC2 := Lib.hid (HT.out.2.2.reach hlt)
      have hy := getD_length HEA.out (show k < d.dur.length by rw [HDL.out]; exact hlt)
      obtain ⟨Y, hY⟩ : ∃ Y : ByteArray, ⟨(d.dur.getD k []).toArray⟩ = Y := ⟨_, rfl⟩
      have hys : Y.size = 256 := by rw [← hY]; exact (List.size_toArray ..).trans hy
      have hne : (Y.toList != Y.toList) = false := bne_self_eq_false _
      clear hD hT hS r1 r2 hy
      have FF := Lib.hid (show TwAt N w b c dc dt (Grow (fun k => w.heap.size ≤ k ∧ k < w3.heap.size) w4 w5) (fun k => w3.heap.size ≤ k) (.int .i64 ((k : Int) + 1)) wr from ⟨k + 1, hlt, by simp, HD.out, HTT.out, HSW.out⟩)
      go_wp2_with fail
      refine (read_any ad (errs_since HE.out HSW.out) HD.out k).mono ?_
      rintro e wx ⟨rfl, rfl⟩
      rw [HC1.out, HR1.out, v0.out, hY]
      go_wp2_with fail
      refine (read_any ad (errs_since HE.out HSW.out) HTT.out k).mono ?_
      rintro e wx ⟨rfl, rfl⟩
      rw [HC2.out, HR2.out, v0.out, hY]
      go_wp2_with fail
      go_roundw
      case rel => exact FF.out
      case measure => simp [intOf]; omega
    · obtain rfl : k = N := by omega
      have HSW := Lib.hid (Since.qt hS)
      clear hD hT hS hlt
      go_wp2_with fail
      go_ret
      exact ⟨rfl, HSW.out⟩
end Go.Proofs.YtfondfhikmaniaaDoor
