/-
  The contract of remitlaw03.ChecksBursts: it answers true.
-/
import Derived.Test.YtkmemjljoeokhaaDoorCTurn
import Derived.Test.YtkmemjljoeokhaaDoorCSlips
import Derived.Deep.RegionHeld3
namespace Go.Proofs.YtkmemjljoeokhaaDoor
open Go.RowKit Go.WideShapes
set_option maxRecDepth 100000

theorem TurnRow.qt {w w' : World} {g : Nat} {l : List UInt8} (h : TurnRow w g l) (k : Qt w w') : TurnRow w' g l := by
  obtain ⟨cs, h1, h2⟩ := h
  exact ⟨cs, (k.block g (lt_of_block h1) (fun e => e)).trans h1, h2⟩
theorem byteAt_int (x k : Nat) : (x : Int) / 2 ^ (8 * k) % 256 = ((C.byteAt x k : Nat) : Int) := by
  unfold C.byteAt
  rw [show (256 : Nat) ^ k = 2 ^ (8 * k) by rw [Nat.pow_mul]]
  push_cast
  rfl
theorem turn_more {w wr : World} {s : List UInt8} {g j k x : Nat} (hR : TurnRow wr g (C.turn s j x k)) (hq : Qt w wr) (hg : w.heap.size ≤ g) (h : j + k < s.length) :
    TurnRow (wr.setCell ⟨g, j + k, none⟩ (.int .u8 (bits .xor .u8 (s[j + k].toNat : Int) ((x : Int) / 2 ^ (8 * k) % 256)))) g (C.turn s j x (k + 1)) ∧ Qt w (wr.setCell ⟨g, j + k, none⟩ (.int .u8 (bits .xor .u8 (s[j + k].toNat : Int) ((x : Int) / 2 ^ (8 * k) % 256)))) := by
  have hb := C.byteAt_lt x k
  have hx := u8_xor_nat s[j + k].toNat (C.byteAt x k) s[j + k].toNat_lt hb
  have h1 := hR.store (j + k) (s[j + k].toNat ^^^ C.byteAt x k).toUInt8
  rw [C.turn_step h, C.u8_val (Nat.xor_lt_two_pow (n := 8) s[j + k].toNat_lt hb)] at h1
  rw [byteAt_int, hx]
  exact ⟨h1, Keeps.setCell hq (fun hlt => absurd hlt (by simp only; omega)) _⟩
theorem sums_ne {s : List UInt8} {j x k : Nat} (hk : k ≤ 4) (h : j + k ≤ s.length) : (((C.sum s : Nat) : Int) != ((C.sum (C.turn s j x k) : Nat) : Int)) = C.unlike x k := by
  rw [C.turn_sum hk h, Bool.eq_iff_iff, bne_iff_ne, decide_eq_true_eq]
  omega
theorem sumQ (s : ByteArray) (w : World) (hs : s.size ≤ maxLen) (hT : Tab w) : Calls Tryd.prog 10 #[.string s] w fun e w' => e = .returned (.int .u32 (C.sum s.data.toList : Nat)) ∧ w' = w :=
  (sum_any s w hs hT).mono fun _ _ ⟨h1, h2⟩ => ⟨h1, h2.symm⟩
theorem unlike_yes {x k : Nat} (h : C.unlike x k = true) : C.unlike x (k + 1) = true := by rw [C.unlike_step, h]; rfl
theorem unlike_new {x k : Nat} (h : C.unlike x k = false) : ((x : Int) / 2 ^ (8 * k) % 256 != 0) = C.unlike x (k + 1) := by
  rw [C.unlike_step, h, Bool.false_or, byteAt_int, Bool.eq_iff_iff, bne_iff_ne, bne_iff_ne]
  omega

set_option maxHeartbeats 6400000 in
theorem bursts_any (ef : Addr) (s : ByteArray) (a : Int) (x : Nat) (w : World) (hz : s.size ≤ 140737488351232) (hf : FormAt ef w) (hT : Tab w) :
    Calls Tryd.prog 4 #[.string s, .int .i64 a, .int .u32 x] w fun e w' => e = .returned (.bool true) ∧ Qt w w' := by
  have hs : s.size ≤ maxLen := by unfold maxLen; omega
  have hT' := fun (W : World) (k : Qt w W) => hT.qt k
  have HL := Lib.hid (lives_any ef w hf hT)
  have S1 := Lib.hid (fun W (k : Qt w W) => sum_any s W hs (hT' W k))
  by_cases h0 : s.size = 0
  · have hs0 : C.sum s.data.toList = 0 := by
      rw [show s.data.toList = [] from List.eq_nil_of_length_eq_zero h0]; decide
    rw [hs0] at S1
    clear hs0 hT hT' hf hs
    go_enter Tryd.func4, Tryd.ntmps4
    go_wp2_with fail
    refine HL.out.mono ?_
    rintro e w1 ⟨rfl, k1⟩
    have K1 := Lib.hid k1; clear k1
    go_wp2_with fail
    refine (S1.out _ K1.out).mono ?_
    rintro e w2 ⟨rfl, rfl⟩
    go_wp2
    go_ret
    exact ⟨by simp, K1.out⟩
  · have hpos : 0 < s.size := by omega
    have h1 : ((s.size : Int) == 0) = false := by rw [beq_eq_false_iff_ne]; omega
    obtain ⟨j, hj, hja⟩ := cut_at a hpos (by omega)
    have hcv := fun W => Lib.run_convert_string_bytes (P := Tryd.prog) W 9 28 5 s Tryd.underlying9 Tryd.underlying28 Tryd.underlying5
    clear h0 hT hf
    go_enter Tryd.func4, Tryd.ntmps4
    go_wp2_with fail
    refine HL.out.mono ?_
    rintro e w1 ⟨rfl, k1⟩
    have K1 := Lib.hid k1
    have TM := TurnRow.made w1 s
    have KB := Lib.hid (Qt.trans k1 (bytesWorld_keeps w1 5 s))
    have hg := Lib.bytesWorld_size w1 5 s
    have TM := Lib.hid TM
    have HG := Lib.hid hg
    clear k1 hg
    go_wp2
    rw [hja]
    generalize hw2 : Lib.bytesWorld w1 5 s = w2
    rw [hw2] at TM KB HG
    have hgw : w.heap.size ≤ w1.heap.size := K1.out.size
    generalize w1.heap.size = g at *
    generalize grownCap w1 s.size 0 5 = cap at *
    clear hw2 hcv hja
    go_loopw [8, 9, 10] (fun u i _ wr => ∃ k : Nat, k ≤ 4 ∧ j + k ≤ s.size ∧ i = .int .i64 k ∧ u = .bool (C.unlike x k) ∧ TurnRow wr g (C.turn s.data.toList j x k) ∧ Qt w wr) (fun _ i _ _ => 4 - (intOf i).toNat)
    case atStart => exact ⟨0, by omega, by omega, rfl, rfl, by rw [C.turn_zero]; exact TM.out, KB.out⟩
    case round =>
      obtain ⟨k, hk, hjk, rfl, rfl, hR, hq⟩ := hrel
      by_cases h4 : k < 4
      · by_cases h5 : j + k < s.size
        · have hl : j + k < (C.turn s.data.toList j x k).length := by rw [C.turn_length]; exact h5
          have hc := hR.cell hl
          have hfr := hR.frozen hl
          rw [C.turn_next (show j + k < s.data.toList.length from h5)] at hc
          have hbl := s.data.toList[j + k].toNat_lt
          have Fin := Lib.hid (turn_more hR hq hgw (show j + k < s.data.toList.length from h5))
          clear hR hq
          cases hu : C.unlike x k with
          | true =>
            have HU := Lib.hid (unlike_yes hu)
            clear hu
            go_wp2
            go_roundw
            case rel => exact ⟨k + 1, by omega, by omega, by go_num, by rw [HU.out], Fin.out.1, Fin.out.2⟩
            case measure => simp [intOf]; omega
          | false =>
            have HU := Lib.hid (unlike_new hu)
            clear hu
            go_wp2
            go_roundw
            case rel => exact ⟨k + 1, by omega, by omega, by go_num, by rw [HU.out], Fin.out.1, Fin.out.2⟩
            case measure => simp [intOf]; omega
        · clear KB TM HG
          have hsz : (⟨(C.turn s.data.toList j x k).toArray⟩ : ByteArray).size ≤ maxLen := by
            have : (⟨(C.turn s.data.toList j x k).toArray⟩ : ByteArray).size = (C.turn s.data.toList j x k).length := rfl
            rw [this, C.turn_length]; exact hs
          have SA := Lib.hid (fun n => sumQ s (wr.drewN n) hs (hT' _ (hq.drewN n)))
          have SB := Lib.hid (fun n => sumQ ⟨(C.turn s.data.toList j x k).toArray⟩ (wr.drewN n) hsz (hT' _ (hq.drewN n)))
          have HQ := Lib.hid hq
          have hcq := fun n => (hR.qt ((Qt.refl wr).drewN n)).conv s.size cap (by rw [C.turn_length]; rfl)
          have hne := sums_ne hk hjk (s := s.data.toList) (x := x)
          have e1 : (⟨(C.turn s.data.toList j x k).toArray⟩ : ByteArray).data.toList = C.turn s.data.toList j x k := rfl
          rw [e1] at SB
          generalize C.sum (C.turn s.data.toList j x k) = y2 at *
          generalize C.sum s.data.toList = y1 at *
          generalize (⟨(C.turn s.data.toList j x k).toArray⟩ : ByteArray) = T at *
          clear hR hq e1 hsz
          go_wp2
          go_quiet ((first | (go_at_call 10; with_reducible exact Calls.quiet_of_same (SA.out _)) | (go_at_call 10; with_reducible exact Calls.quiet_of_same (SB.out _))))
          go_wp2
          go_ret
          exact ⟨rfl, HQ.out.drewN _⟩
      · clear KB TM HG
        have hsz : (⟨(C.turn s.data.toList j x k).toArray⟩ : ByteArray).size ≤ maxLen := by
          have : (⟨(C.turn s.data.toList j x k).toArray⟩ : ByteArray).size = (C.turn s.data.toList j x k).length := rfl
          rw [this, C.turn_length]; exact hs
        have SA := Lib.hid (fun n => sumQ s (wr.drewN n) hs (hT' _ (hq.drewN n)))
        have SB := Lib.hid (fun n => sumQ ⟨(C.turn s.data.toList j x k).toArray⟩ (wr.drewN n) hsz (hT' _ (hq.drewN n)))
        have HQ := Lib.hid hq
        have hcq := fun n => (hR.qt ((Qt.refl wr).drewN n)).conv s.size cap (by rw [C.turn_length]; rfl)
        have hne := sums_ne hk hjk (s := s.data.toList) (x := x)
        have e1 : (⟨(C.turn s.data.toList j x k).toArray⟩ : ByteArray).data.toList = C.turn s.data.toList j x k := rfl
        rw [e1] at SB
        generalize C.sum (C.turn s.data.toList j x k) = y2 at *
        generalize C.sum s.data.toList = y1 at *
        generalize (⟨(C.turn s.data.toList j x k).toArray⟩ : ByteArray) = T at *
        clear hR hq e1 hsz
        go_wp2
        go_quiet ((first | (go_at_call 10; with_reducible exact Calls.quiet_of_same (SA.out _)) | (go_at_call 10; with_reducible exact Calls.quiet_of_same (SB.out _))))
        go_wp2
        go_ret
        exact ⟨rfl, HQ.out.drewN _⟩
end Go.Proofs.YtkmemjljoeokhaaDoor
