/-
  The contract of remitlaw09.text: some text of so many bytes.
  Layer 9, plain: what a Write under the next stamp leaves behind a crash.
  Layer 9, plain: sectors behind a flush and behind a crash of a Write's pieces; stamps that rise.
-/
import Derived.Test.YtcapifhmmkmboaaDoorP21
import Derived.LoopTactic
import Derived.Test.YtcapifhmmkmboaaDoorP18
namespace Go.Proofs.YtcapifhmmkmboaaDoor
open Go.RowKit Go.WideShapes
set_option maxRecDepth 100000

theorem make_zeros9 (w : World) (c : Nat) (hc : c ≤ 65536) : (Instr.makeSlice 70 (.int .i64 (c : Int)) (.int .i64 (c : Int))).run Tryd.prog w = .ok (.slice (some ⟨w.heap.size, 0, none⟩) c c) (w.alloc (.cells (madeCells #[Value.int .u8 0] c) 5)) := by
  obtain ⟨i0, hi, hz0, hz1, hz2⟩ := info_parts infoU8
  have h := run_make (P := Tryd.prog) w 70 5 i0 (.int .u8 0) Tryd.underlying70 hi hz0 .i64 .i64 c c (by omega) (by omega) (by rw [hz2]; omega) (by omega)
  rw [hz1, Nat.mul_one] at h
  exact h
/-- What the loop keeps. -/
def TextAt (w : World) (n : Nat) (xv iv : Value) (wr : World) : Prop :=
  ∃ (k : Nat) (x : Int) (l : List UInt8), k ≤ n ∧ iv = .int .i64 k ∧ xv = .int .u64 x ∧ l.length = n ∧ RawAt wr w.heap.size l ∧ Qt w wr
theorem TextAt.more {w wr : World} {n k : Nat} {l : List UInt8} (hk : k < n) (hl : l.length = n) (h : RawAt wr w.heap.size l) (q : Qt w wr) (X : Int) (x : Int) : TextAt w n (.int .u64 x) (.int .i64 ((k : Int) + 1)) (wr.setCell ⟨w.heap.size, k, none⟩ (.int .u8 (X % 256))) := by
  have h1 := h.store (i := k) ((X % 256).toNat.toUInt8)
  have e : (((X % 256).toNat.toUInt8.toNat : Nat) : Int) = X % 256 := by rw [E.u8_mod]; omega
  rw [e] at h1
  exact ⟨k + 1, x, _, hk, by push_cast; rfl, rfl, by rw [List.length_set]; exact hl, h1, Keeps.trans q (keeps_setCell7 wr _ k _) (fun i hi e => by subst e; exact absurd hi (Nat.lt_irrefl _))⟩

set_option maxHeartbeats 1600000 in
theorem text9_any (st : Int) (n : Nat) (hn : n ≤ 65536) (w : World) :
    Calls Tryd.prog 19 #[.int .u64 st, .int .i64 n] w fun e w' => ∃ T : ByteArray, T.size = n ∧ e = .returned (.string T) ∧ Qt w w' := by
  have hmk := make_zeros9 w n hn
  obtain ⟨w1, hw1⟩ : ∃ W, w.alloc (.cells (madeCells #[Value.int .u8 0] n) 5) = W := ⟨_, rfl⟩
  have START := Lib.hid (fun x : Int => show TextAt w n (.int .u64 x) (.int .i64 0) w1 from ⟨0, x, List.replicate n 0, Nat.zero_le _, rfl, rfl, List.length_replicate, hw1 ▸ RawAt.zeros w n, hw1 ▸ (Qt.refl w).alloc _⟩)
  rw [hw1] at hmk
  clear hw1
  go_enter Tryd.func19, Tryd.ntmps19
  go_wp2
  go_loopw [6, 15] (fun xv iv wr => TextAt w n xv iv wr) (fun _ iv _ => n - (intOf iv).toNat)
  case atStart => exact START.out _
  case round =>
    obtain ⟨k, x, l, hk, rfl, rfl, hl, hr, q⟩ := hrel
    by_cases hlt : k < n
    · obtain ⟨cv, hcl, hcf⟩ := hr.cell (j := k) (by omega)
      have FIN := Lib.hid (TextAt.more (k := k) hlt hl hr q)
      clear hr q hl
      go_wp2
      exact ⟨FIN.out _ _, by simp [intOf]; omega⟩
    · obtain rfl : k = n := by omega
      have hcv := hr.conv (n := k) (by omega) k
      have HQ := Lib.hid q
      obtain ⟨T, hT⟩ : ∃ T : ByteArray, ⟨(l.take k).toArray⟩ = T := ⟨_, rfl⟩
      have HT := Lib.hid (show T.size = k by rw [← hT]; show (l.take k).toArray.size = k; rw [List.size_toArray, List.length_take]; omega)
      rw [hT] at hcv
      clear hr q hl hT
      go_wp2
      go_ret
      exact ⟨T, HT.out, rfl, HQ.out⟩
end Go.Proofs.YtcapifhmmkmboaaDoor
namespace Go.Proofs.YtcapifhmmkmboaaDoor
set_option maxRecDepth 100000

/-- The writes of the first j pieces, under way. -/
def V.waysA (i st : Nat) (v : List UInt8) (j : Nat) : List (Nat × List UInt8) := (List.range j).map fun k => (i + k, E.sct st (V.piece v k))
theorem V.waysA_succ (i st : Nat) (v : List UInt8) (j : Nat) : V.waysA i st v (j + 1) = V.waysA i st v j ++ [(i + j, E.sct st (V.piece v j))] := by
  unfold V.waysA; rw [List.range_succ, List.map_append]; rfl
theorem V.waysA_get (i st : Nat) (v : List UInt8) {j k : Nat} (h : k < j) : (V.waysA i st v j)[k]? = some (i + k, E.sct st (V.piece v k)) := by
  unfold V.waysA; simp [h]
theorem V.waysA_length (i st : Nat) (v : List UInt8) (j : Nat) : (V.waysA i st v j).length = j := by simp [V.waysA]

/-- THE WAYS OF A WRITE over a disk of which nothing is under way: the power goes at piece or flush number a, or not at all. -/
theorem area_go {i st : Nat} {v : List UInt8} : ∀ (m k : Nat) (d : DS), d.off = false → d.ways = V.waysA i st v k → k + m = V.nsec v.length → i + (k + m) ≤ d.dur.length → -1 ≤ d.armed →
    ((0 ≤ d.armed ∧ d.armed ≤ m) ∧ ∃ d2, DS.areaGo i st v m k d = (12, d2) ∧ d2.off = true ∧ d2.dur = d.dur ∧ d2.ways = V.waysA i st v (min (k + d.armed.toNat + 1) (k + m)) ∧ d2.cr = d.cr ∧ d2.fl = d.fl ∧ d2.wr ≤ d.wr + m) ∨
    (¬ (0 ≤ d.armed ∧ d.armed ≤ m) ∧ ∃ d2, DS.areaGo i st v m k d = (0, d2) ∧ d2.off = false ∧ d2.dur = flushTo d.dur (V.waysA i st v (k + m)) (k + m) ∧ d2.ways = [] ∧ d2.cr = d.cr ∧ d2.fl = d.fl + 1 ∧ d2.wr = d.wr + m ∧ -1 ≤ d2.armed ∧ d2.armed ≤ d.armed)
  | 0, k, d, ho, hw, hk, hl, ha => by
    rw [DS.areaGo]
    unfold DS.flushE DS.flushD
    rw [ho]
    by_cases h0 : d.armed = 0
    · left
      refine ⟨by omega, { d with off := true }, by rw [if_neg (by simp), if_pos h0, if_neg (by simp), if_pos h0], rfl, rfl, ?_, rfl, rfl, by simp⟩
      show d.ways = _
      rw [hw, h0]
      congr 1
      omega
    · right
      have hd := dec_le ha
      refine ⟨by omega, { d with dur := flushTo d.dur d.ways d.ways.length, ways := [], armed := dec d.armed, fl := d.fl + 1 }, by rw [if_neg (by simp), if_neg h0, if_neg (by simp), if_neg h0, ← ho], ho, ?_, rfl, rfl, rfl, rfl, hd.1, hd.2⟩
      show flushTo d.dur d.ways d.ways.length = _
      rw [hw, V.waysA_length]
      rfl
  | m + 1, k, d, ho, hw, hk, hl, ha => by
    have hr : d.reach ((i + k : Nat) : Int) = 0 := DS.reach_calm ho (by omega)
    have hlen := E.sct_length st (V.piece_le v k)
    rw [DS.areaGo]
    by_cases h0 : d.armed = 0
    · have hE : d.writeE ((i + k : Nat) : Int) (E.sct st (V.piece v k)) = 12 := by unfold DS.writeE; rw [if_neg (by rw [hr]; simp), if_neg (by rw [hlen]; simp), if_pos h0]
      have hD : d.writeD ((i + k : Nat) : Int) (E.sct st (V.piece v k)) = { d with ways := d.ways ++ [(i + k, E.sct st (V.piece v k))], off := true } := by
        unfold DS.writeD; rw [if_neg (by rw [hr]; simp), if_neg (by rw [hlen]; simp), if_pos h0]; rfl
      left
      refine ⟨by omega, { d with ways := d.ways ++ [(i + k, E.sct st (V.piece v k))], off := true }, by rw [if_pos (by rw [hE]; decide), hE, hD], rfl, rfl, ?_, rfl, rfl, by simp⟩
      show d.ways ++ _ = _
      rw [hw, ← V.waysA_succ, h0]
      congr 1
      omega
    · have hE : d.writeE ((i + k : Nat) : Int) (E.sct st (V.piece v k)) = 0 := by unfold DS.writeE; rw [if_neg (by rw [hr]; simp), if_neg (by rw [hlen]; simp), if_neg h0]
      have hD : d.writeD ((i + k : Nat) : Int) (E.sct st (V.piece v k)) = { d with ways := d.ways ++ [(i + k, E.sct st (V.piece v k))], armed := dec d.armed, wr := d.wr + 1 } := by
        unfold DS.writeD; rw [if_neg (by rw [hr]; simp), if_neg (by rw [hlen]; simp), if_neg h0]; rfl
      rw [if_neg (by rw [hE]; simp), hD]
      have hd := dec_le ha
      have hds : dec d.armed = if 0 < d.armed then d.armed - 1 else d.armed := rfl
      rcases area_go m (k + 1) { d with ways := d.ways ++ [(i + k, E.sct st (V.piece v k))], armed := dec d.armed, wr := d.wr + 1 } ho (by show d.ways ++ _ = _; rw [hw, ← V.waysA_succ]) (by omega) (show i + (k + 1 + m) ≤ d.dur.length by omega) hd.1 with ⟨⟨b1, b2⟩, d2, e1, e2, e3, e4, e5, e6, e7⟩ | ⟨b, d2, e1, e2, e3, e4, e5, e6, e7, e8, e9⟩
      · have b1 : 0 ≤ dec d.armed := b1
        have b2 : dec d.armed ≤ m := b2
        left
        refine ⟨by split at hds <;> omega, d2, e1, e2, e3, ?_, e5, e6, ?_⟩
        · rw [e4]
          congr 1
          show min (k + 1 + (dec d.armed).toNat + 1) (k + 1 + m) = _
          split at hds <;> omega
        · have : d2.wr ≤ d.wr + 1 + m := e7
          omega
      · have b : ¬ (0 ≤ dec d.armed ∧ dec d.armed ≤ m) := b
        right
        have e9 : d2.armed ≤ dec d.armed := e9
        have e7 : d2.wr = d.wr + 1 + m := e7
        refine ⟨by split at hds <;> omega, d2, e1, e2, ?_, e4, e5, e6, by omega, e8, by omega⟩
        rw [e3, show k + 1 + m = k + (m + 1) by omega]
end Go.Proofs.YtcapifhmmkmboaaDoor
namespace Go.Proofs.YtcapifhmmkmboaaDoor
set_option maxRecDepth 100000

namespace V
theorem set_other {D : List (List UInt8)} {p q : Nat} (s : List UInt8) (h : p ≠ q) : (D.set p s).getD q [] = D.getD q [] := by simp [List.getD, h]
theorem set_same {D : List (List UInt8)} {p : Nat} (s : List UInt8) (h : p < D.length) : (D.set p s).getD p [] = s := by simp [List.getD, h]
theorem flush_in (D : List (List UInt8)) (i st : Nat) (v : List UInt8) (K : Nat) : ∀ k, k ≤ K → i + k ≤ D.length → ∀ j, j < k → (flushTo D (waysA i st v K) k).getD (i + j) [] = E.sct st (piece v j)
  | 0, _, _, j, hj => by omega
  | k + 1, hk, hD, j, hj => by
    rw [flushTo, waysA_get i st v (show k < K by omega)]
    by_cases h : j = k
    · subst h
      exact set_same _ (by rw [flushTo_length]; omega)
    · exact (set_other _ (show i + k ≠ i + j by omega)).trans (flush_in D i st v K k (by omega) (by omega) j (by omega))
theorem flush_out (D : List (List UInt8)) (i st : Nat) (v : List UInt8) (K : Nat) : ∀ k, k ≤ K → ∀ q, (q < i ∨ i + k ≤ q) → (flushTo D (waysA i st v K) k).getD q [] = D.getD q []
  | 0, _, _, _ => rfl
  | k + 1, hk, q, hq => by
    rw [flushTo, waysA_get i st v (show k < K by omega)]
    exact (set_other _ (show i + k ≠ q by omega)).trans (flush_out D i st v K k (by omega) q (by omega))
theorem crash_out (f : FT) (D : List (List UInt8)) (i st : Nat) (v : List UInt8) (K : Nat) : ∀ k, k ≤ K → ∀ q, (q < i ∨ i + k ≤ q) → (crashTo f D (waysA i st v K) k).getD q [] = D.getD q []
  | 0, _, _, _ => rfl
  | k + 1, hk, q, hq => by
    rw [crashTo, waysA_get i st v (show k < K by omega)]
    exact (set_other _ (show i + k ≠ q by omega)).trans (crash_out f D i st v K k (by omega) q (by omega))
theorem crash_in (f : FT) (D : List (List UInt8)) (i st : Nat) (v : List UInt8) (K : Nat) : ∀ k, k ≤ K → i + k ≤ D.length → ∀ j, j < k → (crashTo f D (waysA i st v K) k).getD (i + j) [] = E.tear (D.getD (i + j) []) (E.sct st (piece v j)) (f.done j)
  | 0, _, _, j, hj => by omega
  | k + 1, hk, hD, j, hj => by
    rw [crashTo, waysA_get i st v (show k < K by omega)]
    by_cases h : j = k
    · subst h
      refine (set_same _ (by rw [crashTo_length]; omega)).trans ?_
      rw [crash_out f D i st v K j (by omega) (i + j) (by omega)]
      rfl
    · exact (set_other _ (show i + k ≠ i + j by omega)).trans (crash_in f D i st v K k (by omega) (by omega) j (by omega))

/-- All stamps that stand at the ends of the place's sectors are at most o. -/
structure Below (D : List (List UInt8)) (i n o : Nat) : Prop where
  len : ∀ j, j < n → (D.getD (i + j) []).length = 256
  back : ∀ j, j < n → E.back (D.getD (i + j) []) ≤ o
/-- Behind a crash of the first j pieces of a value under the next stamp. -/
theorem Below.crash {D : List (List UInt8)} {i n o : Nat} (h : Below D i n o) (f : FT) (v : List UInt8) {j : Nat} (hj : j ≤ n) (hD : i + n ≤ D.length) (ho : o + 1 < 2 ^ 64) :
    Below (crashTo f D (waysA i (o + 1) v j) j) i n (o + 1) ∧ ∀ k p, k < n → E.openS (o + 1) ((crashTo f D (waysA i (o + 1) v j) j).getD (i + k) []) = some p → p = piece v k := by
  have hk : ∀ k, k < n → ((crashTo f D (waysA i (o + 1) v j) j).getD (i + k) []).length = 256 ∧ E.back ((crashTo f D (waysA i (o + 1) v j) j).getD (i + k) []) ≤ o + 1 ∧ ∀ p, E.openS (o + 1) ((crashTo f D (waysA i (o + 1) v j) j).getD (i + k) []) = some p → p = piece v k := by
    intro k hk
    have hlen := h.len k hk
    have hb := h.back k hk
    by_cases hkj : k < j
    · rw [crash_in f D i (o + 1) v j j (Nat.le_refl _) (by omega) k hkj]
      have hs := E.sct_length (o + 1) (piece_le v k)
      obtain ⟨t1, t2, t3⟩ := E.next_tear hlen hs hb (E.sct_back ho (piece_le v k)) (by omega) (f.done_le k)
      refine ⟨E.tear_length hlen hs (f.done_le k), t1, fun p hp => ?_⟩
      have hc : E.counts (o + 1) (E.tear (D.getD (i + k) []) (E.sct (o + 1) (piece v k)) (f.done k)) = true := by unfold E.counts; rw [hp]; rfl
      rw [t3 ho hc, E.open_sct (by omega) (piece_le v k)] at hp
      exact (Option.some.inj hp).symm
    · rw [crash_out f D i (o + 1) v j j (Nat.le_refl _) (i + k) (by omega)]
      refine ⟨hlen, by omega, fun p hp => ?_⟩
      exfalso
      have hc : E.counts (o + 1) (D.getD (i + k) []) = true := by unfold E.counts; rw [hp]; rfl
      have := (E.counts_ends ho hc).2.2
      omega
  exact ⟨⟨fun k h => (hk k h).1, fun k h => (hk k h).2.1⟩, fun k p h => (hk k h).2.2 p⟩
/-- Behind a flush of all pieces of a value under the next stamp. -/
theorem Below.flush {D : List (List UInt8)} {i n o : Nat} (h : Below D i n o) (v : List UInt8) {K : Nat} (hK : K ≤ n) (hD : i + n ≤ D.length) (ho : o + 1 < 2 ^ 64) :
    Below (flushTo D (waysA i (o + 1) v K) K) i n (o + 1) ∧ ∀ k, k < K → (flushTo D (waysA i (o + 1) v K) K).getD (i + k) [] = E.sct (o + 1) (piece v k) := by
  have hin := flush_in D i (o + 1) v K K (Nat.le_refl _) (by omega)
  refine ⟨⟨fun k hk => ?_, fun k hk => ?_⟩, fun k hk => hin k hk⟩
  · by_cases hkj : k < K
    · rw [hin k hkj]; exact E.sct_length _ (piece_le v k)
    · rw [flush_out D i (o + 1) v K K (Nat.le_refl _) (i + k) (by omega)]; exact h.len k hk
  · by_cases hkj : k < K
    · rw [hin k hkj, E.sct_back ho (piece_le v k)]; omega
    · rw [flush_out D i (o + 1) v K K (Nat.le_refl _) (i + k) (by omega)]; have := h.back k hk; omega
end V
end Go.Proofs.YtcapifhmmkmboaaDoor
