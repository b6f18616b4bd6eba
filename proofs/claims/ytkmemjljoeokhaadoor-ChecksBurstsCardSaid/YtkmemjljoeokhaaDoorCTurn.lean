/-
  Bytes turned at a place: plain; and a row of bytes made of a text, in memory.
-/
import Derived.Test.YtkmemjljoeokhaaDoorCSpec
import Derived.Test.YtkmemjljoeokhaaDoorQt
import Derived.Lib.ConvBytes
import Derived.Laws.BytesArg
import Derived.Laws.Rows
namespace Go.Proofs.YtkmemjljoeokhaaDoor
open Go.RowKit
set_option maxRecDepth 100000

namespace C
/-- Byte number k of x. -/
def byteAt (x k : Nat) : Nat := x / 256 ^ k % 256
theorem byteAt_lt (x k : Nat) : byteAt x k < 256 := Nat.mod_lt _ (by decide)
/-- s with k bytes from a on turned by those of x. -/
def turn (s : List UInt8) (a x k : Nat) : List UInt8 := s.mapIdx fun i c => if a ≤ i ∧ i < a + k then (c.toNat ^^^ byteAt x (i - a)).toUInt8 else c
theorem turn_length (s : List UInt8) (a x k : Nat) : (turn s a x k).length = s.length := by simp [turn]
theorem turn_zero (s : List UInt8) (a x : Nat) : turn s a x 0 = s := by
  apply List.ext_getElem (by simp [turn])
  intro i h1 h2
  simp [turn]
  intro h3 h4
  omega
theorem turn_at {s : List UInt8} {a x k i : Nat} (hi : i < s.length) : (turn s a x k)[i]'(by rw [turn_length]; exact hi) = if a ≤ i ∧ i < a + k then (s[i].toNat ^^^ byteAt x (i - a)).toUInt8 else s[i] := by simp [turn]
theorem turn_next {s : List UInt8} {a x k : Nat} (h : a + k < s.length) : (turn s a x k)[a + k]'(by rw [turn_length]; exact h) = s[a + k] := by rw [turn_at h, if_neg (by omega)]
theorem turn_step {s : List UInt8} {a x k : Nat} (h : a + k < s.length) : (turn s a x k).set (a + k) (s[a + k].toNat ^^^ byteAt x k).toUInt8 = turn s a x (k + 1) := by
  apply List.ext_getElem (by simp [turn])
  intro i h1 h2
  have hi : i < s.length := by rw [turn_length] at h2; exact h2
  rw [turn_at hi, List.getElem_set]
  split
  · rename_i e
    subst e
    rw [if_pos (by omega), show a + k - a = k by omega]
  · rename_i e
    rw [turn_at hi]
    by_cases hc : a ≤ i ∧ i < a + k
    · rw [if_pos hc, if_pos (by omega)]
    · rw [if_neg hc, if_neg (by omega)]
/-- Is one of the first k bytes of x not 0? -/
def unlike (x k : Nat) : Bool := (List.range k).any fun i => byteAt x i != 0
theorem unlike_step (x k : Nat) : unlike x (k + 1) = (unlike x k || byteAt x k != 0) := by
  unfold unlike; rw [List.range_succ, List.any_append]; simp
theorem u8_val {n : Nat} (h : n < 256) : n.toUInt8.toNat = n := by
  rw [Nat.toUInt8, UInt8.toNat_ofNat']; exact Nat.mod_eq_of_lt h
theorem turn_zip (s : List UInt8) (a x k : Nat) (h : a + k ≤ s.length) : List.zipWith (fun c d : UInt8 => c.toNat ^^^ d.toNat) s (turn s a x k) = List.replicate a 0 ++ ((List.range k).map (byteAt x) ++ List.replicate (s.length - (a + k)) 0) := by
  apply List.ext_getElem
  · simp [turn]; omega
  · intro i h1 h2
    have hi : i < s.length := by simp [turn] at h1; exact h1
    rw [List.getElem_zipWith, turn_at hi]
    by_cases h3 : i < a
    · rw [if_neg (by omega), Nat.xor_self, List.getElem_append_left (by simpa using h3)]
      simp
    · rw [List.getElem_append_right (by simpa using h3)]
      by_cases h4 : i < a + k
      · rw [if_pos (by omega), List.getElem_append_left (by simp; omega), u8_val (Nat.xor_lt_two_pow (n := 8) s[i].toNat_lt (byteAt_lt _ _))]
        simp only [List.getElem_map, List.getElem_range, List.length_replicate]
        rw [← Nat.xor_assoc, Nat.xor_self, Nat.zero_xor]
      · rw [if_neg (by omega), Nat.xor_self, List.getElem_append_right (by simp; omega)]
        simp
/-- BURSTS: the sum turns just where a byte has turned. -/
theorem turn_sum {s : List UInt8} {a x k : Nat} (hk : k ≤ 4) (h : a + k ≤ s.length) : unlike x k = decide (sum s ≠ sum (turn s a x k)) := by
  have h1 := sum_dif s (turn s a x k) (turn_length s a x k).symm
  rw [turn_zip s a x k h, ← List.append_assoc] at h1
  have h2 := dif_burst a (s.length - (a + k)) ((List.range k).map (byteAt x)) (by simpa using hk) (fun b hb => by
    obtain ⟨i, _, rfl⟩ := List.mem_map.1 hb
    exact byteAt_lt x i)
  rw [h2] at h1
  rw [Bool.eq_iff_iff, decide_eq_true_eq, ne_eq, h1]
  unfold unlike
  simp only [List.any_eq_true, List.mem_range, bne_iff_ne, List.mem_map, forall_exists_index, and_imp, forall_apply_eq_imp_iff₂]
  constructor
  · rintro ⟨i, hi, hne⟩ hall; exact hne (hall i hi)
  · intro hn
    apply Classical.byContradiction
    intro hno
    exact hn (fun i hi => Classical.byContradiction fun hne => hno ⟨i, hi, hne⟩)
end C

/-- Block g holds the bytes of l at its head; the mark of a conversion stands behind its cells. -/
def TurnRow (w : World) (g : Nat) (l : List UInt8) : Prop := ∃ cs : Array Value, w.heap[g]? = some (.cells cs 5 (cs.size, cs.size + 1)) ∧ l.length ≤ cs.size ∧ ∀ j (h : j < l.length), cs[j]? = some (.int .u8 (l[j].toNat : Int))
theorem TurnRow.cell {w : World} {g : Nat} {l : List UInt8} (h : TurnRow w g l) {j : Nat} (hj : j < l.length) : w.cell? ⟨g, j, none⟩ = some (.int .u8 (l[j].toNat : Int)) := by
  obtain ⟨cs, h1, h2, h3⟩ := h
  rw [cell_of_row w g j cs _ _ h1]
  exact h3 j hj
theorem TurnRow.frozen {w : World} {g : Nat} {l : List UInt8} (h : TurnRow w g l) {j : Nat} (hj : j < l.length) : w.frozen? ⟨g, j, none⟩ = false := by
  obtain ⟨cs, h1, h2, h3⟩ := h
  simp [World.frozen?, h1]
  omega
theorem TurnRow.lt {w : World} {g : Nat} {l : List UInt8} (h : TurnRow w g l) : g < w.heap.size := by
  obtain ⟨cs, h1, _⟩ := h
  exact lt_of_block h1
theorem TurnRow.store {w : World} {g : Nat} {l : List UInt8} (h : TurnRow w g l) (j : Nat) (b : UInt8) : TurnRow (w.setCell ⟨g, j, none⟩ (.int .u8 (b.toNat : Int))) g (l.set j b) := by
  obtain ⟨cs, h1, h2, h3⟩ := h
  refine ⟨cs.setIfInBounds j (.int .u8 (b.toNat : Int)), ?_, by simpa using h2, fun i hi => ?_⟩
  · have e : (cs.setIfInBounds j (.int .u8 (b.toNat : Int))).size = cs.size := by simp
    rw [e, setCell_eq_setRow w g j cs _ _ _ h1]
    exact setRow_heap w g _ _ _ _ h1
  · have hi' : i < l.length := by simpa using hi
    rw [List.getElem_set, Array.getElem?_setIfInBounds]
    by_cases e : j = i
    · subst e
      rw [if_pos rfl, if_pos (by omega), if_pos rfl]
    · rw [if_neg e, if_neg e]
      exact h3 i hi'
theorem TurnRow.made (w : World) (s : ByteArray) : TurnRow (Lib.bytesWorld w 5 s) w.heap.size s.data.toList := by
  refine ⟨_, Lib.bytesWorld_at_new w _ s, ?_, fun j hj => ?_⟩
  · unfold Lib.bytesCells
    simp
  · have hj' : j < s.data.size := by simpa using hj
    unfold Lib.bytesCells
    rw [Array.getElem?_append_left (by simpa using hj'), Array.getElem?_map, Array.getElem?_eq_getElem hj']
    rfl
theorem bytesWorld_keeps (w : World) (e : TypeId) (s : ByteArray) : Qt w (Lib.bytesWorld w e s) := by
  refine ⟨?_, ?_, ?_, by rw [Lib.bytesWorld_size]; omega, fun k hk _ => Lib.bytesWorld_at_old w e s k hk⟩
  · unfold Lib.bytesWorld World.freeze; split <;> rfl
  · unfold Lib.bytesWorld World.freeze; split <;> rfl
  · unfold Lib.bytesWorld World.freeze; split <;> rfl
/-- 'string(t)'. -/
theorem TurnRow.conv {w : World} {g : Nat} {l : List UInt8} (h : TurnRow w g l) (n c : Nat) (hn : n = l.length) : (convert 28 9 (.slice (some ⟨g, 0, none⟩) n c)).run Tryd.prog w = .ok (.string ⟨l.toArray⟩) w := by
  subst hn
  have h1 := run_convert_bytes_arg (P := Tryd.prog) w 28 5 Tryd.underlying28 Tryd.underlying5 g 0 l.length c (l.map fun b => ((b.toNat : Nat) : Int)) (by simp) (fun i hi => by
    have hi' : i < l.length := by simpa using hi
    rw [Nat.zero_add, h.cell hi']
    simp [List.getD, hi']) 9 Tryd.underlying9
  rw [h1]
  congr 3
  unfold strOfNums
  congr 1
  rw [List.map_map]
  conv => rhs; rw [← List.map_id l]
  congr 1
  apply List.map_congr_left
  intro b _
  simp
end Go.Proofs.YtkmemjljoeokhaaDoor
