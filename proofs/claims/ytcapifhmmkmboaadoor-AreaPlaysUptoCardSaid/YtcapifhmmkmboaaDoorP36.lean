/-
  Bytes turned at a place: plain; and a row of bytes made of a text, in memory.
  Both disks side by side, apart from several blocks: crashes.
  The contract of remitlaw09.step: a byte turned.
-/
import Derived.Test.YtcapifhmmkmboaaDoorP16
import Derived.Test.YtcapifhmmkmboaaDoorP03
import Derived.Lib.ConvBytes
import Derived.Laws.BytesArg
import Derived.Laws.Rows
import Derived.Test.YtcapifhmmkmboaaDoorP15
import Derived.Test.YtcapifhmmkmboaaDoorP35
import Derived.StillTailTactics
import Derived.Laws.BitsAllLaws
namespace Go.Proofs.YtcapifhmmkmboaaDoor
open Go.RowKit
set_option maxRecDepth 100000

namespace C
/-- Byte number k of x. -/
def byteAt (x k : Nat) : Nat := x / 256 ^ k % 256
theorem byteAt_lt (x k : Nat) : byteAt x k < 256 := Nat.mod_lt _ (by decide)
/-- s with k bytes from a on turned by those of x. -/
def turn (s : List UInt8) (a x k : Nat) : List UInt8 := s.mapIdx fun i c => if a ≤ i ∧ i < a + k then (c.toNat ^^^ byteAt x (i - a)).toUInt8 else c
theorem turn_length (s : List UInt8) (a x k : Nat) : (turn s a x k).length = s.length := by simp [turn]
theorem turn_zero (s : List UInt8) (a x : Nat) : turn s a x 0 = s := by
  apply List.ext_getElem (by simp [turn])
  intro i h1 h2
  simp [turn]
  intro h3 h4
  omega
theorem turn_at {s : List UInt8} {a x k i : Nat} (hi : i < s.length) : (turn s a x k)[i]'(by rw [turn_length]; exact hi) = if a ≤ i ∧ i < a + k then (s[i].toNat ^^^ byteAt x (i - a)).toUInt8 else s[i] := by simp [turn]
theorem turn_next {s : List UInt8} {a x k : Nat} (h : a + k < s.length) : (turn s a x k)[a + k]'(by rw [turn_length]; exact h) = s[a + k] := by rw [turn_at h, if_neg (by omega)]
theorem turn_step {s : List UInt8} {a x k : Nat} (h : a + k < s.length) : (turn s a x k).set (a + k) (s[a + k].toNat ^^^ byteAt x k).toUInt8 = turn s a x (k + 1) := by
  apply List.ext_getElem (by simp [turn])
  intro i h1 h2
  have hi : i < s.length := by rw [turn_length] at h2; exact h2
  rw [turn_at hi, List.getElem_set]
  split
  · rename_i e
    subst e
    rw [if_pos (by omega), show a + k - a = k by omega]
  · rename_i e
    rw [turn_at hi]
    by_cases hc : a ≤ i ∧ i < a + k
    · rw [if_pos hc, if_pos (by omega)]
    · rw [if_neg hc, if_neg (by omega)]
/-- Is one of the first k bytes of x not 0? -/
def unlike (x k : Nat) : Bool := (List.range k).any fun i => byteAt x i != 0
theorem unlike_step (x k : Nat) : unlike x (k + 1) = (unlike x k || byteAt x k != 0) := by
  unfold unlike; rw [List.range_succ, List.any_append]; simp
theorem u8_val {n : Nat} (h : n < 256) : n.toUInt8.toNat = n := by
  rw [Nat.toUInt8, UInt8.toNat_ofNat']; exact Nat.mod_eq_of_lt h
theorem turn_zip (s : List UInt8) (a x k : Nat) (h : a + k ≤ s.length) : List.zipWith (fun c d : UInt8 => c.toNat ^^^ d.toNat) s (turn s a x k) = List.replicate a 0 ++ ((List.range k).map (byteAt x) ++ List.replicate (s.length - (a + k)) 0) := by
  apply List.ext_getElem
  · simp [turn]; omega
  · intro i h1 h2
    have hi : i < s.length := by simp [turn] at h1; exact h1
    rw [List.getElem_zipWith, turn_at hi]
    by_cases h3 : i < a
    · rw [if_neg (by omega), Nat.xor_self, List.getElem_append_left (by simpa using h3)]
      simp
    · rw [List.getElem_append_right (by simpa using h3)]
      by_cases h4 : i < a + k
      · rw [if_pos (by omega), List.getElem_append_left (by simp; omega), u8_val (Nat.xor_lt_two_pow (n := 8) s[i].toNat_lt (byteAt_lt _ _))]
        simp only [List.getElem_map, List.getElem_range, List.length_replicate]
        rw [← Nat.xor_assoc, Nat.xor_self, Nat.zero_xor]
      · rw [if_neg (by omega), Nat.xor_self, List.getElem_append_right (by simp; omega)]
        simp
/-- BURSTS: the sum turns just where a byte has turned. -/
theorem turn_sum {s : List UInt8} {a x k : Nat} (hk : k ≤ 4) (h : a + k ≤ s.length) : unlike x k = decide (sum s ≠ sum (turn s a x k)) := by
  have h1 := sum_dif s (turn s a x k) (turn_length s a x k).symm
  rw [turn_zip s a x k h, ← List.append_assoc] at h1
  have h2 := dif_burst a (s.length - (a + k)) ((List.range k).map (byteAt x)) (by simpa using hk) (fun b hb => by
    obtain ⟨i, _, rfl⟩ := List.mem_map.1 hb
    exact byteAt_lt x i)
  rw [h2] at h1
  rw [Bool.eq_iff_iff, decide_eq_true_eq, ne_eq, h1]
  unfold unlike
  simp only [List.any_eq_true, List.mem_range, bne_iff_ne, List.mem_map, forall_exists_index, and_imp, forall_apply_eq_imp_iff₂]
  constructor
  · rintro ⟨i, hi, hne⟩ hall; exact hne (hall i hi)
  · intro hn
    apply Classical.byContradiction
    intro hno
    exact hn (fun i hi => Classical.byContradiction fun hne => hno ⟨i, hi, hne⟩)
end C

/-- Block g holds the bytes of l at its head; the mark of a conversion stands behind its cells. -/
def TurnRow (w : World) (g : Nat) (l : List UInt8) : Prop := ∃ cs : Array Value, w.heap[g]? = some (.cells cs 5 (cs.size, cs.size + 1)) ∧ l.length ≤ cs.size ∧ ∀ j (h : j < l.length), cs[j]? = some (.int .u8 (l[j].toNat : Int))
theorem TurnRow.cell {w : World} {g : Nat} {l : List UInt8} (h : TurnRow w g l) {j : Nat} (hj : j < l.length) : w.cell? ⟨g, j, none⟩ = some (.int .u8 (l[j].toNat : Int)) := by
  obtain ⟨cs, h1, h2, h3⟩ := h
  rw [cell_of_row w g j cs _ _ h1]
  exact h3 j hj
theorem TurnRow.frozen {w : World} {g : Nat} {l : List UInt8} (h : TurnRow w g l) {j : Nat} (hj : j < l.length) : w.frozen? ⟨g, j, none⟩ = false := by
  obtain ⟨cs, h1, h2, h3⟩ := h
  simp [World.frozen?, h1]
  omega
theorem TurnRow.lt {w : World} {g : Nat} {l : List UInt8} (h : TurnRow w g l) : g < w.heap.size := by
  obtain ⟨cs, h1, _⟩ := h
  exact lt_of_block h1
theorem TurnRow.store {w : World} {g : Nat} {l : List UInt8} (h : TurnRow w g l) (j : Nat) (b : UInt8) : TurnRow (w.setCell ⟨g, j, none⟩ (.int .u8 (b.toNat : Int))) g (l.set j b) := by
  obtain ⟨cs, h1, h2, h3⟩ := h
  refine ⟨cs.setIfInBounds j (.int .u8 (b.toNat : Int)), ?_, by simpa using h2, fun i hi => ?_⟩
  · have e : (cs.setIfInBounds j (.int .u8 (b.toNat : Int))).size = cs.size := by simp
    rw [e, setCell_eq_setRow w g j cs _ _ _ h1]
    exact setRow_heap w g _ _ _ _ h1
  · have hi' : i < l.length := by simpa using hi
    rw [List.getElem_set, Array.getElem?_setIfInBounds]
    by_cases e : j = i
    · subst e
      rw [if_pos rfl, if_pos (by omega), if_pos rfl]
    · rw [if_neg e, if_neg e]
      exact h3 i hi'
theorem TurnRow.made (w : World) (s : ByteArray) : TurnRow (Lib.bytesWorld w 5 s) w.heap.size s.data.toList := by
  refine ⟨_, Lib.bytesWorld_at_new w _ s, ?_, fun j hj => ?_⟩
  · unfold Lib.bytesCells
    simp
  · have hj' : j < s.data.size := by simpa using hj
    unfold Lib.bytesCells
    rw [Array.getElem?_append_left (by simpa using hj'), Array.getElem?_map, Array.getElem?_eq_getElem hj']
    rfl
theorem bytesWorld_keeps (w : World) (e : TypeId) (s : ByteArray) : Qt w (Lib.bytesWorld w e s) := by
  refine ⟨?_, ?_, ?_, by rw [Lib.bytesWorld_size]; omega, fun k hk _ => Lib.bytesWorld_at_old w e s k hk⟩
  · unfold Lib.bytesWorld World.freeze; split <;> rfl
  · unfold Lib.bytesWorld World.freeze; split <;> rfl
  · unfold Lib.bytesWorld World.freeze; split <;> rfl
/-- 'string(t)'. -/
theorem TurnRow.conv {w : World} {g : Nat} {l : List UInt8} (h : TurnRow w g l) (n c : Nat) (hn : n = l.length) : (convert 70 9 (.slice (some ⟨g, 0, none⟩) n c)).run Tryd.prog w = .ok (.string ⟨l.toArray⟩) w := by
  subst hn
  have h1 := run_convert_bytes_arg (P := Tryd.prog) w 70 5 Tryd.underlying70 Tryd.underlying5 g 0 l.length c (l.map fun b => ((b.toNat : Nat) : Int)) (by simp) (fun i hi => by
    have hi' : i < l.length := by simpa using hi
    rw [Nat.zero_add, h.cell hi']
    simp [List.getD, hi']) 9 Tryd.underlying9
  rw [h1]
  congr 3
  unfold strOfNums
  congr 1
  rw [List.map_map]
  conv => rhs; rw [← List.map_id l]
  congr 1
  apply List.map_congr_left
  intro b _
  simp
end Go.Proofs.YtcapifhmmkmboaaDoor
namespace Go.Proofs.YtcapifhmmkmboaaDoor
open Go.RowKit Go.WideShapes
set_option maxRecDepth 100000

def PairJ (J : Nat → Prop) (w0 W : World) (b c : Nat) (d u : DS) : Prop :=
  ∃ S T : Nat → Prop, DiskAt W b d S ∧ RefAt W c u T ∧ (∀ k, S k → T k → False) ∧ (∀ k, S k → w0.heap.size ≤ k ∧ k < W.heap.size ∧ ¬ J k) ∧ (∀ k, T k → w0.heap.size ≤ k ∧ k < W.heap.size ∧ ¬ J k) ∧ Since w0.heap.size w0 W
section
variable {w0 w : World} {J : Nat → Prop} {b c : Nat} {d u : DS}

theorem PairJ.of {j : Nat} {W : World} (h : Pair j w0 w b c d u) (q : Qt w W) (hJ : ∀ k, J k → k = j ∨ w.heap.size ≤ k) : PairJ J w0 W b c d u := by
  obtain ⟨S, T, h1, h2, h3, h4, h5, h6⟩ := h
  have hz := q.size
  refine ⟨S, T, h1.qt q, h2.qt q, h3, fun k e => ⟨(h4 k e).1, by have := (h4 k e).2.1; omega, fun m => ?_⟩, fun k e => ⟨(h5 k e).1, by have := (h5 k e).2.1; omega, fun m => ?_⟩, h6.step q (fun _ e => e.elim)⟩
  · rcases hJ k m with r | r
    · exact (h4 k e).2.2 r
    · have := (h4 k e).2.1; omega
  · rcases hJ k m with r | r
    · exact (h5 k e).2.2 r
    · have := (h5 k e).2.1; omega
theorem PairJ.pair {j : Nat} (h : PairJ J w0 w b c d u) (hj : J j) : Pair j w0 w b c d u := by
  obtain ⟨S, T, h1, h2, h3, h4, h5, h6⟩ := h
  exact ⟨S, T, h1, h2, h3, fun k e => ⟨(h4 k e).1, (h4 k e).2.1, fun r => (h4 k e).2.2 (r ▸ hj)⟩, fun k e => ⟨(h5 k e).1, (h5 k e).2.1, fun r => (h5 k e).2.2 (r ▸ hj)⟩, h6⟩
theorem PairJ.since (h : PairJ J w0 w b c d u) : Since w0.heap.size w0 w := by obtain ⟨S, T, h1, h2, h3, h4, h5, h6⟩ := h; exact h6

theorem pairJ_crash (hJ : ∀ k, J k → k < w.heap.size) (h : PairJ J w0 w b c d u) (hf : d.Few) (v : Value) (f : FT) (hv : Bools w v f.kept) (hb : ∀ a n cc, v = .slice (some a) n cc → n ≠ 0 → J a.block ∨ a.block < w0.heap.size) : Calls Tryd.prog 23 #[.pointer (some ⟨b, 0, none⟩), fateV v f] w fun e w' => e = .returned (.tuple #[]) ∧ PairJ J w0 w' b c (d.crashD f) u ∧ Keeps (fun k => w0.heap.size ≤ k ∧ ¬ J k) w w' := by
  obtain ⟨S, T, h1, h2, h3, h4, h5, h6⟩ := h
  refine (crash_any w b d _ h1 hf v f hv (fun a n cc e n0 m => by
    rcases hb a n cc e n0 with r | r
    · exact (h4 _ m).2.2 r
    · have := (h4 _ m).1; omega)).mono ?_
  rintro e w' ⟨he, hD, K⟩
  have hz := K.size
  have hw := h6.size
  refine ⟨he, ⟨_, T, hD, h2.kept K (fun k e q => h3 k q e), ?_, ?_, fun k e => ⟨(h5 k e).1, by have := (h5 k e).2.1; omega, (h5 k e).2.2⟩, h6.step K (fun k e => (h4 k e).1)⟩, K.mono (fun k _ e => ⟨(h4 k e).1, (h4 k e).2.2⟩)⟩
  · rintro k (e | e) q
    · exact h3 k e q
    · have := (h5 k q).2.1; omega
  · rintro k (e | e)
    · exact ⟨(h4 k e).1, by have := (h4 k e).2.1; omega, (h4 k e).2.2⟩
    · exact ⟨by omega, e.2, fun m => by have := hJ k m; omega⟩

theorem pairJR_crash (hJ : ∀ k, J k → k < w.heap.size) (h : PairJ J w0 w b c d u) (hf : u.Few) (v : Value) (f : FT) (hv : Bools w v f.kept) (hb : ∀ a n cc, v = .slice (some a) n cc → n ≠ 0 → J a.block ∨ a.block < w0.heap.size) : Calls Tryd.prog 31 #[.pointer (some ⟨c, 0, none⟩), fateV v f] w fun e w' => e = .returned (.tuple #[]) ∧ PairJ J w0 w' b c d (u.crashD f) ∧ Keeps (fun k => w0.heap.size ≤ k ∧ ¬ J k) w w' := by
  obtain ⟨S, T, h1, ⟨sv, wv, P, hT⟩, h3, h4, h5, h6⟩ := h
  refine (ref_crash P hf v f hv (fun a n cc e n0 m => by
    rcases hb a n cc e n0 with r | r
    · exact (h5 _ (hT _ m)).2.2 r
    · have := (h5 _ (hT _ m)).1; omega)).mono ?_
  rintro e w' ⟨he, P', K0⟩
  have K : Keeps T w w' := K0.mono (fun k _ e => hT k e)
  have hR : RefAt w' c (u.crashD f) (Grow T w w') := grow_ref hT P' (.inr (fun k e => by cases e))
  have hz := K.size
  have hw := h6.size
  refine ⟨he, ⟨S, _, h1.kept K (fun k e q => h3 k e q), hR, ?_, fun k e => ⟨(h4 k e).1, by have := (h4 k e).2.1; omega, (h4 k e).2.2⟩, ?_, h6.step K (fun k e => (h5 k e).1)⟩, K.mono (fun k _ e => ⟨(h5 k e).1, (h5 k e).2.2⟩)⟩
  · rintro k q (e | e)
    · exact h3 k q e
    · have := (h4 k q).2.1; omega
  · rintro k (e | e)
    · exact ⟨(h5 k e).1, by have := (h5 k e).2.1; omega, (h5 k e).2.2⟩
    · exact ⟨by omega, e.2, fun m => by have := hJ k m; omega⟩
end
end Go.Proofs.YtcapifhmmkmboaaDoor
namespace Go.Proofs.YtcapifhmmkmboaaDoor
open Go.RowKit Go.WideShapes
set_option maxRecDepth 100000

theorem readTo_256 {D : List (List UInt8)} {ws : List (Nat × List UInt8)} {p : Nat} (hD : ∀ (i : Nat) (s : List UInt8), D[i]? = some s → s.length = 256) (hw : ∀ (k : Nat) (w : Nat × List UInt8), ws[k]? = some w → w.2.length = 256) (hp : p < D.length) : ∀ k, (readTo D ws p k).length = 256
  | 0 => getD_length hD hp
  | k + 1 => by
    unfold readTo
    split
    · rename_i w he
      split
      · exact hw k w he
      · exact readTo_256 hD hw hp k
    · exact readTo_256 hD hw hp k
theorem readE_256 {d : DS} (h : d.Ok) {i : Int} (hr : d.reach i = 0) : (d.readE i).length = 256 := by
  unfold DS.readE
  rw [if_pos hr]
  have hp : i.toNat < d.dur.length := by
    unfold DS.reach at hr
    split at hr
    · cases hr
    · split at hr
      · cases hr
      · omega
  exact readTo_256 h.each (fun k w he => (h.way k w he).2) hp _
theorem byte_xor (a b : Int) : ∃ x : UInt8, bits .xor .u8 a b = ((x.toNat : Nat) : Int) := by
  refine ⟨(BitVec.ofInt 8 a ^^^ BitVec.ofInt 8 b).toNat.toUInt8, ?_⟩
  show IntKind.u8.wrap ((BitVec.ofInt 8 a ^^^ BitVec.ofInt 8 b).toNat : Int) = _
  have h : (BitVec.ofInt 8 a ^^^ BitVec.ofInt 8 b).toNat < 256 := BitVec.isLt _
  rw [IntKind.wrap_u8', Nat.toUInt8, UInt8.toNat_ofNat', Nat.mod_eq_of_lt h]
  omega
theorem TurnRow.qt {w w' : World} {g : Nat} {l : List UInt8} (h : TurnRow w g l) (k : Qt w w') : TurnRow w' g l := by
  obtain ⟨cs, h1, h2⟩ := h
  exact ⟨cs, (k.block g (lt_of_block h1) (fun e => e)).trans h1, h2⟩
theorem TurnRow.kept {S : Nat → Prop} {w w' : World} {g : Nat} {l : List UInt8} (h : TurnRow w g l) (k : Keeps S w w') (hg : ¬ S g) : TurnRow w' g l := by
  obtain ⟨cs, h1, h2⟩ := h
  exact ⟨cs, (k.block g (lt_of_block h1) hg).trans h1, h2⟩
section
variable {ad : Nat → Addr} {w0 w : World} {j b c f : Nat} {d u : DS}
theorem pairJ_write {J : Nat → Prop} (hE : Errs ad w0) (hJ : ∀ k, J k → k < w.heap.size) (h : PairJ J w0 w b c d u) (hf : d.Few) (i : Int) (s : ByteArray) : Calls Tryd.prog 25 #[.pointer (some ⟨b, 0, none⟩), .int .i64 i, .string s] w fun e w' => e = .returned (errV ad (d.writeE i (strL s))) ∧ PairJ J w0 w' b c (d.writeD i (strL s)) u ∧ Keeps (fun k => ¬ J k) w w' := by
  obtain ⟨S, T, h1, h2, h3, h4, h5, h6⟩ := h
  refine (write_any ad (errs_since hE h6) (OffErrs.mono (off_since hE) (fun k e => (h4 k e).1)) h1 hf i s).mono ?_
  rintro e w' ⟨he, hD, K⟩
  have hz := K.size
  have hw := h6.size
  refine ⟨he, ⟨_, T, hD, h2.kept K (fun k e q => h3 k q e), ?_, ?_, fun k e => ⟨(h5 k e).1, by have := (h5 k e).2.1; omega, (h5 k e).2.2⟩, h6.step K (fun k e => (h4 k e).1)⟩, K.mono (fun k _ e => (h4 k e).2.2)⟩
  · rintro k (e | e) q
    · exact h3 k e q
    · have := (h5 k q).2.1; omega
  · rintro k (e | e)
    · exact ⟨(h4 k e).1, by have := (h4 k e).2.1; omega, (h4 k e).2.2⟩
    · exact ⟨by omega, e.2, fun m => by have := hJ k m; omega⟩
theorem PairJ.qt' {J : Nat → Prop} {w' : World} (h : PairJ J w0 w b c d u) (q : Qt w w') : PairJ J w0 w' b c d u := by
  obtain ⟨S, T, h1, h2, h3, h4, h5, h6⟩ := h
  have hz := q.size
  exact ⟨S, T, h1.qt q, h2.qt q, h3, fun k e => ⟨(h4 k e).1, by have := (h4 k e).2.1; omega, (h4 k e).2.2⟩, fun k e => ⟨(h5 k e).1, by have := (h5 k e).2.1; omega, (h5 k e).2.2⟩, h6.step q (fun _ e => e.elim)⟩
theorem pairJR_write {J : Nat → Prop} (hJ : ∀ k, J k → k < w.heap.size) (h : PairJ J w0 w b c d u) (hf : u.Few) (i : Int) (s : ByteArray) : Calls Tryd.prog 33 #[.pointer (some ⟨c, 0, none⟩), .int .i64 i, .string s] w fun e w' => e = .returned (.int .i64 (u.writeE i (strL s))) ∧ PairJ J w0 w' b c d (u.writeD i (strL s)) ∧ Keeps (fun k => ¬ J k) w w' := by
  obtain ⟨S, T, h1, ⟨sv, wv, P, hT⟩, h3, h4, h5, h6⟩ := h
  refine (ref_write P hf i s).mono ?_
  rintro e w' ⟨he, wv', P', K0, hw0⟩
  have K : Keeps T w w' := K0.mono (fun k _ e => hT k e)
  have hR := grow_ref hT P' hw0
  have hz := K.size
  have hw := h6.size
  refine ⟨he, ⟨S, _, h1.kept K (fun k e q => h3 k e q), hR, ?_, fun k e => ⟨(h4 k e).1, by have := (h4 k e).2.1; omega, (h4 k e).2.2⟩, ?_, h6.step K (fun k e => (h5 k e).1)⟩, K.mono (fun k _ e => (h5 k e).2.2)⟩
  · rintro k q (e | e)
    · exact h3 k q e
    · have := (h4 k q).2.1; omega
  · rintro k (e | e)
    · exact ⟨(h5 k e).1, by have := (h5 k e).2.1; omega, (h5 k e).2.2⟩
    · exact ⟨by omega, e.2, fun m => by have := hJ k m; omega⟩
theorem writeE_37 (d : DS) (i : Int) (s : List UInt8) : d.writeE i s ≤ 37 := by
  have h : d.reach i ≤ 37 := by
    unfold DS.reach
    repeat' split
    all_goals omega
  unfold DS.writeE
  repeat' split
  all_goals omega

set_option maxHeartbeats 3200000 in
theorem step9_turn (hE : Errs ad w0) (h : Pair j w0 w b c d d) (hf : d.FewN f) (hf2 : f ≤ 1073000000) (i n : Int) (st : Nat) (bytes seed : Int) (kv : Value) (ft : FT) :
    Calls Tryd.prog 14 #[.pointer (some ⟨b, 0, none⟩), .pointer (some ⟨c, 0, none⟩), OpQ.val ⟨5, i, n, st, bytes, seed, kv, ft⟩] w (StepP9 w0 b c f) := by
  obtain ⟨WA, AT⟩ := Step9At.of (ad := ad) (f := f) h ⟨5, i, n, st, bytes, seed, kv, ft⟩
  have HWA := Lib.hid AT.laid
  have PA := Lib.hid AT.pair
  have BA := Lib.hid AT.box
  obtain ⟨c0, c1, c2, c3, c4, c5, _, _, _⟩ := op9_cells AT.box
  simp only at HWA c0 c1 c2 c3 c4 c5
  have hmw : wrap64 ((IntKind.u64.wrap bytes).tmod 2001) = (modU bytes 2001 : Int) := modU_wrap bytes 2001 (by decide) (by decide)
  have hL : modU bytes 2001 ≤ 2000 := by have := Nat.mod_lt ((bytes % 18446744073709551616).toNat) (show 0 < 2001 by decide); unfold modU; omega
  generalize modU bytes 2001 = Ln at *
  have TX := fun W => text9_any seed Ln (by omega) W
  have HE := Lib.hid hE
  have HF := Lib.hid hf
  clear h AT hE hf
  unfold OpQ.val OpQ.list
  go_enter Tryd.func14, Tryd.ntmps14
  go_wp2_with fail
  rw [HWA.out]
  refine (TX _).mono ?_
  rintro e w1 ⟨T, hTs, rfl, q1⟩
  subst hTs
  have P1 := Lib.hid (PA.out.qt q1)
  have B1 := Lib.hid (op9_kept BA.out (show Keeps (fun k => k ≠ w.heap.size) WA w1 from Keeps.mono q1 (fun _ _ e => e.elim)))
  clear c0 c1 c2 c3 c4 c5 TX hmw q1
  obtain ⟨c0, c1, _⟩ := op9_cells B1.out
  simp only at c0 c1
  have FW := Lib.hid (HF.out.few (by omega))
  have OK := Lib.hid P1.out.ok
  go_wp2_with fail
  refine (pairR_read P1.out FW.out i).mono ?_
  rintro e w2 ⟨rfl, q2⟩
  have P2 := Lib.hid (P1.out.qt q2)
  have B2 := Lib.hid (op9_kept B1.out (show Keeps (fun k => k ≠ w.heap.size) w1 w2 from Keeps.mono q2 (fun _ _ e => e.elim)))
  clear c0 c1 q2
  obtain ⟨c0, c1, c2, c3, c4, c5, _⟩ := op9_cells B2.out
  simp only at c0 c1 c2 c3 c4 c5
  by_cases hr : d.reach i = 0
  · have h256 := readE_256 OK.out hr
    rw [hr]
    obtain ⟨S, hS⟩ : ∃ S : ByteArray, ⟨(d.readE i).toArray⟩ = S := ⟨_, rfl⟩
    have hSz : S.size = 256 := by rw [← hS]; show (d.readE i).length = 256; exact h256
    rw [hS]
    have hcv := fun W => Lib.run_convert_string_bytes (P := Tryd.prog) W 9 70 5 S Tryd.underlying9 Tryd.underlying70 Tryd.underlying5
    have TM := Lib.hid (TurnRow.made w2 S)
    have KB := Lib.hid (bytesWorld_keeps w2 5 S)
    have HG := Lib.hid (Lib.bytesWorld_size w2 5 S)
    have hidx : (IntKind.u64.wrap n).tmod 256 = (modU n 256 : Int) := by
      have h := modU_wrap n 256 (by decide) (by decide)
      have h2 : wrap64 ((IntKind.u64.wrap n).tmod (256 : Nat)) = (IntKind.u64.wrap n).tmod (256 : Nat) := by
        rw [IntKind.wrap_u64]
        have h0 : 0 ≤ n % 18446744073709551616 := by omega
        rw [Int.tmod_eq_emod_of_nonneg h0]
        unfold wrap64
        omega
      rw [h2] at h
      exact h
    have hil : modU n 256 < 256 := by unfold modU; exact Nat.mod_lt _ (by decide)
    generalize modU n 256 = p at *
    clear hS h256 hr
    go_wp2_with fail
    generalize hw3 : Lib.bytesWorld w2 5 S = w3
    rw [hw3] at TM KB HG
    have P3 := Lib.hid (P2.out.qt KB.out)
    have B3 := Lib.hid (op9_kept B2.out (show Keeps (fun k => k ≠ w.heap.size) w2 w3 from Keeps.mono KB.out (fun _ _ e => e.elim)))
    clear c0 c1 c2 c3 c4 c5 hw3 hcv
    obtain ⟨c0, c1, c2, c3, c4, c5, _⟩ := op9_cells B3.out
    simp only at c0 c1 c2 c3 c4 c5
    have hl : p < S.data.toList.length := by rw [dlen7]; omega
    have r1 := TM.out.cell hl
    have fr1 := TM.out.frozen hl
    have hlt := TM.out.lt
    have GL := Lib.hid (show w2.heap.size ≠ w.heap.size from by have := lt_of_block B2.out; omega)
    have HGE := Lib.hid (Nat.le_refl w2.heap.size)
    generalize hge : w2.heap.size = g at *
    generalize grownCap w2 256 0 5 = cap at *
    have ip0 : (0 : Int) ≤ (p : Int) := by omega
    have ip1 : (p : Int) < 256 := by omega
    go_still_tail 13, (by kernel_rfl)
    change wpList _ _ _ _ _ w3.drew
    obtain ⟨W3, hW3⟩ : ∃ W3, w3.drew = W3 := ⟨_, rfl⟩
    have P4 := Lib.hid (hW3 ▸ P3.out.qt (Keeps.drew (Qt.refl w3)))
    have Q4 := Lib.hid (show Qt w3 W3 from hW3 ▸ Keeps.drew (Qt.refl w3))
    have TM4 := Lib.hid (show TurnRow W3 g S.data.toList from hW3 ▸ TM.out.qt (Keeps.drew (Qt.refl w3)))
    rw [hW3]
    have fr4 := TM4.out.frozen hl
    have r4 := TM4.out.cell hl
    clear hW3
    have hp : p < S.data.size := by rw [← dlen7] at hSz; simpa using (show p < S.data.toList.length from hl)
    obtain ⟨x, hx⟩ := byte_xor (((S.data[p]'hp).toNat : Nat) : Int) (bits .or .u8 (seed % 256) 1)
    go_wp2_with fail
    clear hx
    have T5 := TM4.out.store p x
    have Q5 : Qt w2 (W3.setCell ⟨g, p, none⟩ (.int .u8 (x.toNat : Int))) := Keeps.setCell (Qt.trans KB.out Q4.out) (fun h => by simp only at h; omega) _
    generalize W3.setCell ⟨g, p, none⟩ (.int .u8 (x.toNat : Int)) = W5 at *
    have hl5 : 256 = (S.data.toList.set p x).length := by rw [List.length_set, dlen7, hSz]
    generalize S.data.toList.set p x = l5 at *
    obtain ⟨X, hX⟩ : ∃ X : ByteArray, ⟨l5.toArray⟩ = X := ⟨_, rfl⟩
    have B5 := Lib.hid (op9_kept B2.out (show Keeps (fun k => k ≠ w.heap.size) w2 W5 from Keeps.mono Q5 (fun _ _ e => e.elim)))
    have PJ5 := Lib.hid (PairJ.of (J := fun k => k = w.heap.size ∨ k = g) P2.out Q5 (fun k e => e.imp id (fun e => by omega)))
    have JL : ∀ W : World, W.heap[w.heap.size]? = some (.cells (OpQ.list ⟨5, i, n, st, bytes, seed, kv, ft⟩).toArray 40 (0, 0)) → TurnRow W g l5 → ∀ k, k = w.heap.size ∨ k = g → k < W.heap.size := fun W hb ht k e => by
      rcases e with rfl | rfl
      · exact lt_of_block hb
      · exact ht.lt
    have CVF : ∀ W', W'.heap[w.heap.size]? = some (.cells (OpQ.list ⟨5, i, n, st, bytes, seed, kv, ft⟩).toArray 40 (0, 0)) → TurnRow W' g l5 → W'.cell? ⟨w.heap.size, 1, none⟩ = some (.int .i64 i) ∧ (convert 70 9 (.slice (some ⟨g, 0, none⟩) 256 cap)).run Tryd.prog W' = .ok (.string X) W' := fun W' hb ht => ⟨(op9_cells hb).2.1, by rw [ht.conv 256 cap hl5, hX]⟩
    have bk : ∀ W W' : World, Keeps (fun k => ¬ (k = w.heap.size ∨ k = g)) W W' → W.heap[w.heap.size]? = some (.cells (OpQ.list ⟨5, i, n, st, bytes, seed, kv, ft⟩).toArray 40 (0, 0)) → W'.heap[w.heap.size]? = some (.cells (OpQ.list ⟨5, i, n, st, bytes, seed, kv, ft⟩).toArray 40 (0, 0)) := fun W W' k hb => op9_kept hb (k.mono (fun x _ e h => e (.inl h)))
    have BK := Lib.hid bk
    have KC := Lib.hid CVF
    have JLH := Lib.hid JL
    have B6 := Lib.hid (op9_kept B5.out (show Keeps (fun k => k ≠ w.heap.size) W5 W5.drew from Keeps.drew (Keeps.refl _ _)))
    have T6 := Lib.hid (T5.qt (Keeps.drew (Qt.refl W5)))
    have PJ6 := Lib.hid (PairJ.of (J := fun k => k = w.heap.size ∨ k = g) P2.out (Keeps.drew Q5) (fun k e => e.imp id (fun e => by omega)))
    obtain ⟨c1', cv5⟩ := CVF _ B5.out T5
    have HX := Lib.hid (HF.out.write i (strL X))
    have WL := Lib.hid (writeE_37 d i (strL X))
    have hn : ((d.writeE i (strL X) : Int) == (d.writeE i (strL X) : Int)) = true := beq_self_eq_true _
    clear bk CVF JL T5 Q5 r4 fr4 r1 fr1 hlt c0 c1 c2 c3 c4 c5 hl5 hX hge
    go_region_held3 (fun W' => W'.cell? ⟨w.heap.size, 1, none⟩ = some (.int .i64 i) ∧ (convert 70 9 (.slice (some ⟨g, 0, none⟩) 256 cap)).run Tryd.prog W' = .ok (.string X) W')
      (first | exact KC.out _ (Hid.out (by assumption)) (Hid.out (by assumption)))
      (first
        | (go_at_call 25; refine (pairJ_write HE.out (JLH.out _ B6.out T6.out) PJ6.out FW.out i X).mono ?_; rintro e w6 ⟨rfl, p6, k6⟩; have PJ7 := Lib.hid p6; have B7 := Lib.hid (BK.out _ _ k6 B6.out); have T7 := Lib.hid (T6.out.kept k6 (fun e => e (.inr rfl))))
        | (go_at_call 22; refine (num_any ad (d.writeE i (strL X)) _ (errs_since HE.out PJ7.out.since) WL.out).mono ?_; rintro e w7 ⟨rfl, q7⟩; have PJ8 := Lib.hid (PairJ.qt' PJ7.out q7); have B8 := Lib.hid (BK.out _ _ (Keeps.mono q7 (fun _ _ e => e.elim)) B7.out); have T8 := Lib.hid (T7.out.qt q7))
        | (go_at_call 33; refine (pairJR_write (JLH.out _ B8.out T8.out) PJ8.out FW.out i X).mono ?_; rintro e w8 ⟨rfl, p8, k8⟩; have PJ9 := Lib.hid p8; have B9 := Lib.hid (BK.out _ _ k8 B8.out); have T9 := Lib.hid (T8.out.kept k8 (fun e => e (.inr rfl)))))
    have FIN := Lib.hid (show StepP9 w0 b c f (.returned (.bool true)) w8 from ⟨rfl, w.heap.size, _, HX.out.mono (by omega), PJ9.out.pair (.inl rfl)⟩)
    go_wp2
    go_ret
    exact FIN.out
  · have z : ((d.reach i : Int) != 0) = true := by rw [bne_iff_ne]; omega
    have FIN := Lib.hid (show StepP9 w0 b c f (.returned (.bool true)) w2 from ⟨rfl, _, _, HF.out.mono (by omega), P2.out⟩)
    clear c1 c2 c3 c4 c5 hr
    go_wp2
    go_ret
    exact FIN.out
end
end Go.Proofs.YtcapifhmmkmboaaDoor
