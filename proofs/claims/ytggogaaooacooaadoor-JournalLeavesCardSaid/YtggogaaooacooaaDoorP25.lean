/-
  Layer 10, plain: how a whole record is told.
  Layer 10, plain: a record by its pieces, as the program gathers them.
  Counts of a disk below a number.
-/
import Derived.Test.YtggogaaooacooaaDoorP07
import Derived.Test.YtggogaaooacooaaDoorP05
namespace Go.Proofs.YtggogaaooacooaaDoor.J
set_option maxRecDepth 100000

theorem rec_no1 {s : Nat → Option (List UInt8)} {n p : Nat} (h : s p = none) : rec s n p = none := rec_none fun v k => by
  have := k.each 0 (cost_pos _)
  rw [Nat.add_zero, h] at this
  cases this
theorem rec_no2 {s : Nat → Option (List UInt8)} {n p : Nat} {q : List UInt8} (h : s p = some q) (h2 : ∀ v : List UInt8, q ≠ pay v 0) : rec s n p = none := rec_none fun v k => by
  have := k.each 0 (cost_pos _)
  rw [Nat.add_zero, h] at this
  injection this with this
  exact h2 v this
theorem pay0_five {v q : List UInt8} (h : q = pay v 0) : 5 ≤ q.length ∧ q[0]? = some 1 := by
  subst h
  exact ⟨by rw [pay0_length]; omega, rfl⟩
/-- The pieces read are those of one text. -/
structure Read (s : Nat → Option (List UInt8)) (p : Nat) (P : Nat → List UInt8) (k : Nat) : Prop where
  each : ∀ j, j < k → s (p + j) = some (P j)
theorem rec_room {s : Nat → Option (List UInt8)} {n p : Nat} {q : List UInt8} (h : s p = some q) (hn : n < p + cost (sizeOf q)) : rec s n p = none := rec_none fun v k => by
  have e := k.each 0 (cost_pos _)
  rw [Nat.add_zero, h] at e
  injection e with e
  rw [e, size_pay k.small] at hn
  have := k.room
  omega
theorem rec_miss {s : Nat → Option (List UInt8)} {n p k : Nat} {q : List UInt8} (h : s p = some q) (hk : k < cost (sizeOf q)) (hm : s (p + k) = none) : rec s n p = none := rec_none fun v w => by
  have e := w.each 0 (cost_pos _)
  rw [Nat.add_zero, h] at e
  injection e with e
  rw [e, size_pay w.small] at hk
  have := w.each k hk
  rw [hm] at this
  cases this
theorem rec_short {s : Nat → Option (List UInt8)} {n p k : Nat} {q r : List UInt8} (h : s p = some q) (hk : k + 1 < cost (sizeOf q)) (hm : s (p + (k + 1)) = some r) (hr : r.length < 1) : rec s n p = none := rec_none fun v w => by
  have e := w.each 0 (cost_pos _)
  rw [Nat.add_zero, h] at e
  injection e with e
  rw [e, size_pay w.small] at hk
  have := w.each (k + 1) hk
  rw [hm] at this
  injection this with this
  rw [this, payS_length] at hr
  omega
/-- All pieces counted: it is this text, or none. -/
theorem rec_text {s : Nat → Option (List UInt8)} {n p : Nat} {P : Nat → List UInt8} (h : ∀ j, j < cost (sizeOf (P 0)) → s (p + j) = some (P j)) {v : List UInt8} (w : Whole s n p v) :
    v = textTo P (cost (sizeOf (P 0))) ∧ v.length = sizeOf (P 0) ∧ ∀ j, j < cost (sizeOf (P 0)) → P j = pay v j := by
  have e := w.each 0 (cost_pos _)
  rw [h 0 (cost_pos _)] at e
  injection e with e
  have es : sizeOf (P 0) = v.length := by rw [e, size_pay w.small]
  have ep : ∀ j, j < cost (sizeOf (P 0)) → P j = pay v j := fun j hj => by
    have := w.each j (by rw [← es]; exact hj)
    rw [h j hj] at this
    injection this
  refine ⟨?_, es.symm, ep⟩
  rw [text_congr _ ep, es, text_all]
theorem rec_size {s : Nat → Option (List UInt8)} {n p : Nat} {P : Nat → List UInt8} (h : ∀ j, j < cost (sizeOf (P 0)) → s (p + j) = some (P j)) (hs : (textTo P (cost (sizeOf (P 0)))).length ≠ sizeOf (P 0)) : rec s n p = none := rec_none fun v w => by
  obtain ⟨h1, h2, _⟩ := rec_text h w
  rw [← h1] at hs
  exact hs h2
theorem rec_unlike {s : Nat → Option (List UInt8)} {n p k : Nat} {P : Nat → List UInt8} (h : ∀ j, j < cost (sizeOf (P 0)) → s (p + j) = some (P j)) (hk : k < cost (sizeOf (P 0))) (hs : P k ≠ pay (textTo P (cost (sizeOf (P 0)))) k) : rec s n p = none := rec_none fun v w => by
  obtain ⟨h1, _, h3⟩ := rec_text h w
  rw [← h1] at hs
  exact hs (h3 k hk)
theorem rec_yes {s : Nat → Option (List UInt8)} {n p : Nat} {P : Nat → List UInt8} (h : ∀ j, j < cost (sizeOf (P 0)) → s (p + j) = some (P j)) (hn : p + cost (sizeOf (P 0)) ≤ n) (hs : (textTo P (cost (sizeOf (P 0)))).length = sizeOf (P 0))
    (hp : ∀ k, k < cost (sizeOf (P 0)) → P k = pay (textTo P (cost (sizeOf (P 0)))) k) : rec s n p = some (textTo P (cost (sizeOf (P 0)))) :=
  rec_some ⟨by rw [hs]; exact size_lt _, by rw [hs]; exact hn, fun k hk => by rw [hs] at hk; rw [h k hk, hp k hk]⟩
theorem text_le {P : Nat → List UInt8} (h : ∀ j, (P j).length ≤ 234) : ∀ k, (textTo P k).length ≤ 234 * k
  | 0 => Nat.zero_le _
  | 1 => by rw [textTo, List.length_drop]; have := h 0; omega
  | k + 2 => by rw [textTo, List.length_append, List.length_drop]; have := h (k + 1); have := text_le h (k + 1); omega
end Go.Proofs.YtggogaaooacooaaDoor.J
namespace Go.Proofs.YtggogaaooacooaaDoor.J
set_option maxRecDepth 100000

/-- What stands ahead of a piece; where a piece ends. -/
def headZ (z : Nat) : Nat → List UInt8
  | 0 => 1 :: E.low 4 z
  | _ + 1 => [0]
def upto (z k : Nat) : Nat := min (ends (k + 1)) z
theorem ends_leZ {z k : Nat} (h : k < cost z) : ends k ≤ z := by
  cases k with
  | zero => exact Nat.zero_le _
  | succ k => exact Nat.le_of_lt (ends_lt h)
theorem ends_mono : ∀ {a b : Nat}, a ≤ b → ends a ≤ ends b
  | 0, b, _ => Nat.zero_le _
  | a + 1, 0, h => by omega
  | a + 1, b + 1, h => by show 229 + 233 * a ≤ 229 + 233 * b; omega
theorem upto_ge {z k : Nat} (h : k < cost z) : ends k ≤ upto z k := by
  have h1 := ends_leZ h
  have h2 := ends_mono (show k ≤ k + 1 by omega)
  unfold upto; omega
theorem upto_le (z k : Nat) : upto z k ≤ z := by unfold upto; omega
theorem pay_eq (v : List UInt8) (k : Nat) : pay v k = headZ v.length k ++ (v.drop (ends k)).take (upto v.length k - ends k) := by
  cases k with
  | zero =>
    show 1 :: (E.low 4 v.length ++ v.take 229) = 1 :: E.low 4 v.length ++ (v.drop 0).take (min (229 + 233 * 0) v.length - 0)
    rw [List.drop_zero, List.cons_append, Nat.sub_zero]
    congr 2
    rcases Nat.le_total v.length 229 with h | h
    · rw [List.take_of_length_le h, List.take_of_length_le (by omega)]
    · rw [show min (229 + 233 * 0) v.length = 229 by omega]
  | succ k =>
    show 0 :: (v.drop (229 + 233 * k)).take 233 = [0] ++ (v.drop (229 + 233 * k)).take (min (229 + 233 * (k + 1)) v.length - (229 + 233 * k))
    rw [List.singleton_append]
    congr 1
    rcases Nat.le_total v.length (229 + 233 * (k + 1)) with h | h
    · rw [List.take_of_length_le (by rw [List.length_drop]; omega), List.take_of_length_le (by rw [List.length_drop]; omega)]
    · rw [show min (229 + 233 * (k + 1)) v.length - (229 + 233 * k) = 233 by omega]
theorem piece_length {v : List UInt8} {k : Nat} : ((v.drop (ends k)).take (upto v.length k - ends k)).length = upto v.length k - ends k := by
  have := upto_le v.length k
  rw [List.length_take, List.length_drop]; omega

/-- The first k pieces of z bytes have been read: they are o. -/
structure Got (s : Nat → Option (List UInt8)) (i z k : Nat) (o : List UInt8) : Prop where
  len : o.length = min (ends k) z
  each : ∀ j, j < k → s (i + j) = some (headZ z j ++ (o.drop (ends j)).take (upto z j - ends j))
theorem Got.none (s : Nat → Option (List UInt8)) (i z : Nat) : Got s i z 0 [] := ⟨by simp [ends], fun j hj => absurd hj (Nat.not_lt_zero j)⟩
theorem Got.more {s : Nat → Option (List UInt8)} {i z k : Nat} {o t : List UInt8} (h : Got s i z k o) (hk : k < cost z) (hs : s (i + k) = some (headZ z k ++ t)) (ht : t.length = upto z k - ends k) : Got s i z (k + 1) (o ++ t) := by
  have he := ends_leZ hk
  have hu := upto_ge hk
  have hl : o.length = ends k := by rw [h.len]; omega
  refine ⟨?_, fun j hj => ?_⟩
  · rw [List.length_append, hl, ht]
    show ends k + (min (ends (k + 1)) z - ends k) = _
    unfold upto at hu
    omega
  · rcases Nat.lt_or_ge j k with hjk | hjk
    · rw [h.each j hjk]
      have hje : upto z j ≤ ends k := by have := ends_mono (show j + 1 ≤ k by omega); unfold upto; omega
      have hjs : ends j ≤ ends k := ends_mono (by omega)
      rw [List.drop_append_of_le_length (by omega), List.take_append_of_le_length (by rw [List.length_drop]; omega)]
    · obtain rfl : j = k := by omega
      rw [hs]
      congr 2
      rw [← hl, List.drop_left, hl, List.take_of_length_le (by omega)]
theorem Got.all {s : Nat → Option (List UInt8)} {n i z : Nat} {o : List UInt8} (h : Got s i z (cost z) o) (hz : z < 4294967296) (hn : i + cost z ≤ n) : o.length = z ∧ J.rec s n i = some o := by
  have hl : o.length = z := by rw [h.len]; have := cost_le z; omega
  refine ⟨hl, rec_some ⟨by omega, by rw [hl]; exact hn, fun k hk => ?_⟩⟩
  rw [hl] at hk
  rw [h.each k hk, pay_eq, hl]
/-- A piece that isn't right: there is no record. -/
theorem got_no {s : Nat → Option (List UInt8)} {n i z k : Nat} {q : List UInt8} (h0 : s i = some q) (hz : sizeOf q = z) (hk : k < cost z) (hbad : ∀ t, t.length = upto z k - ends k → s (i + k) ≠ some (headZ z k ++ t)) : rec s n i = none := rec_none fun v w => by
  have e := w.each 0 (cost_pos _)
  rw [Nat.add_zero, h0] at e
  injection e with e
  have ev : v.length = z := by rw [← hz, e, size_pay w.small]
  have := w.each k (by rw [ev]; exact hk)
  rw [pay_eq, ev] at this
  exact hbad _ (by rw [← ev]; exact piece_length) this
/-- The payload where a sector doesn't count is empty. -/
def payN (s : Nat → Option (List UInt8)) (k : Nat) : List UInt8 := (s k).getD []
theorem pay_some {s : Nat → Option (List UInt8)} {k : Nat} {p : List UInt8} (h : payN s k = p) (hp : p ≠ []) : s k = some p := by
  unfold payN at h
  cases hq : s k with
  | none => rw [hq] at h; exact absurd h.symm hp
  | some q => rw [hq] at h; exact congrArg some h
theorem payN_of {s : Nat → Option (List UInt8)} {k : Nat} {p : List UInt8} (h : s k = some p) : payN s k = p := by unfold payN; rw [h]; rfl
theorem headZ_ne (z k : Nat) : headZ z k ≠ [] := by cases k <;> simp [headZ]
theorem headZ_length (z k : Nat) : (headZ z k).length = if k = 0 then 5 else 1 := by cases k <;> simp [headZ, E.low_length]
theorem got_first {s : Nat → Option (List UInt8)} {i z k : Nat} {t : List UInt8} (h : payN s (i + k) = headZ z k ++ t) : s (i + k) = some (headZ z k ++ t) := pay_some h (by have := headZ_ne z k; simp [this])
/-- A payload that is too short for a record's beginning. -/
theorem rec_few {s : Nat → Option (List UInt8)} {n i : Nat} (h : (payN s i).length < 5) : rec s n i = none := rec_none fun v w => by
  have e := w.each 0 (cost_pos _)
  rw [Nat.add_zero] at e
  rw [payN_of e] at h
  have := pay0_length v
  omega
theorem rec_wide {s : Nat → Option (List UInt8)} {n i : Nat} (hn : n < i + cost (sizeOf (payN s i))) : rec s n i = none := by
  cases hq : s i with
  | none => exact rec_no1 hq
  | some q => rw [payN_of hq] at hn; exact rec_room hq hn
/-- A piece that doesn't begin so, or is of another length. -/
theorem rec_other {s : Nat → Option (List UInt8)} {n i z k : Nat} (hz : sizeOf (payN s i) = z) (hk : k < cost z) (hbad : ∀ t, t.length = upto z k - ends k → payN s (i + k) ≠ headZ z k ++ t) : rec s n i = none := by
  cases hq : s i with
  | none => exact rec_no1 hq
  | some q =>
    rw [payN_of hq] at hz
    exact got_no hq hz hk (fun t ht e => hbad t ht (payN_of e))
end Go.Proofs.YtggogaaooacooaaDoor.J
namespace Go.Proofs.YtggogaaooacooaaDoor
set_option maxRecDepth 100000

/-- No count is above m. -/
structure DS.FewN (m : Nat) (d : DS) : Prop where
  ways : d.ways.length ≤ m
  wr : d.wr ≤ m
  fl : d.fl ≤ m
  cr : d.cr ≤ m
theorem DS.FewN.few {m : Nat} {d : DS} (h : d.FewN m) (hm : m ≤ 1073741824) : d.Few := ⟨Nat.le_trans h.ways hm, Nat.le_trans h.wr (Nat.le_trans hm (by decide)), Nat.le_trans h.fl (Nat.le_trans hm (by decide)), Nat.le_trans h.cr (Nat.le_trans hm (by decide))⟩
theorem DS.FewN.mono {m n : Nat} {d : DS} (h : d.FewN m) (hm : m ≤ n) : d.FewN n := ⟨Nat.le_trans h.ways hm, Nat.le_trans h.wr hm, Nat.le_trans h.fl hm, Nat.le_trans h.cr hm⟩
theorem DS.FewN.write {m : Nat} {d : DS} (h : d.FewN m) (i : Int) (s : List UInt8) : (d.writeD i s).FewN (m + 1) := by
  have h1 := h.ways; have h2 := h.wr; have h3 := h.fl; have h4 := h.cr
  unfold DS.writeD
  split
  · exact h.mono (by omega)
  · split
    · exact h.mono (by omega)
    · split
      · exact ⟨by simp; omega, by simp only; omega, by simp only; omega, by simp only; omega⟩
      · exact ⟨by simp; omega, by simp only; omega, by simp only; omega, by simp only; omega⟩
theorem DS.FewN.flush {m : Nat} {d : DS} (h : d.FewN m) : d.flushD.FewN (m + 1) := by
  have h1 := h.ways; have h2 := h.wr; have h3 := h.fl; have h4 := h.cr
  unfold DS.flushD
  split
  · exact h.mono (by omega)
  · split
    · exact ⟨by simp only; omega, by simp only; omega, by simp only; omega, by simp only; omega⟩
    · exact ⟨by simp, by simp only; omega, by simp only; omega, by simp only; omega⟩
end Go.Proofs.YtggogaaooacooaaDoor
