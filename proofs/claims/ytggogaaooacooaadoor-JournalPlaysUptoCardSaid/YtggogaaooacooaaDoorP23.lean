/-
  Layer 10, plain: a record by its pieces, as the program gathers them.
  Counts of a disk below a number.
  Layer 10, plain: a journal that no call has brought out of its place; what keeps it so.
-/
import Derived.Test.YtggogaaooacooaaDoorP22
import Derived.Test.YtggogaaooacooaaDoorP05
import Derived.Test.YtggogaaooacooaaDoorP06
namespace Go.Proofs.YtggogaaooacooaaDoor.J
set_option maxRecDepth 100000

/-- What stands ahead of a piece; where a piece ends. -/
def headZ (z : Nat) : Nat → List UInt8
  | 0 => 1 :: E.low 4 z
  | _ + 1 => [0]
def upto (z k : Nat) : Nat := min (ends (k + 1)) z
theorem ends_leZ {z k : Nat} (h : k < cost z) : ends k ≤ z := by
  cases k with
  | zero => exact Nat.zero_le _
  | succ k => exact Nat.le_of_lt (ends_lt h)
theorem ends_mono : ∀ {a b : Nat}, a ≤ b → ends a ≤ ends b
  | 0, b, _ => Nat.zero_le _
  | a + 1, 0, h => by omega
  | a + 1, b + 1, h => by show 229 + 233 * a ≤ 229 + 233 * b; omega
theorem upto_ge {z k : Nat} (h : k < cost z) : ends k ≤ upto z k := by
  have h1 := ends_leZ h
  have h2 := ends_mono (show k ≤ k + 1 by omega)
  unfold upto; omega
theorem upto_le (z k : Nat) : upto z k ≤ z := by unfold upto; omega
theorem pay_eq (v : List UInt8) (k : Nat) : pay v k = headZ v.length k ++ (v.drop (ends k)).take (upto v.length k - ends k) := by
  cases k with
  | zero =>
    show 1 :: (E.low 4 v.length ++ v.take 229) = 1 :: E.low 4 v.length ++ (v.drop 0).take (min (229 + 233 * 0) v.length - 0)
    rw [List.drop_zero, List.cons_append, Nat.sub_zero]
    congr 2
    rcases Nat.le_total v.length 229 with h | h
    · rw [List.take_of_length_le h, List.take_of_length_le (by omega)]
    · rw [show min (229 + 233 * 0) v.length = 229 by omega]
  | succ k =>
    show 0 :: (v.drop (229 + 233 * k)).take 233 = [0] ++ (v.drop (229 + 233 * k)).take (min (229 + 233 * (k + 1)) v.length - (229 + 233 * k))
    rw [List.singleton_append]
    congr 1
    rcases Nat.le_total v.length (229 + 233 * (k + 1)) with h | h
    · rw [List.take_of_length_le (by rw [List.length_drop]; omega), List.take_of_length_le (by rw [List.length_drop]; omega)]
    · rw [show min (229 + 233 * (k + 1)) v.length - (229 + 233 * k) = 233 by omega]
theorem piece_length {v : List UInt8} {k : Nat} : ((v.drop (ends k)).take (upto v.length k - ends k)).length = upto v.length k - ends k := by
  have := upto_le v.length k
  rw [List.length_take, List.length_drop]; omega

/-- The first k pieces of z bytes have been read: they are o. -/
structure Got (s : Nat → Option (List UInt8)) (i z k : Nat) (o : List UInt8) : Prop where
  len : o.length = min (ends k) z
  each : ∀ j, j < k → s (i + j) = some (headZ z j ++ (o.drop (ends j)).take (upto z j - ends j))
theorem Got.none (s : Nat → Option (List UInt8)) (i z : Nat) : Got s i z 0 [] := ⟨by simp [ends], fun j hj => absurd hj (Nat.not_lt_zero j)⟩
theorem Got.more {s : Nat → Option (List UInt8)} {i z k : Nat} {o t : List UInt8} (h : Got s i z k o) (hk : k < cost z) (hs : s (i + k) = some (headZ z k ++ t)) (ht : t.length = upto z k - ends k) : Got s i z (k + 1) (o ++ t) := by
  have he := ends_leZ hk
  have hu := upto_ge hk
  have hl : o.length = ends k := by rw [h.len]; omega
  refine ⟨?_, fun j hj => ?_⟩
  · rw [List.length_append, hl, ht]
    show ends k + (min (ends (k + 1)) z - ends k) = _
    unfold upto at hu
    omega
  · rcases Nat.lt_or_ge j k with hjk | hjk
    · rw [h.each j hjk]
      have hje : upto z j ≤ ends k := by have := ends_mono (show j + 1 ≤ k by omega); unfold upto; omega
      have hjs : ends j ≤ ends k := ends_mono (by omega)
      rw [List.drop_append_of_le_length (by omega), List.take_append_of_le_length (by rw [List.length_drop]; omega)]
    · obtain rfl : j = k := by omega
      rw [hs]
      congr 2
      rw [← hl, List.drop_left, hl, List.take_of_length_le (by omega)]
theorem Got.all {s : Nat → Option (List UInt8)} {n i z : Nat} {o : List UInt8} (h : Got s i z (cost z) o) (hz : z < 4294967296) (hn : i + cost z ≤ n) : o.length = z ∧ J.rec s n i = some o := by
  have hl : o.length = z := by rw [h.len]; have := cost_le z; omega
  refine ⟨hl, rec_some ⟨by omega, by rw [hl]; exact hn, fun k hk => ?_⟩⟩
  rw [hl] at hk
  rw [h.each k hk, pay_eq, hl]
/-- A piece that isn't right: there is no record. -/
theorem got_no {s : Nat → Option (List UInt8)} {n i z k : Nat} {q : List UInt8} (h0 : s i = some q) (hz : sizeOf q = z) (hk : k < cost z) (hbad : ∀ t, t.length = upto z k - ends k → s (i + k) ≠ some (headZ z k ++ t)) : rec s n i = none := rec_none fun v w => by
  have e := w.each 0 (cost_pos _)
  rw [Nat.add_zero, h0] at e
  injection e with e
  have ev : v.length = z := by rw [← hz, e, size_pay w.small]
  have := w.each k (by rw [ev]; exact hk)
  rw [pay_eq, ev] at this
  exact hbad _ (by rw [← ev]; exact piece_length) this
/-- The payload where a sector doesn't count is empty. -/
def payN (s : Nat → Option (List UInt8)) (k : Nat) : List UInt8 := (s k).getD []
theorem pay_some {s : Nat → Option (List UInt8)} {k : Nat} {p : List UInt8} (h : payN s k = p) (hp : p ≠ []) : s k = some p := by
  unfold payN at h
  cases hq : s k with
  | none => rw [hq] at h; exact absurd h.symm hp
  | some q => rw [hq] at h; exact congrArg some h
theorem payN_of {s : Nat → Option (List UInt8)} {k : Nat} {p : List UInt8} (h : s k = some p) : payN s k = p := by unfold payN; rw [h]; rfl
theorem headZ_ne (z k : Nat) : headZ z k ≠ [] := by cases k <;> simp [headZ]
theorem headZ_length (z k : Nat) : (headZ z k).length = if k = 0 then 5 else 1 := by cases k <;> simp [headZ, E.low_length]
theorem got_first {s : Nat → Option (List UInt8)} {i z k : Nat} {t : List UInt8} (h : payN s (i + k) = headZ z k ++ t) : s (i + k) = some (headZ z k ++ t) := pay_some h (by have := headZ_ne z k; simp [this])
/-- A payload that is too short for a record's beginning. -/
theorem rec_few {s : Nat → Option (List UInt8)} {n i : Nat} (h : (payN s i).length < 5) : rec s n i = none := rec_none fun v w => by
  have e := w.each 0 (cost_pos _)
  rw [Nat.add_zero] at e
  rw [payN_of e] at h
  have := pay0_length v
  omega
theorem rec_wide {s : Nat → Option (List UInt8)} {n i : Nat} (hn : n < i + cost (sizeOf (payN s i))) : rec s n i = none := by
  cases hq : s i with
  | none => exact rec_no1 hq
  | some q => rw [payN_of hq] at hn; exact rec_room hq hn
/-- A piece that doesn't begin so, or is of another length. -/
theorem rec_other {s : Nat → Option (List UInt8)} {n i z k : Nat} (hz : sizeOf (payN s i) = z) (hk : k < cost z) (hbad : ∀ t, t.length = upto z k - ends k → payN s (i + k) ≠ headZ z k ++ t) : rec s n i = none := by
  cases hq : s i with
  | none => exact rec_no1 hq
  | some q =>
    rw [payN_of hq] at hz
    exact got_no hq hz hk (fun t ht e => hbad t ht (payN_of e))
end Go.Proofs.YtggogaaooacooaaDoor.J
namespace Go.Proofs.YtggogaaooacooaaDoor
set_option maxRecDepth 100000

/-- No count is above m. -/
structure DS.FewN (m : Nat) (d : DS) : Prop where
  ways : d.ways.length ≤ m
  wr : d.wr ≤ m
  fl : d.fl ≤ m
  cr : d.cr ≤ m
theorem DS.FewN.few {m : Nat} {d : DS} (h : d.FewN m) (hm : m ≤ 1073741824) : d.Few := ⟨Nat.le_trans h.ways hm, Nat.le_trans h.wr (Nat.le_trans hm (by decide)), Nat.le_trans h.fl (Nat.le_trans hm (by decide)), Nat.le_trans h.cr (Nat.le_trans hm (by decide))⟩
theorem DS.FewN.mono {m n : Nat} {d : DS} (h : d.FewN m) (hm : m ≤ n) : d.FewN n := ⟨Nat.le_trans h.ways hm, Nat.le_trans h.wr hm, Nat.le_trans h.fl hm, Nat.le_trans h.cr hm⟩
theorem DS.FewN.write {m : Nat} {d : DS} (h : d.FewN m) (i : Int) (s : List UInt8) : (d.writeD i s).FewN (m + 1) := by
  have h1 := h.ways; have h2 := h.wr; have h3 := h.fl; have h4 := h.cr
  unfold DS.writeD
  split
  · exact h.mono (by omega)
  · split
    · exact h.mono (by omega)
    · split
      · exact ⟨by simp; omega, by simp only; omega, by simp only; omega, by simp only; omega⟩
      · exact ⟨by simp; omega, by simp only; omega, by simp only; omega, by simp only; omega⟩
theorem DS.FewN.flush {m : Nat} {d : DS} (h : d.FewN m) : d.flushD.FewN (m + 1) := by
  have h1 := h.ways; have h2 := h.wr; have h3 := h.fl; have h4 := h.cr
  unfold DS.flushD
  split
  · exact h.mono (by omega)
  · split
    · exact ⟨by simp only; omega, by simp only; omega, by simp only; omega, by simp only; omega⟩
    · exact ⟨by simp, by simp only; omega, by simp only; omega, by simp only; omega⟩
end Go.Proofs.YtggogaaooacooaaDoor
namespace Go.Proofs.YtggogaaooacooaaDoor
set_option maxRecDepth 100000

namespace J
/-- Where a journal may stand over a disk; a dead one's power is off, or its disk has crashed. -/
structure Fine (j : JS) (d : DS) : Prop where
  used : j.used ≤ j.n
  fit : j.pos + j.n ≤ d.dur.length
  v1 : 1 ≤ j.ver
  v2 : j.ver ≤ 1099511627776
  dead : j.dead = true → d.off = true ∨ d.cr ≠ j.life
  life : j.life ≤ d.cr
section
variable {j : JS} {d : DS}
/-- The program's own way to ask. -/
def JS.gone (j : JS) (d : DS) : Bool := d.off || decide (d.cr ≠ j.life)
theorem Fine.down (h : Fine j d) : j.down d = j.gone d := by
  unfold JS.down JS.gone
  cases hd : j.dead with
  | false => simp
  | true =>
    rcases h.dead hd with e | e
    · rw [e]; simp
    · rw [decide_eq_true e]; simp
theorem gone_dead (h : j.gone d = true) : d.off = true ∨ d.cr ≠ j.life := by
  unfold JS.gone at h
  cases ho : d.off with
  | true => exact .inl rfl
  | false => rw [ho] at h; exact .inr (by simpa using h)
theorem gone_not (h : j.gone d = false) : d.off = false ∧ d.cr = j.life := by
  unfold JS.gone at h
  simp only [Bool.or_eq_false_iff] at h
  exact ⟨h.1, by simpa using h.2⟩
theorem Fine.kill (h : Fine j d) (hd : d.off = true ∨ d.cr ≠ j.life) : Fine { j with dead := true } d := ⟨h.used, h.fit, h.v1, h.v2, fun _ => hd, h.life⟩
theorem writeD_off (d : DS) (i : Int) (s : List UInt8) (h : d.off = true) : (d.writeD i s).off = true := by
  unfold DS.writeD
  repeat' split
  all_goals first | exact h | rfl
theorem writeD_cr (d : DS) (i : Int) (s : List UInt8) : (d.writeD i s).cr = d.cr := by
  unfold DS.writeD
  repeat' split
  all_goals rfl
theorem Fine.write (h : Fine j d) (i : Int) (s : List UInt8) : Fine j (d.writeD i s) :=
  ⟨h.used, by rw [writeD_size]; exact h.fit, h.v1, h.v2, fun k => by rw [writeD_cr]; exact (h.dead k).imp (writeD_off d i s) id, by rw [writeD_cr]; exact h.life⟩
theorem flushD_off (d : DS) (h : d.off = true) : d.flushD.off = true := by
  unfold DS.flushD
  rw [h]; exact h
theorem flushD_cr (d : DS) : d.flushD.cr = d.cr := by
  unfold DS.flushD
  repeat' split
  all_goals rfl
theorem Fine.flush (h : Fine j d) : Fine j d.flushD :=
  ⟨h.used, by rw [flushD_size]; exact h.fit, h.v1, h.v2, fun k => by rw [flushD_cr]; exact (h.dead k).imp (flushD_off d) id, by rw [flushD_cr]; exact h.life⟩
theorem Fine.arm (h : Fine j d) (k : Int) : Fine j (d.armD k) := ⟨h.used, h.fit, h.v1, h.v2, h.dead, h.life⟩
theorem Fine.crash (h : Fine j d) (f : FT) : Fine j (d.crashD f) := by
  have hl := h.life
  refine ⟨h.used, by rw [crashD_size]; exact h.fit, h.v1, h.v2, fun _ => .inr ?_, ?_⟩
  · show d.cr + 1 ≠ j.life
    omega
  · show j.life ≤ d.cr + 1
    omega
/-- The writes of a record: all of them, or the power went. -/
theorem go_fine {v : List UInt8} : ∀ (m k : Nat) (d : DS), d.off = false → j.used + (k + m) ≤ j.n → j.pos + j.n ≤ d.dur.length →
    ((j.go v m k d).1 = 0 ∨ ((j.go v m k d).1 = 12 ∧ (j.go v m k d).2.off = true)) ∧ (j.go v m k d).2.dur = d.dur ∧ (j.go v m k d).2.cr = d.cr
  | 0, k, d, ho, hn, hD => ⟨.inl rfl, rfl, rfl⟩
  | m + 1, k, d, ho, hn, hD => by
    have hr : d.reach ((j.pos + (j.used + k) : Nat) : Int) = 0 := DS.reach_calm ho (by omega)
    have hlen := E.sct_length (stamp j.ver (j.used + k)) (pay_le v k)
    rw [JS.go]
    by_cases h0 : d.armed = 0
    · have hE : j.putE v k d = 12 := by unfold JS.putE DS.writeE; rw [if_neg (by rw [hr]; simp), if_neg (by rw [hlen]; simp), if_pos h0]
      have hW : j.put v k d = { d with ways := d.ways ++ [(j.pos + (j.used + k), E.sct (stamp j.ver (j.used + k)) (pay v k))], off := true } := by
        unfold JS.put DS.writeD; rw [if_neg (by rw [hr]; simp), if_neg (by rw [hlen]; simp), if_pos h0]; rfl
      rw [if_pos (by rw [hE]; decide)]
      exact ⟨.inr ⟨hE, by rw [hW]⟩, by rw [hW], by rw [hW]⟩
    · have hE : j.putE v k d = 0 := by unfold JS.putE DS.writeE; rw [if_neg (by rw [hr]; simp), if_neg (by rw [hlen]; simp), if_neg h0]
      have hW : j.put v k d = { d with ways := d.ways ++ [(j.pos + (j.used + k), E.sct (stamp j.ver (j.used + k)) (pay v k))], armed := dec d.armed, wr := d.wr + 1 } := by
        unfold JS.put DS.writeD; rw [if_neg (by rw [hr]; simp), if_neg (by rw [hlen]; simp), if_neg h0]; rfl
      rw [if_neg (by rw [hE]; simp)]
      obtain ⟨r1, r2, r3⟩ := go_fine (v := v) m (k + 1) (j.put v k d) (by rw [hW]; exact ho) (by omega) (by rw [hW]; exact hD)
      exact ⟨r1, r2.trans (by rw [hW]), r3.trans (by rw [hW])⟩
theorem Fine.append (h : Fine j d) (v : List UInt8) : Fine (j.append d v).2.1 (j.append d v).2.2 ∧ (j.append d v).1 ≤ 37 := by
  unfold JS.append
  split
  · rename_i hd
    rw [h.down] at hd
    exact ⟨h.kill (gone_dead hd), (by decide : (12 : Nat) ≤ 37)⟩
  · rename_i hd
    split
    · exact ⟨h, (by decide : (17 : Nat) ≤ 37)⟩
    · rename_i hf
      have hg := gone_not (by rw [← h.down]; simpa using hd)
      obtain ⟨r1, r2, r3⟩ := go_fine (j := j) (v := v) (cost v.length) 0 d hg.1 (by omega) h.fit
      split
      · rename_i he
        rcases r1 with r1 | ⟨r1, ro⟩
        · exact absurd r1 he
        · exact ⟨⟨h.used, by rw [r2]; exact h.fit, h.v1, h.v2, fun _ => .inl ro, by rw [r3]; exact h.life⟩, by simp only [r1]; decide⟩
      · refine ⟨⟨?_, by rw [r2]; exact h.fit, h.v1, h.v2, fun k => ?_, by rw [r3]; exact h.life⟩, (by decide : (0 : Nat) ≤ 37)⟩
        · show j.used + cost v.length ≤ j.n
          omega
        · rcases h.dead k with e | e
          · rw [hg.1] at e; cases e
          · exact absurd hg.2 e
theorem Fine.sync (h : Fine j d) : Fine (j.sync d).2.1 (j.sync d).2.2 ∧ (j.sync d).1 ≤ 37 := by
  unfold JS.sync
  split
  · rename_i hd
    rw [h.down] at hd
    exact ⟨h.kill (gone_dead hd), (by decide : (12 : Nat) ≤ 37)⟩
  · rename_i hd
    have hg := gone_not (by rw [← h.down]; simpa using hd)
    split
    · rename_i he
      have h0 : d.armed = 0 := by
        unfold DS.flushE at he
        rw [hg.1, if_neg (by simp)] at he
        split at he
        · assumption
        · exact absurd rfl he
      have hF : d.flushD = { d with off := true } := by unfold DS.flushD; rw [hg.1, if_neg (by simp), if_pos h0]
      refine ⟨⟨h.used, by rw [flushD_size]; exact h.fit, h.v1, h.v2, fun _ => .inl (by rw [hF]), by rw [flushD_cr]; exact h.life⟩, ?_⟩
      have hE : d.flushE ≤ 37 := by
        unfold DS.flushE
        repeat' split
        all_goals decide
      exact hE
    · exact ⟨h.flush, (by decide : (0 : Nat) ≤ 37)⟩
theorem Fine.begin {i n v : Int} (h : refE d i n v = 0) : Fine ⟨i.toNat, n.toNat, v.toNat, 0, false, d.cr⟩ d := by
  unfold refE at h
  split at h
  · cases h
  · rename_i hm
    obtain ⟨a1, a2, a3, a4, a5, a6, a7⟩ := Decidable.not_not.1 hm
    exact ⟨Nat.zero_le _, by show i.toNat + n.toNat ≤ _; omega, by show 1 ≤ v.toNat; omega, by show v.toNat ≤ _; omega, fun k => (by cases k), Nat.le_refl _⟩
/-- Counts. -/
theorem go_few {f : Nat} {v : List UInt8} : ∀ (m k : Nat) (d : DS), d.FewN f → (j.go v m k d).2.FewN (f + m)
  | 0, k, d, h => h
  | m + 1, k, d, h => by
    rw [JS.go]
    have h1 : (j.put v k d).FewN (f + 1) := h.write _ _
    split
    · exact h1.mono (by omega)
    · exact (go_few m (k + 1) _ h1).mono (by omega)
theorem append_few {f : Nat} (h : d.FewN f) (v : List UInt8) : (j.append d v).2.2.FewN (f + cost v.length) := by
  unfold JS.append
  split
  · exact h.mono (by omega)
  · split
    · exact h.mono (by omega)
    · split
      · exact go_few _ _ _ h
      · exact go_few _ _ _ h
theorem sync_few {f : Nat} (h : d.FewN f) : (j.sync d).2.2.FewN (f + 1) := by
  unfold JS.sync
  split
  · exact h.mono (by omega)
  · split
    · exact h.flush
    · exact h.flush
theorem refE_le (d : DS) (i n v : Int) : refE d i n v ≤ 37 := by
  unfold refE
  repeat' split
  all_goals decide
theorem replay_le (d : DS) (i n v : Int) : (replay d i n v).2 ≤ 37 := by
  unfold replay
  split
  · exact refE_le d i n v
  · exact (by decide : (0 : Nat) ≤ 37)
theorem replay_len (d : DS) (i n v : Int) : (replay d i n v).1.length ≤ 65536 := by
  unfold replay
  split
  · exact Nat.zero_le _
  · rename_i h
    have h : refE d i n v = 0 := Decidable.not_not.1 h
    unfold refE at h
    split at h
    · cases h
    · rename_i hm
      obtain ⟨a1, a2, a3, a4, a5, a6, a7⟩ := Decidable.not_not.1 hm
      exact Nat.le_trans (log_length _ _) (by omega)
end
end J
end Go.Proofs.YtggogaaooacooaaDoor
