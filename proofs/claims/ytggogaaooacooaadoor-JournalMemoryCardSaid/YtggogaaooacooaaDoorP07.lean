/-
  Layer 10, plain: what is left behind each crash; costs against one another.
  Counts of a disk below a number.
  Layer 10, plain: a journal that no call has brought out of its place; what keeps it so.
-/
import Derived.Test.YtggogaaooacooaaDoorP06
import Derived.Test.YtggogaaooacooaaDoorP05
namespace Go.Proofs.YtggogaaooacooaaDoor
set_option maxRecDepth 100000

namespace J
theorem whole_congr {s t : Nat → Option (List UInt8)} {n i : Nat} {v : List UInt8} (h : ∀ k, k < n → s k = t k) (w : Whole s n i v) : Whole t n i v :=
  ⟨w.small, w.room, fun k hk => (h (i + k) (by have := w.room; omega)).symm.trans (w.each k hk)⟩
theorem rec_congr {s t : Nat → Option (List UInt8)} {n i : Nat} (h : ∀ k, k < n → s k = t k) : rec s n i = rec t n i := by
  cases e : rec s n i with
  | some v => exact (rec_some (whole_congr h (rec_whole e))).symm
  | none =>
    refine (rec_none fun v w => ?_).symm
    rw [rec_some (whole_congr (fun k hk => (h k hk).symm) w)] at e
    cases e
theorem log_congr {s t : Nat → Option (List UInt8)} {n : Nat} (h : ∀ k, k < n → s k = t k) : ∀ (f i : Nat), log s n f i = log t n f i
  | 0, _ => rfl
  | f + 1, i => by
    rw [log, log, rec_congr h]
    cases rec t n i with
    | none => rfl
    | some v => simp only; rw [log_congr h f]
/-- The sectors of the place alone. -/
def cutS (s : Nat → Option (List UInt8)) (n k : Nat) : Option (List UInt8) := if k < n then s k else none
theorem logAll_cut (s : Nat → Option (List UInt8)) (n : Nat) : logAll s n = logAll (cutS s n) n := log_congr (fun _ hk => (if_pos hk).symm) n 0
theorem cut_some {s : Nat → Option (List UInt8)} {n k : Nat} {p : List UInt8} (h : cutS s n k = some p) : k < n ∧ s k = some p := by
  unfold cutS at h
  split at h
  · exact ⟨by assumption, h⟩
  · cases h
section
variable {D : List (List UInt8)} {d : DS} {j : JS} {all : List (List UInt8)} {s : Nat}
theorem alive_fit (h : Alive D all s j d) : total all ≤ j.n := by have := h.life.fit; rwa [stream_length] at this
/-- AHEAD OF THE CRASH: all that was appended. -/
theorem alive_now (h : Alive D all s j d) {o : Nat} (hB : Backs D j.pos j.n o) (ho : o < j.ver) (hv : j.ver ≤ 1099511627776) (hn : j.n < 65536) : logAll (secs d j.pos j.ver) j.n = all := by
  rw [logAll_cut]
  refine log_whole h.small (alive_fit h) (fun k => ?_)
  unfold cutS
  by_cases hk : k < j.n
  · rw [if_pos hk]; exact h.life.now hB ho hv hn hk
  · rw [if_neg hk, List.getElem?_eq_none (by rw [stream_length]; have := alive_fit h; omega)]
/-- What both ways of a life's end have. -/
structure Ended (D : List (List UInt8)) (all : List (List UInt8)) (s : Nat) (j : JS) (d : DS) : Prop where
  life : ∃ U, Life D j.pos j.n j.ver (total (all.take s)) U d ∧ ∀ (k : Nat) (p : List UInt8), U[k]? = some p → (stream all)[k]? = some p
  le : s ≤ all.length
  room : total all ≤ j.n
  small : ∀ v ∈ all, v.length < 4294967296
theorem Alive.ended (h : Alive D all s j d) : Ended D all s j d := ⟨⟨_, h.life, fun _ _ e => e⟩, h.le, alive_fit h, h.small⟩
theorem Gone.ended (h : Gone D all s j d) : Ended D all s j d := ⟨h.life, h.le, h.room, h.small⟩
/-- BEHIND THE CRASH: some first ones, at least those that were synced; no greater stamp. -/
theorem ended_crash (h : Ended D all s j d) {o : Nat} (hB : Backs D j.pos j.n o) (ho : o < j.ver) (hv : j.ver ≤ 1099511627776) (hn : j.n < 65536) (t : FT) :
    Backs (d.crashD t).dur j.pos j.n j.ver ∧ ∃ m, s ≤ m ∧ m ≤ all.length ∧ logAll (secs (d.crashD t) j.pos j.ver) j.n = all.take m := by
  obtain ⟨U, hL, hU⟩ := h.life
  obtain ⟨c1, c2, c3⟩ := hL.crash hB ho hv hn t
  have hr : ∀ k, secs (d.crashD t) j.pos j.ver k = E.openS (stamp j.ver k) ((d.crashD t).dur.getD (j.pos + k) []) := fun k => rfl
  obtain ⟨m, m1, m2, m3⟩ := log_prefix (s := cutS (secs (d.crashD t) j.pos j.ver) j.n) (n := j.n) all 0 h.small (by have := h.room; omega) (fun k p hp => by
    rw [Nat.zero_add] at hp
    obtain ⟨hk, hp⟩ := cut_some hp
    rw [hr k] at hp
    exact hU k p (c2 k p hk hp))
  refine ⟨c1, m, m3 s h.le (fun k hk => ?_), m1, ?_⟩
  · have hlt : k < j.n := by have := total_take_le all s; have := h.room; omega
    rw [Nat.zero_add]
    unfold cutS
    rw [if_pos hlt, hr k]
    exact c3 k hk
  · rw [logAll_cut]
    exact m2 j.n (by omega)
/-- A greater version tells nothing. -/
theorem later_none {d : DS} {i n v u : Nat} (hB : Backs d.dur i n v) (hw : d.ways = []) (hu : v < u) (hv : u ≤ 1099511627776) (hn : n < 65536) : logAll (secs d i u) n = [] := by
  rw [logAll_cut]
  refine log_stop (rec_none fun w ww => ?_)
  have h0 := ww.each 0 (cost_pos _)
  obtain ⟨hk, hp⟩ := cut_some h0
  have hr : secs d i u 0 = E.openS (stamp u 0) (d.dur.getD (i + 0) []) := by
    unfold secs DS.read
    rw [hw]
    rfl
  rw [Nat.add_zero, hr, hB.none hu hv hn (by rw [Nat.add_zero] at hk; exact hk)] at hp
  cases hp
end
/-! ### Costs -/
theorem cost_iff {b m : Nat} (hm : 1 ≤ m) : cost b ≤ m ↔ b ≤ 229 + 233 * (m - 1) := by
  obtain ⟨k, rfl⟩ : ∃ k, m = k + 1 := ⟨m - 1, by omega⟩
  rw [Nat.add_sub_cancel]
  unfold cost
  split <;> omega
theorem cost_largest {n : Nat} (hn : 1 ≤ n) : cost (229 + 233 * (n - 1)) = n ∧ cost (229 + 233 * (n - 1) + 1) = n + 1 := by
  obtain ⟨k, rfl⟩ : ∃ k, n = k + 1 := ⟨n - 1, by omega⟩
  rw [Nat.add_sub_cancel]
  unfold cost
  constructor
  · split <;> omega
  · split <;> omega
/-- A new disk has no stamp. -/
theorem backs_new {m i n : Nat} (h : i + n ≤ m) : Backs (DS.newD m).dur i n 0 := by
  refine ⟨by simpa [DS.newD] using h, fun k hk => ?_, fun k hk => ?_⟩
  · have : (DS.newD m).dur.getD (i + k) [] = zeros := by simp [DS.newD, List.getD, show i + k < m by omega]
    rw [this]; simp [zeros]
  · have : (DS.newD m).dur.getD (i + k) [] = zeros := by simp [DS.newD, List.getD, show i + k < m by omega]
    rw [this]
    unfold E.back zeros
    rw [List.drop_replicate, E.num_zeros]
    omega
end J
end Go.Proofs.YtggogaaooacooaaDoor
namespace Go.Proofs.YtggogaaooacooaaDoor
set_option maxRecDepth 100000

/-- No count is above m. -/
structure DS.FewN (m : Nat) (d : DS) : Prop where
  ways : d.ways.length ≤ m
  wr : d.wr ≤ m
  fl : d.fl ≤ m
  cr : d.cr ≤ m
theorem DS.FewN.few {m : Nat} {d : DS} (h : d.FewN m) (hm : m ≤ 1073741824) : d.Few := ⟨Nat.le_trans h.ways hm, Nat.le_trans h.wr (Nat.le_trans hm (by decide)), Nat.le_trans h.fl (Nat.le_trans hm (by decide)), Nat.le_trans h.cr (Nat.le_trans hm (by decide))⟩
theorem DS.FewN.mono {m n : Nat} {d : DS} (h : d.FewN m) (hm : m ≤ n) : d.FewN n := ⟨Nat.le_trans h.ways hm, Nat.le_trans h.wr hm, Nat.le_trans h.fl hm, Nat.le_trans h.cr hm⟩
theorem DS.FewN.write {m : Nat} {d : DS} (h : d.FewN m) (i : Int) (s : List UInt8) : (d.writeD i s).FewN (m + 1) := by
  have h1 := h.ways; have h2 := h.wr; have h3 := h.fl; have h4 := h.cr
  unfold DS.writeD
  split
  · exact h.mono (by omega)
  · split
    · exact h.mono (by omega)
    · split
      · exact ⟨by simp; omega, by simp only; omega, by simp only; omega, by simp only; omega⟩
      · exact ⟨by simp; omega, by simp only; omega, by simp only; omega, by simp only; omega⟩
theorem DS.FewN.flush {m : Nat} {d : DS} (h : d.FewN m) : d.flushD.FewN (m + 1) := by
  have h1 := h.ways; have h2 := h.wr; have h3 := h.fl; have h4 := h.cr
  unfold DS.flushD
  split
  · exact h.mono (by omega)
  · split
    · exact ⟨by simp only; omega, by simp only; omega, by simp only; omega, by simp only; omega⟩
    · exact ⟨by simp, by simp only; omega, by simp only; omega, by simp only; omega⟩
end Go.Proofs.YtggogaaooacooaaDoor
namespace Go.Proofs.YtggogaaooacooaaDoor
set_option maxRecDepth 100000

namespace J
/-- Where a journal may stand over a disk; a dead one's power is off, or its disk has crashed. -/
structure Fine (j : JS) (d : DS) : Prop where
  used : j.used ≤ j.n
  fit : j.pos + j.n ≤ d.dur.length
  v1 : 1 ≤ j.ver
  v2 : j.ver ≤ 1099511627776
  dead : j.dead = true → d.off = true ∨ d.cr ≠ j.life
  life : j.life ≤ d.cr
section
variable {j : JS} {d : DS}
/-- The program's own way to ask. -/
def JS.gone (j : JS) (d : DS) : Bool := d.off || decide (d.cr ≠ j.life)
theorem Fine.down (h : Fine j d) : j.down d = j.gone d := by
  unfold JS.down JS.gone
  cases hd : j.dead with
  | false => simp
  | true =>
    rcases h.dead hd with e | e
    · rw [e]; simp
    · rw [decide_eq_true e]; simp
theorem gone_dead (h : j.gone d = true) : d.off = true ∨ d.cr ≠ j.life := by
  unfold JS.gone at h
  cases ho : d.off with
  | true => exact .inl rfl
  | false => rw [ho] at h; exact .inr (by simpa using h)
theorem gone_not (h : j.gone d = false) : d.off = false ∧ d.cr = j.life := by
  unfold JS.gone at h
  simp only [Bool.or_eq_false_iff] at h
  exact ⟨h.1, by simpa using h.2⟩
theorem Fine.kill (h : Fine j d) (hd : d.off = true ∨ d.cr ≠ j.life) : Fine { j with dead := true } d := ⟨h.used, h.fit, h.v1, h.v2, fun _ => hd, h.life⟩
theorem writeD_off (d : DS) (i : Int) (s : List UInt8) (h : d.off = true) : (d.writeD i s).off = true := by
  unfold DS.writeD
  repeat' split
  all_goals first | exact h | rfl
theorem writeD_cr (d : DS) (i : Int) (s : List UInt8) : (d.writeD i s).cr = d.cr := by
  unfold DS.writeD
  repeat' split
  all_goals rfl
theorem Fine.write (h : Fine j d) (i : Int) (s : List UInt8) : Fine j (d.writeD i s) :=
  ⟨h.used, by rw [writeD_size]; exact h.fit, h.v1, h.v2, fun k => by rw [writeD_cr]; exact (h.dead k).imp (writeD_off d i s) id, by rw [writeD_cr]; exact h.life⟩
theorem flushD_off (d : DS) (h : d.off = true) : d.flushD.off = true := by
  unfold DS.flushD
  rw [h]; exact h
theorem flushD_cr (d : DS) : d.flushD.cr = d.cr := by
  unfold DS.flushD
  repeat' split
  all_goals rfl
theorem Fine.flush (h : Fine j d) : Fine j d.flushD :=
  ⟨h.used, by rw [flushD_size]; exact h.fit, h.v1, h.v2, fun k => by rw [flushD_cr]; exact (h.dead k).imp (flushD_off d) id, by rw [flushD_cr]; exact h.life⟩
theorem Fine.arm (h : Fine j d) (k : Int) : Fine j (d.armD k) := ⟨h.used, h.fit, h.v1, h.v2, h.dead, h.life⟩
theorem Fine.crash (h : Fine j d) (f : FT) : Fine j (d.crashD f) := by
  have hl := h.life
  refine ⟨h.used, by rw [crashD_size]; exact h.fit, h.v1, h.v2, fun _ => .inr ?_, ?_⟩
  · show d.cr + 1 ≠ j.life
    omega
  · show j.life ≤ d.cr + 1
    omega
/-- The writes of a record: all of them, or the power went. -/
theorem go_fine {v : List UInt8} : ∀ (m k : Nat) (d : DS), d.off = false → j.used + (k + m) ≤ j.n → j.pos + j.n ≤ d.dur.length →
    ((j.go v m k d).1 = 0 ∨ ((j.go v m k d).1 = 12 ∧ (j.go v m k d).2.off = true)) ∧ (j.go v m k d).2.dur = d.dur ∧ (j.go v m k d).2.cr = d.cr
  | 0, k, d, ho, hn, hD => ⟨.inl rfl, rfl, rfl⟩
  | m + 1, k, d, ho, hn, hD => by
    have hr : d.reach ((j.pos + (j.used + k) : Nat) : Int) = 0 := DS.reach_calm ho (by omega)
    have hlen := E.sct_length (stamp j.ver (j.used + k)) (pay_le v k)
    rw [JS.go]
    by_cases h0 : d.armed = 0
    · have hE : j.putE v k d = 12 := by unfold JS.putE DS.writeE; rw [if_neg (by rw [hr]; simp), if_neg (by rw [hlen]; simp), if_pos h0]
      have hW : j.put v k d = { d with ways := d.ways ++ [(j.pos + (j.used + k), E.sct (stamp j.ver (j.used + k)) (pay v k))], off := true } := by
        unfold JS.put DS.writeD; rw [if_neg (by rw [hr]; simp), if_neg (by rw [hlen]; simp), if_pos h0]; rfl
      rw [if_pos (by rw [hE]; decide)]
      exact ⟨.inr ⟨hE, by rw [hW]⟩, by rw [hW], by rw [hW]⟩
    · have hE : j.putE v k d = 0 := by unfold JS.putE DS.writeE; rw [if_neg (by rw [hr]; simp), if_neg (by rw [hlen]; simp), if_neg h0]
      have hW : j.put v k d = { d with ways := d.ways ++ [(j.pos + (j.used + k), E.sct (stamp j.ver (j.used + k)) (pay v k))], armed := dec d.armed, wr := d.wr + 1 } := by
        unfold JS.put DS.writeD; rw [if_neg (by rw [hr]; simp), if_neg (by rw [hlen]; simp), if_neg h0]; rfl
      rw [if_neg (by rw [hE]; simp)]
      obtain ⟨r1, r2, r3⟩ := go_fine (v := v) m (k + 1) (j.put v k d) (by rw [hW]; exact ho) (by omega) (by rw [hW]; exact hD)
      exact ⟨r1, r2.trans (by rw [hW]), r3.trans (by rw [hW])⟩
theorem Fine.append (h : Fine j d) (v : List UInt8) : Fine (j.append d v).2.1 (j.append d v).2.2 ∧ (j.append d v).1 ≤ 37 := by
  unfold JS.append
  split
  · rename_i hd
    rw [h.down] at hd
    exact ⟨h.kill (gone_dead hd), (by decide : (12 : Nat) ≤ 37)⟩
  · rename_i hd
    split
    · exact ⟨h, (by decide : (17 : Nat) ≤ 37)⟩
    · rename_i hf
      have hg := gone_not (by rw [← h.down]; simpa using hd)
      obtain ⟨r1, r2, r3⟩ := go_fine (j := j) (v := v) (cost v.length) 0 d hg.1 (by omega) h.fit
      split
      · rename_i he
        rcases r1 with r1 | ⟨r1, ro⟩
        · exact absurd r1 he
        · exact ⟨⟨h.used, by rw [r2]; exact h.fit, h.v1, h.v2, fun _ => .inl ro, by rw [r3]; exact h.life⟩, by simp only [r1]; decide⟩
      · refine ⟨⟨?_, by rw [r2]; exact h.fit, h.v1, h.v2, fun k => ?_, by rw [r3]; exact h.life⟩, (by decide : (0 : Nat) ≤ 37)⟩
        · show j.used + cost v.length ≤ j.n
          omega
        · rcases h.dead k with e | e
          · rw [hg.1] at e; cases e
          · exact absurd hg.2 e
theorem Fine.sync (h : Fine j d) : Fine (j.sync d).2.1 (j.sync d).2.2 ∧ (j.sync d).1 ≤ 37 := by
  unfold JS.sync
  split
  · rename_i hd
    rw [h.down] at hd
    exact ⟨h.kill (gone_dead hd), (by decide : (12 : Nat) ≤ 37)⟩
  · rename_i hd
    have hg := gone_not (by rw [← h.down]; simpa using hd)
    split
    · rename_i he
      have h0 : d.armed = 0 := by
        unfold DS.flushE at he
        rw [hg.1, if_neg (by simp)] at he
        split at he
        · assumption
        · exact absurd rfl he
      have hF : d.flushD = { d with off := true } := by unfold DS.flushD; rw [hg.1, if_neg (by simp), if_pos h0]
      refine ⟨⟨h.used, by rw [flushD_size]; exact h.fit, h.v1, h.v2, fun _ => .inl (by rw [hF]), by rw [flushD_cr]; exact h.life⟩, ?_⟩
      have hE : d.flushE ≤ 37 := by
        unfold DS.flushE
        repeat' split
        all_goals decide
      exact hE
    · exact ⟨h.flush, (by decide : (0 : Nat) ≤ 37)⟩
theorem Fine.begin {i n v : Int} (h : refE d i n v = 0) : Fine ⟨i.toNat, n.toNat, v.toNat, 0, false, d.cr⟩ d := by
  unfold refE at h
  split at h
  · cases h
  · rename_i hm
    obtain ⟨a1, a2, a3, a4, a5, a6, a7⟩ := Decidable.not_not.1 hm
    exact ⟨Nat.zero_le _, by show i.toNat + n.toNat ≤ _; omega, by show 1 ≤ v.toNat; omega, by show v.toNat ≤ _; omega, fun k => (by cases k), Nat.le_refl _⟩
/-- Counts. -/
theorem go_few {f : Nat} {v : List UInt8} : ∀ (m k : Nat) (d : DS), d.FewN f → (j.go v m k d).2.FewN (f + m)
  | 0, k, d, h => h
  | m + 1, k, d, h => by
    rw [JS.go]
    have h1 : (j.put v k d).FewN (f + 1) := h.write _ _
    split
    · exact h1.mono (by omega)
    · exact (go_few m (k + 1) _ h1).mono (by omega)
theorem append_few {f : Nat} (h : d.FewN f) (v : List UInt8) : (j.append d v).2.2.FewN (f + cost v.length) := by
  unfold JS.append
  split
  · exact h.mono (by omega)
  · split
    · exact h.mono (by omega)
    · split
      · exact go_few _ _ _ h
      · exact go_few _ _ _ h
theorem sync_few {f : Nat} (h : d.FewN f) : (j.sync d).2.2.FewN (f + 1) := by
  unfold JS.sync
  split
  · exact h.mono (by omega)
  · split
    · exact h.flush
    · exact h.flush
theorem refE_le (d : DS) (i n v : Int) : refE d i n v ≤ 37 := by
  unfold refE
  repeat' split
  all_goals decide
theorem replay_le (d : DS) (i n v : Int) : (replay d i n v).2 ≤ 37 := by
  unfold replay
  split
  · exact refE_le d i n v
  · exact (by decide : (0 : Nat) ≤ 37)
theorem replay_len (d : DS) (i n v : Int) : (replay d i n v).1.length ≤ 65536 := by
  unfold replay
  split
  · exact Nat.zero_le _
  · rename_i h
    have h : refE d i n v = 0 := Decidable.not_not.1 h
    unfold refE at h
    split at h
    · cases h
    · rename_i hm
      obtain ⟨a1, a2, a3, a4, a5, a6, a7⟩ := Decidable.not_not.1 hm
      exact Nat.le_trans (log_length _ _) (by omega)
end
end J
end Go.Proofs.YtggogaaooacooaaDoor
