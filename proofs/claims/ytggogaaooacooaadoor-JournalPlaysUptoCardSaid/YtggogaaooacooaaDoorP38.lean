/-
  Layer 10, plain: what is left behind each crash; costs against one another.
  Layer 10, plain: appends while no power goes; the fixed facts.
  'make([]byte, n)', of at most 65536.
-/
import Derived.Test.YtggogaaooacooaaDoorP06
import Derived.Test.YtggogaaooacooaaDoorP23
import Derived.Test.YtggogaaooacooaaDoorP18
namespace Go.Proofs.YtggogaaooacooaaDoor
set_option maxRecDepth 100000

namespace J
theorem whole_congr {s t : Nat → Option (List UInt8)} {n i : Nat} {v : List UInt8} (h : ∀ k, k < n → s k = t k) (w : Whole s n i v) : Whole t n i v :=
  ⟨w.small, w.room, fun k hk => (h (i + k) (by have := w.room; omega)).symm.trans (w.each k hk)⟩
theorem rec_congr {s t : Nat → Option (List UInt8)} {n i : Nat} (h : ∀ k, k < n → s k = t k) : rec s n i = rec t n i := by
  cases e : rec s n i with
  | some v => exact (rec_some (whole_congr h (rec_whole e))).symm
  | none =>
    refine (rec_none fun v w => ?_).symm
    rw [rec_some (whole_congr (fun k hk => (h k hk).symm) w)] at e
    cases e
theorem log_congr {s t : Nat → Option (List UInt8)} {n : Nat} (h : ∀ k, k < n → s k = t k) : ∀ (f i : Nat), log s n f i = log t n f i
  | 0, _ => rfl
  | f + 1, i => by
    rw [log, log, rec_congr h]
    cases rec t n i with
    | none => rfl
    | some v => simp only; rw [log_congr h f]
/-- The sectors of the place alone. -/
def cutS (s : Nat → Option (List UInt8)) (n k : Nat) : Option (List UInt8) := if k < n then s k else none
theorem logAll_cut (s : Nat → Option (List UInt8)) (n : Nat) : logAll s n = logAll (cutS s n) n := log_congr (fun _ hk => (if_pos hk).symm) n 0
theorem cut_some {s : Nat → Option (List UInt8)} {n k : Nat} {p : List UInt8} (h : cutS s n k = some p) : k < n ∧ s k = some p := by
  unfold cutS at h
  split at h
  · exact ⟨by assumption, h⟩
  · cases h
section
variable {D : List (List UInt8)} {d : DS} {j : JS} {all : List (List UInt8)} {s : Nat}
theorem alive_fit (h : Alive D all s j d) : total all ≤ j.n := by have := h.life.fit; rwa [stream_length] at this
/-- AHEAD OF THE CRASH: all that was appended. -/
theorem alive_now (h : Alive D all s j d) {o : Nat} (hB : Backs D j.pos j.n o) (ho : o < j.ver) (hv : j.ver ≤ 1099511627776) (hn : j.n < 65536) : logAll (secs d j.pos j.ver) j.n = all := by
  rw [logAll_cut]
  refine log_whole h.small (alive_fit h) (fun k => ?_)
  unfold cutS
  by_cases hk : k < j.n
  · rw [if_pos hk]; exact h.life.now hB ho hv hn hk
  · rw [if_neg hk, List.getElem?_eq_none (by rw [stream_length]; have := alive_fit h; omega)]
/-- What both ways of a life's end have. -/
structure Ended (D : List (List UInt8)) (all : List (List UInt8)) (s : Nat) (j : JS) (d : DS) : Prop where
  life : ∃ U, Life D j.pos j.n j.ver (total (all.take s)) U d ∧ ∀ (k : Nat) (p : List UInt8), U[k]? = some p → (stream all)[k]? = some p
  le : s ≤ all.length
  room : total all ≤ j.n
  small : ∀ v ∈ all, v.length < 4294967296
theorem Alive.ended (h : Alive D all s j d) : Ended D all s j d := ⟨⟨_, h.life, fun _ _ e => e⟩, h.le, alive_fit h, h.small⟩
theorem Gone.ended (h : Gone D all s j d) : Ended D all s j d := ⟨h.life, h.le, h.room, h.small⟩
/-- BEHIND THE CRASH: some first ones, at least those that were synced; no greater stamp. -/
theorem ended_crash (h : Ended D all s j d) {o : Nat} (hB : Backs D j.pos j.n o) (ho : o < j.ver) (hv : j.ver ≤ 1099511627776) (hn : j.n < 65536) (t : FT) :
    Backs (d.crashD t).dur j.pos j.n j.ver ∧ ∃ m, s ≤ m ∧ m ≤ all.length ∧ logAll (secs (d.crashD t) j.pos j.ver) j.n = all.take m := by
  obtain ⟨U, hL, hU⟩ := h.life
  obtain ⟨c1, c2, c3⟩ := hL.crash hB ho hv hn t
  have hr : ∀ k, secs (d.crashD t) j.pos j.ver k = E.openS (stamp j.ver k) ((d.crashD t).dur.getD (j.pos + k) []) := fun k => rfl
  obtain ⟨m, m1, m2, m3⟩ := log_prefix (s := cutS (secs (d.crashD t) j.pos j.ver) j.n) (n := j.n) all 0 h.small (by have := h.room; omega) (fun k p hp => by
    rw [Nat.zero_add] at hp
    obtain ⟨hk, hp⟩ := cut_some hp
    rw [hr k] at hp
    exact hU k p (c2 k p hk hp))
  refine ⟨c1, m, m3 s h.le (fun k hk => ?_), m1, ?_⟩
  · have hlt : k < j.n := by have := total_take_le all s; have := h.room; omega
    rw [Nat.zero_add]
    unfold cutS
    rw [if_pos hlt, hr k]
    exact c3 k hk
  · rw [logAll_cut]
    exact m2 j.n (by omega)
/-- A greater version tells nothing. -/
theorem later_none {d : DS} {i n v u : Nat} (hB : Backs d.dur i n v) (hw : d.ways = []) (hu : v < u) (hv : u ≤ 1099511627776) (hn : n < 65536) : logAll (secs d i u) n = [] := by
  rw [logAll_cut]
  refine log_stop (rec_none fun w ww => ?_)
  have h0 := ww.each 0 (cost_pos _)
  obtain ⟨hk, hp⟩ := cut_some h0
  have hr : secs d i u 0 = E.openS (stamp u 0) (d.dur.getD (i + 0) []) := by
    unfold secs DS.read
    rw [hw]
    rfl
  rw [Nat.add_zero, hr, hB.none hu hv hn (by rw [Nat.add_zero] at hk; exact hk)] at hp
  cases hp
end
/-! ### Costs -/
theorem cost_iff {b m : Nat} (hm : 1 ≤ m) : cost b ≤ m ↔ b ≤ 229 + 233 * (m - 1) := by
  obtain ⟨k, rfl⟩ : ∃ k, m = k + 1 := ⟨m - 1, by omega⟩
  rw [Nat.add_sub_cancel]
  unfold cost
  split <;> omega
theorem cost_largest {n : Nat} (hn : 1 ≤ n) : cost (229 + 233 * (n - 1)) = n ∧ cost (229 + 233 * (n - 1) + 1) = n + 1 := by
  obtain ⟨k, rfl⟩ : ∃ k, n = k + 1 := ⟨n - 1, by omega⟩
  rw [Nat.add_sub_cancel]
  unfold cost
  constructor
  · split <;> omega
  · split <;> omega
/-- A new disk has no stamp. -/
theorem backs_new {m i n : Nat} (h : i + n ≤ m) : Backs (DS.newD m).dur i n 0 := by
  refine ⟨by simpa [DS.newD] using h, fun k hk => ?_, fun k hk => ?_⟩
  · have : (DS.newD m).dur.getD (i + k) [] = zeros := by simp [DS.newD, List.getD, show i + k < m by omega]
    rw [this]; simp [zeros]
  · have : (DS.newD m).dur.getD (i + k) [] = zeros := by simp [DS.newD, List.getD, show i + k < m by omega]
    rw [this]
    unfold E.back zeros
    rw [List.drop_replicate, E.num_zeros]
    omega
end J
end Go.Proofs.YtggogaaooacooaaDoor
namespace Go.Proofs.YtggogaaooacooaaDoor
set_option maxRecDepth 100000

namespace J
section
variable {D : List (List UInt8)} {d : DS} {j : JS} {all : List (List UInt8)} {s : Nat} {v : List UInt8}
theorem go_calm : ∀ (m k : Nat) (d : DS), d.off = false → d.armed < 0 → j.used + (k + m) ≤ j.n → j.pos + j.n ≤ d.dur.length →
    ∃ d2, j.go v m k d = (0, d2) ∧ d2.armed = d.armed ∧ d2.wr = d.wr + m ∧ d2.fl = d.fl ∧ d2.ways.length = d.ways.length + m
  | 0, k, d, ho, ha, hn, hD => ⟨d, rfl, rfl, rfl, rfl, rfl⟩
  | m + 1, k, d, ho, ha, hn, hD => by
    have hr : d.reach ((j.pos + (j.used + k) : Nat) : Int) = 0 := DS.reach_calm ho (by omega)
    have hlen := E.sct_length (stamp j.ver (j.used + k)) (pay_le v k)
    have h0 : ¬ d.armed = 0 := by omega
    have hE : j.putE v k d = 0 := by unfold JS.putE DS.writeE; rw [if_neg (by rw [hr]; simp), if_neg (by rw [hlen]; simp), if_neg h0]
    have hW : j.put v k d = { d with ways := d.ways ++ [(j.pos + (j.used + k), E.sct (stamp j.ver (j.used + k)) (pay v k))], armed := dec d.armed, wr := d.wr + 1 } := by
      unfold JS.put DS.writeD; rw [if_neg (by rw [hr]; simp), if_neg (by rw [hlen]; simp), if_neg h0]; rfl
    have hdec : dec d.armed = d.armed := by unfold dec; rw [if_neg (by omega)]
    rw [JS.go, if_neg (by rw [hE]; simp)]
    obtain ⟨d2, r1, r2, r3, r4, r5⟩ := go_calm m (k + 1) (j.put v k d) (by rw [hW]; exact ho) (by rw [hW]; show dec d.armed < 0; rw [hdec]; exact ha) (by omega) (by rw [hW]; exact hD)
    refine ⟨d2, r1, r2.trans (by rw [hW]; exact hdec), r3.trans (by rw [hW]; show d.wr + 1 + m = _; omega), r4.trans (by rw [hW]), r5.trans (by rw [hW]; simp; omega)⟩
theorem calm_append (h : Alive D all s j d) (ha : d.armed < 0) (v : List UInt8) (hv : v.length < 4294967296) :
    (j.append d v = (17, j, d) ∧ j.n < j.used + cost v.length) ∨
    (∃ d2, j.append d v = (0, { j with used := j.used + cost v.length }, d2) ∧ Alive D (all ++ [v]) s { j with used := j.used + cost v.length } d2 ∧ d2.armed = d.armed ∧ d2.wr = d.wr + cost v.length ∧ d2.fl = d.fl ∧ d2.ways.length = d.ways.length + cost v.length ∧ j.used + cost v.length ≤ j.n) := by
  have hlen : d.dur.length = D.length := h.life.len
  have key : j.used + cost v.length ≤ j.n → ∃ d2, j.append d v = (0, { j with used := j.used + cost v.length }, d2) ∧ d2.armed = d.armed ∧ d2.wr = d.wr + cost v.length ∧ d2.fl = d.fl ∧ d2.ways.length = d.ways.length + cost v.length := fun hr => by
    obtain ⟨d2, r1, r2, r3, r4, r5⟩ := go_calm (j := j) (v := v) (cost v.length) 0 d h.on ha (by omega) (by rw [hlen]; exact h.fit)
    refine ⟨d2, ?_, r2, r3, r4, r5⟩
    unfold JS.append
    rw [if_neg (by rw [alive_down h]; simp), if_neg (by omega), r1, if_neg (by simp)]
  rcases alive_append h v hv with h1 | ⟨d2, e1, e2, _, _, e5⟩ | ⟨d2, e1, _, _, _, _, _⟩
  · exact .inl h1
  · obtain ⟨d3, k1, k2, k3, k4, k5⟩ := key e5
    rw [e1] at k1
    injection k1 with _ k1
    injection k1 with _ k1
    subst k1
    exact .inr ⟨d2, e1, e2, k2, k3, k4, k5, e5⟩
  · exfalso
    by_cases hr : j.used + cost v.length ≤ j.n
    · obtain ⟨d3, k1, _⟩ := key hr
      rw [e1] at k1
      injection k1 with k1
      cases k1
    · unfold JS.append at e1
      rw [if_neg (by rw [alive_down h]; simp), if_pos (by omega)] at e1
      injection e1 with e1
      cases e1
/-- A journal just begun. -/
theorem Alive.start {i n v : Nat} (hw : d.ways = []) (ho : d.off = false) (hf : i + n ≤ d.dur.length) : Alive d.dur [] 0 ⟨i, n, v, 0, false, d.cr⟩ d :=
  ⟨Life.start hw, rfl, Nat.le_refl _, ho, rfl, rfl, hf, fun v hv => by simp at hv⟩
theorem Alive.fine (h : Alive D all s j d) (h1 : 1 ≤ j.ver) (h2 : j.ver ≤ 1099511627776) : Fine j d :=
  ⟨by rw [h.used]; exact alive_fit h, by rw [h.life.len]; exact h.fit, h1, h2, fun k => (by rw [h.dead] at k; cases k), by rw [h.same]; exact Nat.le_refl _⟩
theorem refE_zero {i n v : Nat} (h1 : i + n ≤ d.dur.length) (h2 : n ≤ 65536) (h3 : 1 ≤ v) (h4 : v ≤ 1099511627776) (ho : d.off = false) : refE d i n v = 0 := by
  unfold refE
  rw [if_neg (fun k => k ⟨by omega, by omega, by omega, by omega, by omega, by omega, by omega⟩), if_neg (by rw [ho]; simp)]
theorem replay_zero {i n v : Nat} (h : refE d i n v = 0) : replay d (i : Int) (n : Int) (v : Int) = (logAll (secs d i v) n, 0) := by
  unfold replay; rw [h, if_neg (by decide)]; simp only [Int.toNat_natCast]
/-- AHEAD OF A CRASH: what Replay tells. -/
theorem alive_replay (h : Alive D all s j d) {o : Nat} (hB : Backs D j.pos j.n o) (ho : o < j.ver) (hv : j.ver ≤ 1099511627776) (hn : j.n < 65536) : replay d (j.pos : Int) (j.n : Int) (j.ver : Int) = (all, 0) := by
  rw [replay_zero (refE_zero (by rw [h.life.len]; exact h.fit) (by omega) (by omega) hv h.on), alive_now h hB ho hv hn]

/-- The fixed facts: over a new disk of 8 sectors a log in the sectors 2 to 5. -/
theorem fixed_facts {v1 v2 v3 : List UInt8} (h1 : v1.length = 1) (h2 : v2.length = 300) (h3 : v3.length = 230) :
    ∃ d1 d2, (JS.append ⟨2, 4, 1, 0, false, 0⟩ (DS.newD 8) v1) = (0, ⟨2, 4, 1, 1, false, 0⟩, d1) ∧ (JS.append ⟨2, 4, 1, 1, false, 0⟩ d1 v2) = (0, ⟨2, 4, 1, 3, false, 0⟩, d2) ∧
      Fine ⟨2, 4, 1, 0, false, 0⟩ (DS.newD 8) ∧ Fine ⟨2, 4, 1, 1, false, 0⟩ d1 ∧ Fine ⟨2, 4, 1, 3, false, 0⟩ d2 ∧ d1.FewN 10 ∧ d2.FewN 10 ∧ replay d2 2 4 1 = ([v1, v2], 0) ∧ (JS.append ⟨2, 4, 1, 3, false, 0⟩ d2 v3) = (17, ⟨2, 4, 1, 3, false, 0⟩, d2) := by
  have c1 : cost v1.length = 1 := by rw [h1]; rfl
  have c2 : cost v2.length = 2 := by rw [h2]; rfl
  have c3 : cost v3.length = 2 := by rw [h3]; rfl
  have hl : (DS.newD 8).dur.length = 8 := by simp [DS.newD]
  have A0 : Alive (DS.newD 8).dur [] 0 ⟨2, 4, 1, 0, false, 0⟩ (DS.newD 8) := Alive.start rfl rfl (by rw [hl]; decide)
  have F0 : (DS.newD 8).FewN 0 := ⟨Nat.le_refl _, Nat.le_refl _, Nat.le_refl _, Nat.le_refl _⟩
  rcases calm_append A0 (by decide) v1 (by omega) with ⟨_, h⟩ | ⟨d1, e1, A1, a1, _⟩
  · rw [c1] at h; exact absurd h (by decide)
  have N1 := append_few (j := ⟨2, 4, 1, 0, false, 0⟩) F0 v1
  rw [c1] at e1 A1 N1
  rw [e1] at N1
  rcases calm_append A1 (by rw [a1]; decide) v2 (by omega) with ⟨_, h⟩ | ⟨d2, e2, A2, a2, _⟩
  · rw [c2] at h; exact absurd h (by decide)
  have N2 := append_few (j := ⟨2, 4, 1, 0 + 1, false, 0⟩) N1 v2
  rw [c2] at e2 A2 N2
  rw [e2] at N2
  rcases calm_append A2 (by rw [a2, a1]; decide) v3 (by omega) with ⟨e3, _⟩ | ⟨_, _, _, _, _, _, _, h⟩
  · refine ⟨d1, d2, e1, e2, A0.fine (by decide) (by decide), A1.fine (by decide) (by decide), A2.fine (by decide) (by decide), N1.mono (by decide), N2.mono (by decide), ?_, e3⟩
    exact alive_replay A2 (o := 0) (backs_new (by decide)) (by decide) (by decide) (by decide)
  · rw [c3] at h; exact absurd h (by decide)
end
end J
end Go.Proofs.YtggogaaooacooaaDoor
namespace Go.Proofs.YtggogaaooacooaaDoor
open Go.RowKit Go.WideShapes
set_option maxRecDepth 100000

theorem make_zeros9 (w : World) (c : Nat) (hc : c ≤ 65536) : (Instr.makeSlice 75 (.int .i64 (c : Int)) (.int .i64 (c : Int))).run Tryd.prog w = .ok (.slice (some ⟨w.heap.size, 0, none⟩) c c) (w.alloc (.cells (madeCells #[Value.int .u8 0] c) 5)) := by
  obtain ⟨i0, hi, hz0, hz1, hz2⟩ := info_parts infoU8
  have h := run_make (P := Tryd.prog) w 75 5 i0 (.int .u8 0) Tryd.underlying75 hi hz0 .i64 .i64 c c (by omega) (by omega) (by rw [hz2]; omega) (by omega)
  rw [hz1, Nat.mul_one] at h
  exact h
end Go.Proofs.YtggogaaooacooaaDoor
