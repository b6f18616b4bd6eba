/-
  Layer 10, plain: appends while no power goes; the fixed facts.
  Counts of a disk below two numbers: what is under way, and the others.
  Layer 10, plain: a version's life as the law plays it: counts, what the crash leaves, the versions.
-/
import Derived.Test.YtggogaaooacooaaDoorP07
namespace Go.Proofs.YtggogaaooacooaaDoor
set_option maxRecDepth 100000

namespace J
section
variable {D : List (List UInt8)} {d : DS} {j : JS} {all : List (List UInt8)} {s : Nat} {v : List UInt8}
theorem go_calm : ∀ (m k : Nat) (d : DS), d.off = false → d.armed < 0 → j.used + (k + m) ≤ j.n → j.pos + j.n ≤ d.dur.length →
    ∃ d2, j.go v m k d = (0, d2) ∧ d2.armed = d.armed ∧ d2.wr = d.wr + m ∧ d2.fl = d.fl ∧ d2.ways.length = d.ways.length + m
  | 0, k, d, ho, ha, hn, hD => ⟨d, rfl, rfl, rfl, rfl, rfl⟩
  | m + 1, k, d, ho, ha, hn, hD => by
    have hr : d.reach ((j.pos + (j.used + k) : Nat) : Int) = 0 := DS.reach_calm ho (by omega)
    have hlen := E.sct_length (stamp j.ver (j.used + k)) (pay_le v k)
    have h0 : ¬ d.armed = 0 := by omega
    have hE : j.putE v k d = 0 := by unfold JS.putE DS.writeE; rw [if_neg (by rw [hr]; simp), if_neg (by rw [hlen]; simp), if_neg h0]
    have hW : j.put v k d = { d with ways := d.ways ++ [(j.pos + (j.used + k), E.sct (stamp j.ver (j.used + k)) (pay v k))], armed := dec d.armed, wr := d.wr + 1 } := by
      unfold JS.put DS.writeD; rw [if_neg (by rw [hr]; simp), if_neg (by rw [hlen]; simp), if_neg h0]; rfl
    have hdec : dec d.armed = d.armed := by unfold dec; rw [if_neg (by omega)]
    rw [JS.go, if_neg (by rw [hE]; simp)]
    obtain ⟨d2, r1, r2, r3, r4, r5⟩ := go_calm m (k + 1) (j.put v k d) (by rw [hW]; exact ho) (by rw [hW]; show dec d.armed < 0; rw [hdec]; exact ha) (by omega) (by rw [hW]; exact hD)
    refine ⟨d2, r1, r2.trans (by rw [hW]; exact hdec), r3.trans (by rw [hW]; show d.wr + 1 + m = _; omega), r4.trans (by rw [hW]), r5.trans (by rw [hW]; simp; omega)⟩
theorem calm_append (h : Alive D all s j d) (ha : d.armed < 0) (v : List UInt8) (hv : v.length < 4294967296) :
    (j.append d v = (17, j, d) ∧ j.n < j.used + cost v.length) ∨
    (∃ d2, j.append d v = (0, { j with used := j.used + cost v.length }, d2) ∧ Alive D (all ++ [v]) s { j with used := j.used + cost v.length } d2 ∧ d2.armed = d.armed ∧ d2.wr = d.wr + cost v.length ∧ d2.fl = d.fl ∧ d2.ways.length = d.ways.length + cost v.length ∧ j.used + cost v.length ≤ j.n) := by
  have hlen : d.dur.length = D.length := h.life.len
  have key : j.used + cost v.length ≤ j.n → ∃ d2, j.append d v = (0, { j with used := j.used + cost v.length }, d2) ∧ d2.armed = d.armed ∧ d2.wr = d.wr + cost v.length ∧ d2.fl = d.fl ∧ d2.ways.length = d.ways.length + cost v.length := fun hr => by
    obtain ⟨d2, r1, r2, r3, r4, r5⟩ := go_calm (j := j) (v := v) (cost v.length) 0 d h.on ha (by omega) (by rw [hlen]; exact h.fit)
    refine ⟨d2, ?_, r2, r3, r4, r5⟩
    unfold JS.append
    rw [if_neg (by rw [alive_down h]; simp), if_neg (by omega), r1, if_neg (by simp)]
  rcases alive_append h v hv with h1 | ⟨d2, e1, e2, _, _, e5⟩ | ⟨d2, e1, _, _, _, _, _⟩
  · exact .inl h1
  · obtain ⟨d3, k1, k2, k3, k4, k5⟩ := key e5
    rw [e1] at k1
    injection k1 with _ k1
    injection k1 with _ k1
    subst k1
    exact .inr ⟨d2, e1, e2, k2, k3, k4, k5, e5⟩
  · exfalso
    by_cases hr : j.used + cost v.length ≤ j.n
    · obtain ⟨d3, k1, _⟩ := key hr
      rw [e1] at k1
      injection k1 with k1
      cases k1
    · unfold JS.append at e1
      rw [if_neg (by rw [alive_down h]; simp), if_pos (by omega)] at e1
      injection e1 with e1
      cases e1
/-- A journal just begun. -/
theorem Alive.start {i n v : Nat} (hw : d.ways = []) (ho : d.off = false) (hf : i + n ≤ d.dur.length) : Alive d.dur [] 0 ⟨i, n, v, 0, false, d.cr⟩ d :=
  ⟨Life.start hw, rfl, Nat.le_refl _, ho, rfl, rfl, hf, fun v hv => by simp at hv⟩
theorem Alive.fine (h : Alive D all s j d) (h1 : 1 ≤ j.ver) (h2 : j.ver ≤ 1099511627776) : Fine j d :=
  ⟨by rw [h.used]; exact alive_fit h, by rw [h.life.len]; exact h.fit, h1, h2, fun k => (by rw [h.dead] at k; cases k), by rw [h.same]; exact Nat.le_refl _⟩
theorem refE_zero {i n v : Nat} (h1 : i + n ≤ d.dur.length) (h2 : n ≤ 65536) (h3 : 1 ≤ v) (h4 : v ≤ 1099511627776) (ho : d.off = false) : refE d i n v = 0 := by
  unfold refE
  rw [if_neg (fun k => k ⟨by omega, by omega, by omega, by omega, by omega, by omega, by omega⟩), if_neg (by rw [ho]; simp)]
theorem replay_zero {i n v : Nat} (h : refE d i n v = 0) : replay d (i : Int) (n : Int) (v : Int) = (logAll (secs d i v) n, 0) := by
  unfold replay; rw [h, if_neg (by decide)]; simp only [Int.toNat_natCast]
/-- AHEAD OF A CRASH: what Replay tells. -/
theorem alive_replay (h : Alive D all s j d) {o : Nat} (hB : Backs D j.pos j.n o) (ho : o < j.ver) (hv : j.ver ≤ 1099511627776) (hn : j.n < 65536) : replay d (j.pos : Int) (j.n : Int) (j.ver : Int) = (all, 0) := by
  rw [replay_zero (refE_zero (by rw [h.life.len]; exact h.fit) (by omega) (by omega) hv h.on), alive_now h hB ho hv hn]

/-- The fixed facts: over a new disk of 8 sectors a log in the sectors 2 to 5. -/
theorem fixed_facts {v1 v2 v3 : List UInt8} (h1 : v1.length = 1) (h2 : v2.length = 300) (h3 : v3.length = 230) :
    ∃ d1 d2, (JS.append ⟨2, 4, 1, 0, false, 0⟩ (DS.newD 8) v1) = (0, ⟨2, 4, 1, 1, false, 0⟩, d1) ∧ (JS.append ⟨2, 4, 1, 1, false, 0⟩ d1 v2) = (0, ⟨2, 4, 1, 3, false, 0⟩, d2) ∧
      Fine ⟨2, 4, 1, 0, false, 0⟩ (DS.newD 8) ∧ Fine ⟨2, 4, 1, 1, false, 0⟩ d1 ∧ Fine ⟨2, 4, 1, 3, false, 0⟩ d2 ∧ d1.FewN 10 ∧ d2.FewN 10 ∧ replay d2 2 4 1 = ([v1, v2], 0) ∧ (JS.append ⟨2, 4, 1, 3, false, 0⟩ d2 v3) = (17, ⟨2, 4, 1, 3, false, 0⟩, d2) := by
  have c1 : cost v1.length = 1 := by rw [h1]; rfl
  have c2 : cost v2.length = 2 := by rw [h2]; rfl
  have c3 : cost v3.length = 2 := by rw [h3]; rfl
  have hl : (DS.newD 8).dur.length = 8 := by simp [DS.newD]
  have A0 : Alive (DS.newD 8).dur [] 0 ⟨2, 4, 1, 0, false, 0⟩ (DS.newD 8) := Alive.start rfl rfl (by rw [hl]; decide)
  have F0 : (DS.newD 8).FewN 0 := ⟨Nat.le_refl _, Nat.le_refl _, Nat.le_refl _, Nat.le_refl _⟩
  rcases calm_append A0 (by decide) v1 (by omega) with ⟨_, h⟩ | ⟨d1, e1, A1, a1, _⟩
  · rw [c1] at h; exact absurd h (by decide)
  have N1 := append_few (j := ⟨2, 4, 1, 0, false, 0⟩) F0 v1
  rw [c1] at e1 A1 N1
  rw [e1] at N1
  rcases calm_append A1 (by rw [a1]; decide) v2 (by omega) with ⟨_, h⟩ | ⟨d2, e2, A2, a2, _⟩
  · rw [c2] at h; exact absurd h (by decide)
  have N2 := append_few (j := ⟨2, 4, 1, 0 + 1, false, 0⟩) N1 v2
  rw [c2] at e2 A2 N2
  rw [e2] at N2
  rcases calm_append A2 (by rw [a2, a1]; decide) v3 (by omega) with ⟨e3, _⟩ | ⟨_, _, _, _, _, _, _, h⟩
  · refine ⟨d1, d2, e1, e2, A0.fine (by decide) (by decide), A1.fine (by decide) (by decide), A2.fine (by decide) (by decide), N1.mono (by decide), N2.mono (by decide), ?_, e3⟩
    exact alive_replay A2 (o := 0) (backs_new (by decide)) (by decide) (by decide) (by decide)
  · rw [c3] at h; exact absurd h (by decide)
end
end J
end Go.Proofs.YtggogaaooacooaaDoor
namespace Go.Proofs.YtggogaaooacooaaDoor
set_option maxRecDepth 100000

structure DS.FewM (a m : Nat) (d : DS) : Prop where
  ways : d.ways.length ≤ a
  wr : d.wr ≤ m
  fl : d.fl ≤ m
  cr : d.cr ≤ m
theorem DS.FewM.few {a m : Nat} {d : DS} (h : d.FewM a m) (ha : a ≤ 1073741824) (hm : m ≤ 1152921504606846976) : d.Few := ⟨Nat.le_trans h.ways ha, Nat.le_trans h.wr hm, Nat.le_trans h.fl hm, Nat.le_trans h.cr hm⟩
theorem DS.FewM.mono {a m b n : Nat} {d : DS} (h : d.FewM a m) (ha : a ≤ b) (hm : m ≤ n) : d.FewM b n := ⟨Nat.le_trans h.ways ha, Nat.le_trans h.wr hm, Nat.le_trans h.fl hm, Nat.le_trans h.cr hm⟩
theorem DS.FewN.toM {m : Nat} {d : DS} (h : d.FewN m) : d.FewM m m := ⟨h.ways, h.wr, h.fl, h.cr⟩
theorem DS.FewM.write {a m : Nat} {d : DS} (h : d.FewM a m) (i : Int) (s : List UInt8) : (d.writeD i s).FewM (a + 1) (m + 1) := by
  have h1 := h.ways; have h2 := h.wr; have h3 := h.fl; have h4 := h.cr
  unfold DS.writeD
  split
  · exact h.mono (by omega) (by omega)
  · split
    · exact h.mono (by omega) (by omega)
    · split
      · exact ⟨by simp; omega, by simp only; omega, by simp only; omega, by simp only; omega⟩
      · exact ⟨by simp; omega, by simp only; omega, by simp only; omega, by simp only; omega⟩
end Go.Proofs.YtggogaaooacooaaDoor
namespace Go.Proofs.YtggogaaooacooaaDoor
set_option maxRecDepth 100000

namespace J
section
variable {D : List (List UInt8)} {d : DS} {j : JS} {all : List (List UInt8)} {s : Nat}
theorem Alive.arm (h : Alive D all s j d) (k : Int) : Alive D all s j (d.armD k) := ⟨h.life.same rfl rfl, h.used, h.le, h.on, h.dead, h.same, h.fit, h.small⟩
theorem Life.ways_le {i n v F : Nat} {U : List (List UInt8)} (h : Life D i n v F U d) : d.ways.length ≤ n := by
  rw [h.ways, waysF_length]
  have := h.fit
  omega
theorem len_total : ∀ l : List (List UInt8), l.length ≤ total l
  | [] => Nat.le_refl _
  | v :: r => by
    have := len_total r
    have := cost_pos v.length
    rw [List.length_cons, total]
    omega
/-- The counts within a life that began with m. -/
structure Cnt (m : Nat) (all : List (List UInt8)) (d : DS) : Prop where
  wr : d.wr ≤ m + total all
  fl : d.fl ≤ m + all.length
  cr : d.cr ≤ m
theorem Cnt.few {m : Nat} (h : Cnt m all d) (hA : Alive D all s j d) (hn : j.n ≤ 64) : d.FewM 64 (m + 64) := by
  have h1 := h.wr; have h2 := h.fl; have h3 := h.cr
  have h4 := alive_fit hA
  have h5 := len_total all
  have h6 := hA.life.ways_le
  exact ⟨by omega, by omega, by omega, by omega⟩
/-- At a life's end. -/
structure EndP (D : List (List UInt8)) (all : List (List UInt8)) (s : Nat) (j : JS) (d : DS) (m : Nat) : Prop where
  ended : Ended D all s j d
  few : d.FewM 64 (m + 64)
  cr : d.cr ≤ m
theorem EndP.of_alive {m : Nat} (hA : Alive D all s j d) (hc : Cnt m all d) (hn : j.n ≤ 64) : EndP D all s j d m := ⟨hA.ended, hc.few hA hn, hc.cr⟩
/-- An Append within a life. -/
theorem life_append {m : Nat} (h : Alive D all s j d) (hc : Cnt m all d) (hn : j.n ≤ 64) (v : List UInt8) (hv : v.length < 4294967296) :
    (j.append d v = (17, j, d)) ∨
    (∃ d2, j.append d v = (0, { j with used := j.used + cost v.length }, d2) ∧ Alive D (all ++ [v]) s { j with used := j.used + cost v.length } d2 ∧ Cnt m (all ++ [v]) d2 ∧ d2.fl ≤ m + all.length) ∨
    (∃ d2, j.append d v = (12, { j with dead := true }, d2) ∧ EndP D (all ++ [v]) s { j with dead := true } d2 m ∧ d2.off = true) := by
  have h1 := hc.wr; have h2 := hc.fl; have h3 := hc.cr
  have h4 := alive_fit h
  have h5 := len_total all
  rcases alive_append h v hv with ⟨e, _⟩ | ⟨d2, e, hA, e3, e4, e5⟩ | ⟨d2, e, hG, e2, e3, e4, e5⟩
  · exact .inl e
  · refine .inr (.inl ⟨d2, e, hA, ⟨by rw [total_snoc]; omega, by rw [e3, List.length_append]; omega, ?_⟩, by omega⟩)
    rw [hA.same]
    show j.life ≤ m
    rw [← h.same]; exact h3
  · have hu := hG.room
    rw [total_snoc] at hu
    have hu : total all + cost v.length ≤ j.n := hu
    exact .inr (.inr ⟨d2, e, ⟨hG.ended, ⟨Nat.le_trans e5 hn, by omega, by omega, by omega⟩, by omega⟩, hG.off⟩)
/-- A Sync behind an Append. -/
theorem life_sync {m : Nat} (h : Alive D all s j d) (hc : Cnt m all d) (hf : d.fl + 1 ≤ m + all.length) (hn : j.n ≤ 64) :
    (∃ d2, j.sync d = (0, j, d2) ∧ Alive D all all.length j d2 ∧ Cnt m all d2) ∨
    (∃ d2, j.sync d = (12, { j with dead := true }, d2) ∧ EndP D all s { j with dead := true } d2 m ∧ d2.off = true) := by
  have h1 := hc.wr; have h2 := hc.fl; have h3 := hc.cr
  have h4 := alive_fit h
  have h5 := len_total all
  rcases alive_sync h with ⟨d2, e, hA, e1, e2⟩ | ⟨d2, e, hG, e2, e3, e4, e5⟩
  · refine .inl ⟨d2, e, hA, ⟨by omega, by omega, ?_⟩⟩
    rw [hA.same, ← h.same]; exact h3
  · exact .inr ⟨d2, e, ⟨hG.ended, ⟨Nat.le_trans e5 hn, by omega, by omega, by omega⟩, by omega⟩, hG.off⟩
/-- BEHIND THE CRASH. -/
theorem end_crash {m : Nat} (h : EndP D all s j d m) {o : Nat} (hB : Backs D j.pos j.n o) (ho : o < j.ver) (hv : j.ver ≤ 1099511627776) (hn : j.n < 65536) (t : FT) :
    Backs (d.crashD t).dur j.pos j.n j.ver ∧ (d.crashD t).FewM 0 (m + 64) ∧ (d.crashD t).cr ≤ m + 1 ∧ (d.crashD t).dur.length = D.length ∧ ∃ k, s ≤ k ∧ k ≤ all.length ∧ replay (d.crashD t) (j.pos : Int) (j.n : Int) (j.ver : Int) = (all.take k, 0) := by
  obtain ⟨U, hL, _⟩ := h.ended.life
  obtain ⟨hB2, k, k1, k2, k3⟩ := ended_crash h.ended hB ho hv hn t
  have hlen : (d.crashD t).dur.length = D.length := by rw [crashD_size, hL.len]
  have f := h.few
  have hc := h.cr
  refine ⟨hB2, ⟨Nat.zero_le _, f.wr, f.fl, by show d.cr + 1 ≤ _; omega⟩, by show d.cr + 1 ≤ _; omega, hlen, k, k1, k2, ?_⟩
  rw [replay_zero (refE_zero (by rw [hlen]; exact hB.fit) (by omega) (by omega) hv rfl), k3]
/-- A greater version's log behind a crash. -/
theorem later_replay {i n v u : Nat} (hB : Backs d.dur i n v) (hw : d.ways = []) (ho : d.off = false) (hu : v < u) (hv : u ≤ 1099511627776) (hn : n < 65536) : replay d (i : Int) (n : Int) (u : Int) = ([], 0) := by
  rw [replay_zero (refE_zero hB.fit (by omega) (by omega) hv ho), later_none hB hw hu hv hn]
end
end J
end Go.Proofs.YtggogaaooacooaaDoor
