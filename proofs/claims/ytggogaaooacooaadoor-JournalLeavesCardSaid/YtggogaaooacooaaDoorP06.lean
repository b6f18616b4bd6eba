/-
  Layer 10, plain: a journal over a disk; what a version's life leaves behind a crash.
-/
import Derived.Test.YtggogaaooacooaaDoorP02
import Derived.Test.YtggogaaooacooaaDoorP05
namespace Go.Proofs.YtggogaaooacooaaDoor
set_option maxRecDepth 100000

namespace J
/-- The stamp of a version's sector. -/
def stamp (v k : Nat) : Nat := v * 1048576 + k + 1
theorem stamp_pos (v k : Nat) : stamp v k ≠ 0 := by unfold stamp; omega
theorem stamp_big {v k : Nat} (hv : v ≤ 1099511627776) (hk : k < 65536) : stamp v k < 18446744073709551616 := by unfold stamp; omega
theorem stamp_lt {v k : Nat} (hv : v ≤ 1099511627776) (hk : k < 65536) : stamp v k < 2 ^ 64 := by unfold stamp; omega
theorem stamp_mono {v u : Nat} (h : v < u) (k : Nat) : stamp v k < stamp u k := by unfold stamp; omega

/-! ### Writes at neighbouring places -/
def waysF (a : Nat) (f : Nat → List UInt8) (m : Nat) : List (Nat × List UInt8) := (List.range m).map fun k => (a + k, f k)
theorem waysF_length (a : Nat) (f : Nat → List UInt8) (m : Nat) : (waysF a f m).length = m := by simp [waysF]
theorem waysF_get (a : Nat) (f : Nat → List UInt8) {m k : Nat} (h : k < m) : (waysF a f m)[k]? = some (a + k, f k) := by simp [waysF, h]
theorem waysF_succ (a : Nat) (f : Nat → List UInt8) (m : Nat) : waysF a f (m + 1) = waysF a f m ++ [(a + m, f m)] := by unfold waysF; rw [List.range_succ, List.map_append]; rfl
theorem waysF_congr {a : Nat} {f g : Nat → List UInt8} {m : Nat} (h : ∀ k, k < m → f k = g k) : waysF a f m = waysF a g m := by
  unfold waysF
  exact List.map_congr_left fun k hk => by rw [h k (List.mem_range.1 hk)]
theorem set_ne {D : List (List UInt8)} {p q : Nat} (s : List UInt8) (h : p ≠ q) : (D.set p s).getD q [] = D.getD q [] := by simp [List.getD, h]
theorem set_eq {D : List (List UInt8)} {p : Nat} (s : List UInt8) (h : p < D.length) : (D.set p s).getD p [] = s := by simp [List.getD, h]
theorem flushF (D : List (List UInt8)) (a : Nat) (f : Nat → List UInt8) (M : Nat) : ∀ m, m ≤ M → a + m ≤ D.length → ∀ q, (flushTo D (waysF a f M) m).getD q [] = if a ≤ q ∧ q < a + m then f (q - a) else D.getD q []
  | 0, _, _, q => by rw [flushTo, if_neg (by omega)]
  | m + 1, hm, hD, q => by
    rw [flushTo, waysF_get a f (show m < M by omega)]
    by_cases h : a + m = q
    · subst h
      rw [if_pos ⟨by omega, by omega⟩, show a + m - a = m by omega]
      exact set_eq _ (by rw [flushTo_length]; show a + m < _; omega)
    · refine (set_ne _ (show a + m ≠ q from h)).trans ((flushF D a f M m (by omega) (by omega) q).trans ?_)
      by_cases h2 : a ≤ q ∧ q < a + m
      · rw [if_pos h2, if_pos ⟨by omega, by omega⟩]
      · rw [if_neg h2, if_neg (by omega)]
theorem crashF (t : FT) (D : List (List UInt8)) (a : Nat) (f : Nat → List UInt8) (M : Nat) : ∀ m, m ≤ M → a + m ≤ D.length → ∀ q, (crashTo t D (waysF a f M) m).getD q [] = if a ≤ q ∧ q < a + m then E.tear (D.getD q []) (f (q - a)) (t.done (q - a)) else D.getD q []
  | 0, _, _, q => by rw [crashTo, if_neg (by omega)]
  | m + 1, hm, hD, q => by
    rw [crashTo, waysF_get a f (show m < M by omega)]
    by_cases h : a + m = q
    · subst h
      rw [if_pos ⟨by omega, by omega⟩, show a + m - a = m by omega]
      refine (set_eq _ (by rw [crashTo_length]; show a + m < _; omega)).trans ?_
      show tornBy ((crashTo t D (waysF a f M) m).getD (a + m) []) (f m) (t.done m) = _
      rw [crashF t D a f M m (by omega) (by omega) (a + m), if_neg (by omega)]
      rfl
    · refine (set_ne _ (show a + m ≠ q from h)).trans ((crashF t D a f M m (by omega) (by omega) q).trans ?_)
      by_cases h2 : a ≤ q ∧ q < a + m
      · rw [if_pos h2, if_pos ⟨by omega, by omega⟩]
      · rw [if_neg h2, if_neg (by omega)]
theorem readF (D : List (List UInt8)) (a : Nat) (f : Nat → List UInt8) (M : Nat) (q : Nat) : ∀ m, m ≤ M → readTo D (waysF a f M) q m = if a ≤ q ∧ q < a + m then f (q - a) else D.getD q []
  | 0, _ => by rw [readTo, if_neg (by omega)]
  | m + 1, hm => by
    rw [readTo, waysF_get a f (show m < M by omega)]
    simp only
    by_cases h : a + m = q
    · subst h
      rw [if_pos rfl, if_pos ⟨by omega, by omega⟩, show a + m - a = m by omega]
    · rw [if_neg h, readF D a f M q m (by omega)]
      by_cases h2 : a ≤ q ∧ q < a + m
      · rw [if_pos h2, if_pos ⟨by omega, by omega⟩]
      · rw [if_neg h2, if_neg (by omega)]

/-! ### A version's life -/
/-- No stamp above the version's stands in the log's sectors. -/
structure Backs (D : List (List UInt8)) (i n v : Nat) : Prop where
  fit : i + n ≤ D.length
  len : ∀ k, k < n → (D.getD (i + k) []).length = 256
  back : ∀ k, k < n → E.back (D.getD (i + k) []) ≤ stamp v k
/-- The payloads U were written, the first F of them flushed. -/
structure Life (D : List (List UInt8)) (i n v F : Nat) (U : List (List UInt8)) (d : DS) : Prop where
  len : d.dur.length = D.length
  dur : ∀ q, d.dur.getD q [] = if i ≤ q ∧ q < i + F then E.sct (stamp v (q - i)) (U.getD (q - i) []) else D.getD q []
  ways : d.ways = waysF (i + F) (fun k => E.sct (stamp v (F + k)) (U.getD (F + k) [])) (U.length - F)
  le : F ≤ U.length
  fit : U.length ≤ n
  small : ∀ p ∈ U, p.length ≤ 234
theorem getD_mem {U : List (List UInt8)} {k : Nat} (h : k < U.length) : U.getD k [] ∈ U := by
  rw [List.getD, List.getElem?_eq_getElem h]
  exact List.getElem_mem h
theorem Life.start {d : DS} {i n v : Nat} (h : d.ways = []) : Life d.dur i n v 0 [] d :=
  ⟨rfl, fun q => by rw [if_neg (by omega)], by rw [h]; rfl, Nat.le_refl _, Nat.zero_le _, fun p hp => by simp at hp⟩
section
variable {D : List (List UInt8)} {i n v F : Nat} {U : List (List UInt8)} {d : DS}
theorem Life.put (h : Life D i n v F U d) {p : List UInt8} (hp : p.length ≤ 234) (hn : U.length < n) {d2 : DS} (h1 : d2.dur = d.dur) (h2 : d2.ways = d.ways ++ [(i + U.length, E.sct (stamp v U.length) p)]) : Life D i n v F (U ++ [p]) d2 := by
  have hle := h.le
  have hg : ∀ k, k < U.length → (U ++ [p]).getD k [] = U.getD k [] := fun k hk => by simp [List.getD, List.getElem?_append_left hk]
  refine ⟨by rw [h1]; exact h.len, fun q => ?_, ?_, by simp; omega, by simp; omega, fun x hx => ?_⟩
  · rw [h1, h.dur q]
    by_cases hq : i ≤ q ∧ q < i + F
    · rw [if_pos hq, if_pos hq, hg (q - i) (by omega)]
    · rw [if_neg hq, if_neg hq]
  · rw [h2, h.ways, List.length_append, List.length_singleton, show U.length + 1 - F = (U.length - F) + 1 by omega, waysF_succ]
    congr 1
    · exact waysF_congr fun k hk => by rw [hg (F + k) (by omega)]
    · rw [show i + F + (U.length - F) = i + U.length by omega, show F + (U.length - F) = U.length by omega]
      have : (U ++ [p]).getD U.length [] = p := by simp [List.getD]
      rw [this]
  · rw [List.mem_append] at hx
    rcases hx with hx | hx
    · exact h.small x hx
    · rw [List.mem_singleton.1 hx]; exact hp
theorem Life.same (h : Life D i n v F U d) {d2 : DS} (h1 : d2.dur = d.dur) (h2 : d2.ways = d.ways) : Life D i n v F U d2 :=
  ⟨by rw [h1]; exact h.len, fun q => by rw [h1]; exact h.dur q, by rw [h2]; exact h.ways, h.le, h.fit, h.small⟩
theorem Life.flush (h : Life D i n v F U d) (hD : i + n ≤ D.length) {d2 : DS} (h1 : d2.dur = flushTo d.dur d.ways d.ways.length) (h2 : d2.ways = []) : Life D i n v U.length U d2 := by
  have hle := h.le
  have hf := h.fit
  refine ⟨by rw [h1, flushTo_length]; exact h.len, fun q => ?_, by rw [h2, Nat.sub_self]; rfl, Nat.le_refl _, h.fit, h.small⟩
  rw [h1, h.ways, waysF_length, flushF _ _ _ _ _ (Nat.le_refl _) (by rw [h.len]; omega) q]
  by_cases hq : i + F ≤ q ∧ q < i + F + (U.length - F)
  · rw [if_pos hq, if_pos ⟨by omega, by omega⟩, show F + (q - (i + F)) = q - i by omega]
  · rw [if_neg hq, h.dur q]
    by_cases hq2 : i ≤ q ∧ q < i + F
    · rw [if_pos hq2, if_pos ⟨by omega, by omega⟩]
    · rw [if_neg hq2, if_neg (by omega)]
theorem Life.read (h : Life D i n v F U d) (k : Nat) : d.read (i + k) = if k < U.length then E.sct (stamp v k) (U.getD k []) else D.getD (i + k) [] := by
  have hle := h.le
  unfold DS.read
  rw [h.ways, waysF_length, readF _ _ _ _ _ _ (Nat.le_refl _)]
  by_cases hq : i + F ≤ i + k ∧ i + k < i + F + (U.length - F)
  · rw [if_pos hq, if_pos (by omega), show F + (i + k - (i + F)) = k by omega]
  · rw [if_neg hq, h.dur (i + k)]
    by_cases hq2 : i ≤ i + k ∧ i + k < i + F
    · rw [if_pos hq2, if_pos (by omega), show i + k - i = k by omega]
    · rw [if_neg hq2, if_neg (by omega)]
/-- What counts under the version's stamps ahead of a crash. -/
theorem Life.now (h : Life D i n v F U d) {o : Nat} (hB : Backs D i n o) (ho : o < v) (hv : v ≤ 1099511627776) (hn : n < 65536) {k : Nat} (hk : k < n) : E.openS (stamp v k) (d.read (i + k)) = U[k]? := by
  rw [h.read k]
  by_cases hu : k < U.length
  · rw [if_pos hu, E.open_sct (stamp_pos v k) (h.small _ (getD_mem hu)), List.getD, List.getElem?_eq_getElem hu]
    rfl
  · rw [if_neg hu, List.getElem?_eq_none (by omega)]
    cases hq : E.openS (stamp v k) (D.getD (i + k) []) with
    | none => rfl
    | some p =>
      have hc := (E.counts_ends (stamp_lt hv (by omega)) (show E.counts (stamp v k) (D.getD (i + k) []) = true by unfold E.counts; rw [hq]; rfl)).2.2
      have := hB.back k hk
      have := stamp_mono ho k
      omega
/-- A version of which nothing was written. -/
theorem Backs.none (hB : Backs D i n v) {u : Nat} (hu : v < u) (hv : u ≤ 1099511627776) (hn : n < 65536) {k : Nat} (hk : k < n) : E.openS (stamp u k) (D.getD (i + k) []) = none := by
  cases hq : E.openS (stamp u k) (D.getD (i + k) []) with
  | none => rfl
  | some p =>
    have hc := (E.counts_ends (stamp_lt hv (by omega)) (show E.counts (stamp u k) (D.getD (i + k) []) = true by unfold E.counts; rw [hq]; rfl)).2.2
    have := hB.back k hk
    have := stamp_mono hu k
    omega
/-- BEHIND A CRASH: no greater stamp; what counts is what was written; what was flushed counts. -/
theorem Life.crash (h : Life D i n v F U d) {o : Nat} (hB : Backs D i n o) (ho : o < v) (hv : v ≤ 1099511627776) (hn : n < 65536) (t : FT) :
    Backs (d.crashD t).dur i n v ∧ (∀ k p, k < n → E.openS (stamp v k) ((d.crashD t).dur.getD (i + k) []) = some p → U[k]? = some p) ∧ ∀ k, k < F → (E.openS (stamp v k) ((d.crashD t).dur.getD (i + k) [])).isSome := by
  have hle := h.le
  have hfit := h.fit
  have hDl := hB.fit
  have hd : ∀ k, (d.crashD t).dur.getD (i + k) [] = if F ≤ k ∧ k < U.length then E.tear (D.getD (i + k) []) (E.sct (stamp v k) (U.getD k [])) (t.done (k - F)) else if k < F then E.sct (stamp v k) (U.getD k []) else D.getD (i + k) [] := by
    intro k
    show (crashTo t d.dur d.ways d.ways.length).getD (i + k) [] = _
    rw [h.ways, waysF_length, crashF _ _ _ _ _ _ (Nat.le_refl _) (by rw [h.len]; omega)]
    by_cases hq : i + F ≤ i + k ∧ i + k < i + F + (U.length - F)
    · rw [if_pos hq, if_pos (by omega), h.dur (i + k), if_neg (by omega), show F + (i + k - (i + F)) = k by omega, show i + k - (i + F) = k - F by omega]
    · rw [if_neg hq, if_neg (by omega), h.dur (i + k)]
      by_cases hq2 : i ≤ i + k ∧ i + k < i + F
      · rw [if_pos hq2, if_pos (by omega), show i + k - i = k by omega]
      · rw [if_neg hq2, if_neg (by omega)]
  have hs : ∀ k, k < U.length → (U.getD k []).length ≤ 234 := fun k hk => h.small _ (getD_mem hk)
  have hU : ∀ k, k < U.length → U[k]? = some (U.getD k []) := fun k hk => by rw [List.getD, List.getElem?_eq_getElem hk]; rfl
  have hone : ∀ k, k < n → ((d.crashD t).dur.getD (i + k) []).length = 256 ∧ E.back ((d.crashD t).dur.getD (i + k) []) ≤ stamp v k ∧ ∀ p, E.openS (stamp v k) ((d.crashD t).dur.getD (i + k) []) = some p → U[k]? = some p := by
    intro k hk
    have hst := stamp_lt hv (show k < 65536 by omega)
    have hsm := stamp_mono ho k
    have hbk := hB.back k hk
    rw [hd k]
    by_cases h1 : F ≤ k ∧ k < U.length
    · rw [if_pos h1]
      have hl := E.sct_length (stamp v k) (hs k h1.2)
      obtain ⟨t1, t2, t3⟩ := E.next_tear (hB.len k hk) hl hbk (E.sct_back hst (hs k h1.2)) hsm (t.done_le (k - F))
      refine ⟨E.tear_length (hB.len k hk) hl (t.done_le _), t1, fun p hp => ?_⟩
      have hc : E.counts (stamp v k) (E.tear (D.getD (i + k) []) (E.sct (stamp v k) (U.getD k [])) (t.done (k - F))) = true := by unfold E.counts; rw [hp]; rfl
      rw [t3 hst hc, E.open_sct (stamp_pos v k) (hs k h1.2)] at hp
      rw [hU k h1.2]; exact hp
    · rw [if_neg h1]
      by_cases h2 : k < F
      · rw [if_pos h2]
        refine ⟨E.sct_length _ (hs k (by omega)), by rw [E.sct_back hst (hs k (by omega))]; omega, fun p hp => ?_⟩
        rw [E.open_sct (stamp_pos v k) (hs k (by omega))] at hp
        rw [hU k (by omega)]; exact hp
      · rw [if_neg h2]
        refine ⟨hB.len k hk, by omega, fun p hp => ?_⟩
        have hc := (E.counts_ends hst (show E.counts (stamp v k) (D.getD (i + k) []) = true by unfold E.counts; rw [hp]; rfl)).2.2
        omega
  refine ⟨⟨by rw [crashD_size, h.len]; exact hDl, fun k hk => (hone k hk).1, fun k hk => (hone k hk).2.1⟩, fun k p hk => (hone k hk).2.2 p, fun k hk => ?_⟩
  rw [hd k, if_neg (by omega), if_pos hk, E.open_sct (stamp_pos v k) (hs k (by omega))]
  rfl
end
end J
end Go.Proofs.YtggogaaooacooaaDoor
