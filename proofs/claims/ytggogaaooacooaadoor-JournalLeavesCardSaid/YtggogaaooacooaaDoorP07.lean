/-
  Layer 10, plain: what a journal's calls make of a disk; appends and syncs within a version's life.
  A text's value, of its bytes.
  Appends to rows of the call's own, with no mark.
-/
import Derived.Test.YtggogaaooacooaaDoorP06
import Derived.Test.YtggogaaooacooaaDoorP04
namespace Go.Proofs.YtggogaaooacooaaDoor
set_option maxRecDepth 100000

namespace J
/-- A journal. -/
structure JS where
  pos : Nat
  n : Nat
  ver : Nat
  used : Nat
  dead : Bool
  life : Nat
/-- May it be a log's place and version? -/
def may (d : DS) (i n v : Int) : Prop := 0 ≤ i ∧ 0 ≤ n ∧ i ≤ d.dur.length ∧ n ≤ d.dur.length - i ∧ n ≤ 65536 ∧ 1 ≤ v ∧ v ≤ 1099511627776
instance (d : DS) (i n v : Int) : Decidable (may d i n v) := inferInstanceAs (Decidable (_ ∧ _))
/-- What counts of a log's sectors. -/
def secs (d : DS) (i v : Nat) (k : Nat) : Option (List UInt8) := E.openS (stamp v k) (d.read (i + k))
/-- What Begin and Replay refuse. -/
def refE (d : DS) (i n v : Int) : Nat := if ¬ may d i n v then 6 else if d.off = true then 12 else 0
noncomputable def replay (d : DS) (i n v : Int) : List (List UInt8) × Nat := if refE d i n v ≠ 0 then ([], refE d i n v) else (logAll (secs d i.toNat v.toNat) n.toNat, 0)
def JS.down (j : JS) (d : DS) : Bool := j.dead || d.off || decide (d.cr ≠ j.life)
/-- The write of piece k. -/
def JS.put (j : JS) (v : List UInt8) (k : Nat) (d : DS) : DS := d.writeD ((j.pos + (j.used + k) : Nat) : Int) (E.sct (stamp j.ver (j.used + k)) (pay v k))
def JS.putE (j : JS) (v : List UInt8) (k : Nat) (d : DS) : Nat := d.writeE ((j.pos + (j.used + k) : Nat) : Int) (E.sct (stamp j.ver (j.used + k)) (pay v k))
/-- The writes of pieces k, k + 1, .. (fuel). -/
def JS.go (j : JS) (v : List UInt8) : Nat → Nat → DS → Nat × DS
  | 0, _, d => (0, d)
  | m + 1, k, d => if j.putE v k d ≠ 0 then (j.putE v k d, j.put v k d) else JS.go j v m (k + 1) (j.put v k d)
def JS.append (j : JS) (d : DS) (v : List UInt8) : Nat × JS × DS :=
  if j.down d = true then (12, { j with dead := true }, d)
  else if j.n < j.used + cost v.length then (17, j, d)
  else if (j.go v (cost v.length) 0 d).1 ≠ 0 then ((j.go v (cost v.length) 0 d).1, { j with dead := true }, (j.go v (cost v.length) 0 d).2)
  else (0, { j with used := j.used + cost v.length }, (j.go v (cost v.length) 0 d).2)
def JS.sync (j : JS) (d : DS) : Nat × JS × DS :=
  if j.down d = true then (12, { j with dead := true }, d)
  else if d.flushE ≠ 0 then (d.flushE, { j with dead := true }, d.flushD) else (0, j, d.flushD)
def JS.fits (j : JS) (b : Int) : Bool := decide (0 ≤ b ∧ j.used + cost b.toNat ≤ j.n)

/-- Pieces k, k + 1, .., m of them. -/
def seg (v : List UInt8) (k m : Nat) : List (List UInt8) := (List.range m).map fun q => pay v (k + q)
theorem seg_length (v : List UInt8) (k m : Nat) : (seg v k m).length = m := by simp [seg]
theorem seg_get (v : List UInt8) (k : Nat) {m q : Nat} (h : q < m) : (seg v k m)[q]? = some (pay v (k + q)) := by simp [seg, h]
theorem seg_succ (v : List UInt8) (k m : Nat) : seg v k (m + 1) = pay v k :: seg v (k + 1) m := by
  unfold seg
  rw [List.range_succ_eq_map, List.map_cons, List.map_map]
  congr 1
  exact List.map_congr_left fun q _ => by show pay v (k + (q + 1)) = _; congr 1; omega
theorem seg_all (v : List UInt8) : seg v 0 (cost v.length) = (List.range (cost v.length)).map (pay v) := by unfold seg; simp
theorem stream_snoc (l : List (List UInt8)) (v : List UInt8) : stream (l ++ [v]) = stream l ++ seg v 0 (cost v.length) := by
  rw [stream_append, stream, stream, List.append_nil, seg_all]
theorem total_snoc (l : List (List UInt8)) (v : List UInt8) : total (l ++ [v]) = total l + cost v.length := by rw [total_append, total, total, Nat.add_zero]
/-- Some of a record's pieces are a beginning of them all. -/
theorem stream_part (l : List (List UInt8)) (v : List UInt8) {m : Nat} (hm : m ≤ cost v.length) {k : Nat} {p : List UInt8} (h : (stream l ++ seg v 0 m)[k]? = some p) : (stream (l ++ [v]))[k]? = some p := by
  rw [stream_snoc]
  by_cases hk : k < (stream l).length
  · rw [List.getElem?_append_left hk] at h ⊢
    exact h
  · rw [List.getElem?_append_right (by omega)] at h ⊢
    have hq : k - (stream l).length < m := by
      have := (List.getElem?_eq_some_iff.1 h).1
      rwa [seg_length] at this
    rw [seg_get v 0 hq] at h
    rw [seg_get v 0 (by omega)]
    exact h

/-- What a step leaves of the counts. -/
structure Steps (a b c : Nat) (d d2 : DS) : Prop where
  ways : d2.ways.length ≤ d.ways.length + a
  wr : d2.wr ≤ d.wr + b
  fl : d2.fl ≤ d.fl + c
  cr : d2.cr = d.cr
section
variable {D : List (List UInt8)} {F : Nat} {U : List (List UInt8)} {d : DS} {j : JS} {v : List UInt8}
/-- THE WRITES OF A RECORD. -/
theorem go_life : ∀ (m k : Nat) (d : DS) (U : List (List UInt8)), Life D j.pos j.n j.ver F U d → d.off = false → U.length = j.used + k → j.used + (k + m) ≤ j.n → j.pos + j.n ≤ D.length →
    (∃ d2, j.go v m k d = (0, d2) ∧ d2.off = false ∧ Life D j.pos j.n j.ver F (U ++ seg v k m) d2 ∧ d2.cr = d.cr ∧ d2.fl = d.fl ∧ d2.wr ≤ d.wr + m) ∨
    (∃ q d2, q < m ∧ j.go v m k d = (12, d2) ∧ d2.off = true ∧ Life D j.pos j.n j.ver F (U ++ seg v k (q + 1)) d2 ∧ d2.cr = d.cr ∧ d2.fl = d.fl ∧ d2.wr ≤ d.wr + m)
  | 0, k, d, U, hL, ho, hU, hn, hD => by
    left
    refine ⟨d, rfl, ho, ?_, rfl, rfl, by omega⟩
    rw [show seg v k 0 = [] from rfl, List.append_nil]
    exact hL
  | m + 1, k, d, U, hL, ho, hU, hn, hD => by
    have hr : d.reach ((j.pos + (j.used + k) : Nat) : Int) = 0 := DS.reach_calm ho (by rw [hL.len]; omega)
    have hlen := E.sct_length (stamp j.ver (j.used + k)) (pay_le v k)
    rw [JS.go]
    by_cases h0 : d.armed = 0
    · right
      have hE : j.putE v k d = 12 := by unfold JS.putE DS.writeE; rw [if_neg (by rw [hr]; simp), if_neg (by rw [hlen]; simp), if_pos h0]
      have hW : j.put v k d = { d with ways := d.ways ++ [(j.pos + (j.used + k), E.sct (stamp j.ver (j.used + k)) (pay v k))], off := true } := by
        unfold JS.put DS.writeD; rw [if_neg (by rw [hr]; simp), if_neg (by rw [hlen]; simp), if_pos h0]; rfl
      refine ⟨0, j.put v k d, by omega, by rw [if_pos (by rw [hE]; decide), hE], by rw [hW], ?_, by rw [hW], by rw [hW], by rw [hW]; show d.wr ≤ _; omega⟩
      rw [seg_succ, show seg v (k + 1) 0 = [] from rfl]
      exact hL.put (pay_le v k) (by omega) (by rw [hW]) (by rw [hW, hU])
    · have hE : j.putE v k d = 0 := by unfold JS.putE DS.writeE; rw [if_neg (by rw [hr]; simp), if_neg (by rw [hlen]; simp), if_neg h0]
      have hW : j.put v k d = { d with ways := d.ways ++ [(j.pos + (j.used + k), E.sct (stamp j.ver (j.used + k)) (pay v k))], armed := dec d.armed, wr := d.wr + 1 } := by
        unfold JS.put DS.writeD; rw [if_neg (by rw [hr]; simp), if_neg (by rw [hlen]; simp), if_neg h0]; rfl
      rw [if_neg (by rw [hE]; simp)]
      have hL2 := hL.put (pay_le v k) (by omega) (d2 := j.put v k d) (by rw [hW]) (by rw [hW, hU])
      have c1 : (j.put v k d).cr = d.cr := by rw [hW]
      have c2 : (j.put v k d).fl = d.fl := by rw [hW]
      have c3 : (j.put v k d).wr = d.wr + 1 := by rw [hW]
      have c4 : (j.put v k d).off = false := by rw [hW]; exact ho
      have hs : ∀ x, U ++ seg v k (x + 1) = (U ++ [pay v k]) ++ seg v (k + 1) x := fun x => by rw [seg_succ]; simp
      rcases go_life m (k + 1) _ _ hL2 c4 (by rw [List.length_append, hU]; rfl) (by omega) hD with ⟨d2, e1, e2, e3, e4, e5, e6⟩ | ⟨q, d2, e0, e1, e2, e3, e4, e5, e6⟩
      · left
        exact ⟨d2, e1, e2, by rw [hs]; exact e3, e4.trans c1, e5.trans c2, by omega⟩
      · right
        exact ⟨q + 1, d2, by omega, e1, e2, by rw [hs]; exact e3, e4.trans c1, e5.trans c2, by omega⟩

/-- Within a life: all records appended, the first s of them synced. -/
structure Alive (D : List (List UInt8)) (all : List (List UInt8)) (s : Nat) (j : JS) (d : DS) : Prop where
  life : Life D j.pos j.n j.ver (total (all.take s)) (stream all) d
  used : j.used = total all
  le : s ≤ all.length
  on : d.off = false
  dead : j.dead = false
  same : d.cr = j.life
  fit : j.pos + j.n ≤ D.length
  small : ∀ v ∈ all, v.length < 4294967296
/-- Down: the last record perhaps in part. -/
structure Gone (D : List (List UInt8)) (all : List (List UInt8)) (s : Nat) (j : JS) (d : DS) : Prop where
  life : ∃ U, Life D j.pos j.n j.ver (total (all.take s)) U d ∧ ∀ (k : Nat) (p : List UInt8), U[k]? = some p → (stream all)[k]? = some p
  le : s ≤ all.length
  room : total all ≤ j.n
  off : d.off = true
  small : ∀ v ∈ all, v.length < 4294967296
theorem total_take_le : ∀ (l : List (List UInt8)) (s : Nat), total (l.take s) ≤ total l
  | [], s => by simp
  | v :: r, 0 => by simp [total]
  | v :: r, s + 1 => by
    have := total_take_le r s
    rw [List.take_succ_cons, total, total]
    omega
theorem alive_down {all : List (List UInt8)} {s : Nat} (h : Alive D all s j d) : j.down d = false := by
  unfold JS.down
  rw [h.dead, h.on, h.same]
  simp
/-- AN APPEND within a life. -/
theorem alive_append {all : List (List UInt8)} {s : Nat} (h : Alive D all s j d) (v : List UInt8) (hv : v.length < 4294967296) :
    (j.append d v = (17, j, d) ∧ j.n < j.used + cost v.length) ∨
    (∃ d2, j.append d v = (0, { j with used := j.used + cost v.length }, d2) ∧ Alive D (all ++ [v]) s { j with used := j.used + cost v.length } d2 ∧ d2.fl = d.fl ∧ d2.wr ≤ d.wr + cost v.length ∧ j.used + cost v.length ≤ j.n) ∨
    (∃ d2, j.append d v = (12, { j with dead := true }, d2) ∧ Gone D (all ++ [v]) s { j with dead := true } d2 ∧ d2.cr = d.cr ∧ d2.fl = d.fl ∧ d2.wr ≤ d.wr + cost v.length ∧ d2.ways.length ≤ j.n) := by
  have hdn := alive_down h
  by_cases hr : j.n < j.used + cost v.length
  · left
    exact ⟨by unfold JS.append; rw [if_neg (by rw [hdn]; simp), if_pos hr], hr⟩
  · right
    have ht : (all ++ [v]).take s = all.take s := List.take_append_of_le_length h.le
    have hsm : ∀ u ∈ all ++ [v], u.length < 4294967296 := fun u hu => by
      rw [List.mem_append] at hu
      rcases hu with hu | hu
      · exact h.small u hu
      · rw [List.mem_singleton.1 hu]; exact hv
    rcases go_life (j := j) (v := v) (cost v.length) 0 d (stream all) h.life h.on (by rw [stream_length, h.used]; rfl) (by omega) h.fit with ⟨d2, e1, e2, e3, e4, e5, e6⟩ | ⟨q, d2, e0, e1, e2, e3, e4, e5, e6⟩
    · left
      refine ⟨d2, by unfold JS.append; rw [if_neg (by rw [hdn]; simp), if_neg hr, e1, if_neg (by simp)], ⟨?_, by show j.used + _ = _; rw [total_snoc, h.used], by rw [List.length_append]; exact Nat.le_trans h.le (by omega), e2, h.dead, e4.trans h.same, h.fit, hsm⟩, e5, e6, by omega⟩
      rw [ht, stream_snoc]
      exact e3
    · right
      refine ⟨d2, by unfold JS.append; rw [if_neg (by rw [hdn]; simp), if_neg hr, e1, if_pos (by simp)], ⟨⟨_, ?_, fun k p hp => stream_part all v (show q + 1 ≤ cost v.length by omega) hp⟩, by rw [List.length_append]; exact Nat.le_trans h.le (by omega), by rw [total_snoc, ← h.used]; show _ ≤ j.n; omega, e2, hsm⟩, e4, e5, e6, ?_⟩
      · rw [ht]; exact e3
      · have := e3.ways
        rw [this, waysF_length]
        have := e3.fit
        omega
/-- A SYNC within a life. -/
theorem alive_sync {all : List (List UInt8)} {s : Nat} (h : Alive D all s j d) :
    (∃ d2, j.sync d = (0, j, d2) ∧ Alive D all all.length j d2 ∧ d2.fl = d.fl + 1 ∧ d2.wr = d.wr) ∨
    (∃ d2, j.sync d = (12, { j with dead := true }, d2) ∧ Gone D all s { j with dead := true } d2 ∧ d2.cr = d.cr ∧ d2.fl = d.fl ∧ d2.wr = d.wr ∧ d2.ways.length ≤ j.n) := by
  have hdn := alive_down h
  have ho := h.on
  by_cases h0 : d.armed = 0
  · right
    have hE : d.flushE = 12 := by unfold DS.flushE; rw [ho, if_neg (by simp), if_pos h0]
    have hF : d.flushD = { d with off := true } := by unfold DS.flushD; rw [ho, if_neg (by simp), if_pos h0]
    refine ⟨d.flushD, by unfold JS.sync; rw [if_neg (by rw [hdn]; simp), if_pos (by rw [hE]; decide), hE], ⟨⟨stream all, h.life.same (by rw [hF]) (by rw [hF]), fun k p hp => hp⟩, h.le, ?_, by rw [hF], h.small⟩, by rw [hF], by rw [hF], by rw [hF], ?_⟩
    · have := h.life.fit
      rw [stream_length] at this
      exact this
    · have := h.life.ways
      rw [hF]
      show d.ways.length ≤ _
      rw [this, waysF_length]
      have := h.life.fit
      omega
  · left
    have hE : d.flushE = 0 := by unfold DS.flushE; rw [ho, if_neg (by simp), if_neg h0]
    have hF : d.flushD = { d with dur := flushTo d.dur d.ways d.ways.length, ways := [], armed := dec d.armed, fl := d.fl + 1 } := by unfold DS.flushD; rw [ho, if_neg (by simp), if_neg h0]
    refine ⟨d.flushD, by unfold JS.sync; rw [if_neg (by rw [hdn]; simp), if_neg (by rw [hE]; simp)], ⟨?_, h.used, Nat.le_refl _, by rw [hF]; exact ho, h.dead, by rw [hF]; exact h.same, h.fit, h.small⟩, by rw [hF], by rw [hF]⟩
    rw [List.take_length, ← stream_length]
    exact h.life.flush h.fit (by rw [hF]) (by rw [hF])
end
end J
end Go.Proofs.YtggogaaooacooaaDoor
namespace Go.Proofs.YtggogaaooacooaaDoor

/-- A text's value. -/
def strV (s : List UInt8) : Value := .string ⟨s.toArray⟩
end Go.Proofs.YtggogaaooacooaaDoor
namespace Go.Proofs.YtggogaaooacooaaDoor
open Go.RowKit
set_option maxRecDepth 100000

theorem ownsRow_kept {S : Nat → Prop} {w w' : World} {base : Nat} {e : TypeId} {size : Nat} {v : Value} {n : Nat} {xs : List Value} (h : w.ownsRow base e size v n xs) (hk : Keeps S w w') (hn : ∀ k, v.ownBlock = some k → ¬ S k) : w'.ownsRow base e size v n xs := by
  refine ⟨h.1, ?_⟩
  rcases h.2 with h2 | ⟨g, cap, cur, rfl, hb, hg, rest⟩
  · exact .inl h2
  · exact .inr ⟨g, cap, cur, rfl, hb, by rw [hk.block g (lt_of_block hg) (hn g rfl)]; exact hg, rest⟩

theorem ownsRow_lt {w : World} {base : Nat} {e : TypeId} {size : Nat} {v : Value} {n : Nat} {xs : List Value} (h : w.ownsRow base e size v n xs) {k : Nat} (hk : v.ownBlock = some k) : k < w.heap.size := ownsRowF_lt (World.ownsRowF_of h) hk

/-- A store into one of an owned row's cells. -/
theorem ownsRow_store {w : World} {base : Nat} {e : TypeId} {g cap n i : Nat} {xs : List Value} (h : w.ownsRow base e 1 (.slice (some ⟨g, 0, none⟩) n cap) n xs) (_hi : i < n) (u : Value) : (w.setCell ⟨g, i, none⟩ u).ownsRow base e 1 (.slice (some ⟨g, 0, none⟩) n cap) n (xs.set i u) := by
  refine ⟨by simpa using h.1, ?_⟩
  rcases h.2 with ⟨h2, _⟩ | ⟨g', cap', cur, e2, hb, hg, h3, h4, h5, h6⟩
  · cases h2
  · injection e2 with e2 e3 e4
    injection e2 with e2
    injection e2 with e2
    subst e2 e4
    refine .inr ⟨g, cap, cur.setIfInBounds i u, rfl, hb, ?_, h3, h4, by simpa using h5, ?_⟩
    · rw [setCell_eq_setRow w g i cur e (0, 0) u hg]
      exact setRow_heap w g _ _ e _ hg
    · rw [← h6]
      simp [List.take_set]

section
variable {P : Program} (w : World)

/-- APPEND OF CELLS to an owned row: the row stays, or is a new block. -/
theorem run_append_cells0 (t ty e : TypeId) (i : TypeInfo) (z : Value) (size bytes : Nat) (ht : P.underlying t = some (.slice e)) (hi : P.info? e = some i) (hz : i.zero = some z)
    (hsize : i.size = size) (hby : i.bytes = bytes) (hzs : z.cells.size = size) (hsz : 0 < size)
    (v : Value) (n : Nat) (xs : List Value) (hown : w.ownsRow 0 e size v n xs)
    (a : Addr) (m c : Nat) (news : List Value) (hl : news.length = m * size) (hnews : ∀ j u, news[j]? = some u → w.cell? (a.add j) = some u) (h1 : ∀ u ∈ news, u.oneCell' = true)
    (h63 : n + m ≤ maxLen) (hbytes : (n + m) * bytes ≤ 140737488355328) :
    ∃ v' w', (Builtin.append_ #[t, t] ty #[v, .slice (some a) m c]).run P w = .ok v' w' ∧ w'.ownsRow 0 e size v' (n + m) (xs ++ news) ∧ w.grownBy w' v.ownBlock ∧ Later w v.ownBlock v'.ownBlock ∧
      (v' = .slice none 0 0 ↔ v = .slice none 0 0 ∧ m = 0) := by
  subst hsize
  subst hby
  have hsmall : n + m ≤ 9223372036854775807 := by simp only [maxLen] at h63; omega
  have hlen : (xs ++ news).length = (n + m) * i.size := by rw [List.length_append, hown.1, hl, Nat.add_mul]
  have grown : ∀ (old : Nat), old < n + m → ∀ (row : Option Nat),
      (w.drew.alloc (.cells (xs.toArray ++ news.toArray ++ Builtin.zeroCells z.cells (grownCap w (n + m) old e - (n + m))) e)).ownsRow 0 e i.size
        (.slice (some ⟨w.heap.size, 0, none⟩) (n + m) (grownCap w (n + m) old e)) (n + m) (xs ++ news) ∧
      w.grownBy (w.drew.alloc (.cells (xs.toArray ++ news.toArray ++ Builtin.zeroCells z.cells (grownCap w (n + m) old e - (n + m))) e)) row := by
    intro old ho row
    have hge := grownCap_ge w (n + m) old e
    have hcm : grownCap w (n + m) old e ≤ maxLen := grownCap_le_maxLen w (n + m) old e h63
    refine ⟨⟨hlen, .inr ⟨w.heap.size, _, _, rfl, Nat.zero_le _, heap_alloc_new w.drew _, hge, hcm, ?_, ?_⟩⟩, ⟨rfl, rfl, rfl, by simp, fun k hk _ => Below.heap_alloc w.drew _ k hk⟩⟩
    · simp only [Array.size_append, List.size_toArray, size_zeroCells, hzs, hown.1, hl, ← Nat.add_mul]
      congr 1
      omega
    · simp only [Array.toList_append, List.append_assoc]
      rw [← List.append_assoc, ← hlen]
      exact List.take_left
  rcases hown.2 with ⟨rfl, rfl⟩ | ⟨g, cap, cur, rfl, hbg, hg, hnc, hcm, hcs, htake⟩
  · have hx : xs = [] := List.eq_nil_of_length_eq_zero (by simpa using hown.1)
    subst hx
    by_cases hm : m = 0
    · subst hm
      have hn : news = [] := List.eq_nil_of_length_eq_zero (by simpa using hl)
      subst hn
      refine ⟨.slice none 0 0, w, ?_, World.ownsRow_nil w 0 e i.size, ⟨rfl, rfl, rfl, Nat.le_refl _, fun _ _ _ => rfl⟩, .inl rfl, by simp⟩
      simp [Builtin.append_, run_underlying ht, sizeOf, typeInfo, hi, Builtin.lenOf, Builtin.firstCells, loadCells, loadCellsFrom]
    · have hr := run_append_nil (P := P) w t ty e i z ht hi hz a m c news hl hnews (by omega) (by omega) (by have hb := hbytes; simp only [Nat.zero_add] at hb; omega)
      have hgr := grown 0 (by omega) (Value.ownBlock (.slice none 0 0))
      simp only [Nat.zero_add, List.nil_append, Array.empty_append] at hgr ⊢
      exact ⟨_, _, hr, hgr.1, hgr.2, .inr ⟨_, rfl, Nat.le_refl _⟩, by simp [hm]⟩
  · by_cases hroom : n + m ≤ cap
    · have hfit : n * i.size + news.length ≤ cur.size := by rw [hl, hcs, ← Nat.add_mul]; exact Nat.mul_le_mul_right _ hroom
      have hr := run_append_roomF (P := P) w t ty e i ht hi g n cap cur (0, 0) hg (Nat.zero_le _) a m c news hl hnews h1 hroom hfit
      refine ⟨_, _, hr, ⟨hlen, .inr ⟨g, cap, _, rfl, hbg, setRow_heap w g cur _ e _ hg, hroom, hcm, ?_, ?_⟩⟩, ⟨rfl, rfl, rfl, by simp, fun k _ hk => setRow_other w g k _ (fun e => hk (by simp [Value.ownBlock, e]))⟩, .inl rfl, by simp⟩
      · simp only [List.size_toArray, List.length_append, List.length_take, List.length_drop, Array.length_toList]
        omega
      · rw [htake, ← hlen]
        exact List.take_left
    · have holds : ∀ j u, xs[j]? = some u → w.cell? ((⟨g, 0, none⟩ : Addr).add j) = some u := (World.ownsRowF_of hown).cells (g := g) rfl
      have hr := run_append_grow (P := P) w t ty e i z ht hi hz ⟨g, 0, none⟩ n cap xs hown.1 holds a m c news hl hnews (by omega) (by omega) (growslice_fits (by omega) hbytes)
      have hgr := grown cap (by omega) (Value.ownBlock (.slice (some ⟨g, 0, none⟩) n cap))
      exact ⟨_, _, hr, hgr.1, hgr.2, .inr ⟨_, rfl, Nat.le_refl _⟩, by simp⟩

theorem wpList_append_cells0 {ops : Array Oper} {rest : List Oper} {o : Oper} {a : Act} {Q : Exit → Act → World → Prop} (hgd : o.guard = none) (s x : Operand) (t : TypeId)
    (ho : o.op = .call { callee := .builtin .append, args := #[s, x], argTypes := #[t, t] })
    (e : TypeId) (i : TypeInfo) (z : Value) (size bytes : Nat) (ht : P.underlying t = some (.slice e)) (hi : P.info? e = some i) (hz : i.zero = some z)
    (hsize : i.size = size) (hby : i.bytes = bytes) (hzs : z.cells.size = size) (hsz : 0 < size)
    (v : Value) (n : Nat) (xs : List Value) (hs : a.eval s = v) (hown : w.ownsRow 0 e size v n xs)
    (ad : Addr) (m c : Nat) (news : List Value) (hx : a.eval x = .slice (some ad) m c) (hl : news.length = m * size) (hnews : ∀ j u, news[j]? = some u → w.cell? (ad.add j) = some u) (h1 : ∀ u ∈ news, u.oneCell' = true)
    (h63 : n + m ≤ maxLen) (hbytes : (n + m) * bytes ≤ 140737488355328)
    (h : ∀ v' w', w'.ownsRow 0 e size v' (n + m) (xs ++ news) → w.grownBy w' v.ownBlock → Later w v.ownBlock v'.ownBlock → (v' = .slice none 0 0 ↔ v = .slice none 0 0 ∧ m = 0) → wpList P ops Q rest (a.put o.dst v') w') : wpList P ops Q (o :: rest) a w := by
  refine wpList_plain hgd fun K hK => ?_
  obtain ⟨v', w', hr, h2, h3, h4, h5⟩ := run_append_cells0 (P := P) w t o.type e i z size bytes ht hi hz hsize hby hzs hsz v n xs hown ad m c news hl hnews h1 h63 hbytes
  unfold Oper.wp execOp
  simp only [ho, resolve, invoke, builtin, Sem.run_bind, Sem.run_pure, Result.andThen_ok, List.map_toArray, List.map_cons, List.map_nil, hs, hx, hr]
  exact hK _ _ (h v' w' h2 h3 h4 h5)

end
end Go.Proofs.YtggogaaooacooaaDoor
