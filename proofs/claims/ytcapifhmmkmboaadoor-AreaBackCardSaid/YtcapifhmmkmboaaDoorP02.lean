/-
  Appends to rows of the call's own, with no mark.
  An append of a list that came in (nil or not), one cell an element, of no program.
  A disk, plain: what is durable, what is under way, and what each call makes of it. No word of a dump.
-/
import Derived.Test.YtcapifhmmkmboaaDoorP01
import Derived.OwnWalk
import Derived.Deep.AppendLies
namespace Go.Proofs.YtcapifhmmkmboaaDoor
open Go.RowKit
set_option maxRecDepth 100000

theorem ownsRow_kept {S : Nat → Prop} {w w' : World} {base : Nat} {e : TypeId} {size : Nat} {v : Value} {n : Nat} {xs : List Value} (h : w.ownsRow base e size v n xs) (hk : Keeps S w w') (hn : ∀ k, v.ownBlock = some k → ¬ S k) : w'.ownsRow base e size v n xs := by
  refine ⟨h.1, ?_⟩
  rcases h.2 with h2 | ⟨g, cap, cur, rfl, hb, hg, rest⟩
  · exact .inl h2
  · exact .inr ⟨g, cap, cur, rfl, hb, by rw [hk.block g (lt_of_block hg) (hn g rfl)]; exact hg, rest⟩

theorem ownsRow_lt {w : World} {base : Nat} {e : TypeId} {size : Nat} {v : Value} {n : Nat} {xs : List Value} (h : w.ownsRow base e size v n xs) {k : Nat} (hk : v.ownBlock = some k) : k < w.heap.size := ownsRowF_lt (World.ownsRowF_of h) hk

/-- A store into one of an owned row's cells. -/
theorem ownsRow_store {w : World} {base : Nat} {e : TypeId} {g cap n i : Nat} {xs : List Value} (h : w.ownsRow base e 1 (.slice (some ⟨g, 0, none⟩) n cap) n xs) (_hi : i < n) (u : Value) : (w.setCell ⟨g, i, none⟩ u).ownsRow base e 1 (.slice (some ⟨g, 0, none⟩) n cap) n (xs.set i u) := by
  refine ⟨by simpa using h.1, ?_⟩
  rcases h.2 with ⟨h2, _⟩ | ⟨g', cap', cur, e2, hb, hg, h3, h4, h5, h6⟩
  · cases h2
  · injection e2 with e2 e3 e4
    injection e2 with e2
    injection e2 with e2
    subst e2 e4
    refine .inr ⟨g, cap, cur.setIfInBounds i u, rfl, hb, ?_, h3, h4, by simpa using h5, ?_⟩
    · rw [setCell_eq_setRow w g i cur e (0, 0) u hg]
      exact setRow_heap w g _ _ e _ hg
    · rw [← h6]
      simp [List.take_set]

section
variable {P : Program} (w : World)

/-- APPEND OF CELLS to an owned row: the row stays, or is a new block. -/
theorem run_append_cells0 (t ty e : TypeId) (i : TypeInfo) (z : Value) (size bytes : Nat) (ht : P.underlying t = some (.slice e)) (hi : P.info? e = some i) (hz : i.zero = some z)
    (hsize : i.size = size) (hby : i.bytes = bytes) (hzs : z.cells.size = size) (hsz : 0 < size)
    (v : Value) (n : Nat) (xs : List Value) (hown : w.ownsRow 0 e size v n xs)
    (a : Addr) (m c : Nat) (news : List Value) (hl : news.length = m * size) (hnews : ∀ j u, news[j]? = some u → w.cell? (a.add j) = some u) (h1 : ∀ u ∈ news, u.oneCell' = true)
    (h63 : n + m ≤ maxLen) (hbytes : (n + m) * bytes ≤ 140737488355328) :
    ∃ v' w', (Builtin.append_ #[t, t] ty #[v, .slice (some a) m c]).run P w = .ok v' w' ∧ w'.ownsRow 0 e size v' (n + m) (xs ++ news) ∧ w.grownBy w' v.ownBlock ∧ Later w v.ownBlock v'.ownBlock ∧
      (v' = .slice none 0 0 ↔ v = .slice none 0 0 ∧ m = 0) := by
  subst hsize
  subst hby
  have hsmall : n + m ≤ 9223372036854775807 := by simp only [maxLen] at h63; omega
  have hlen : (xs ++ news).length = (n + m) * i.size := by rw [List.length_append, hown.1, hl, Nat.add_mul]
  have grown : ∀ (old : Nat), old < n + m → ∀ (row : Option Nat),
      (w.drew.alloc (.cells (xs.toArray ++ news.toArray ++ Builtin.zeroCells z.cells (grownCap w (n + m) old e - (n + m))) e)).ownsRow 0 e i.size
        (.slice (some ⟨w.heap.size, 0, none⟩) (n + m) (grownCap w (n + m) old e)) (n + m) (xs ++ news) ∧
      w.grownBy (w.drew.alloc (.cells (xs.toArray ++ news.toArray ++ Builtin.zeroCells z.cells (grownCap w (n + m) old e - (n + m))) e)) row := by
    intro old ho row
    have hge := grownCap_ge w (n + m) old e
    have hcm : grownCap w (n + m) old e ≤ maxLen := grownCap_le_maxLen w (n + m) old e h63
    refine ⟨⟨hlen, .inr ⟨w.heap.size, _, _, rfl, Nat.zero_le _, heap_alloc_new w.drew _, hge, hcm, ?_, ?_⟩⟩, ⟨rfl, rfl, rfl, by simp, fun k hk _ => Below.heap_alloc w.drew _ k hk⟩⟩
    · simp only [Array.size_append, List.size_toArray, size_zeroCells, hzs, hown.1, hl, ← Nat.add_mul]
      congr 1
      omega
    · simp only [Array.toList_append, List.append_assoc]
      rw [← List.append_assoc, ← hlen]
      exact List.take_left
  rcases hown.2 with ⟨rfl, rfl⟩ | ⟨g, cap, cur, rfl, hbg, hg, hnc, hcm, hcs, htake⟩
  · have hx : xs = [] := List.eq_nil_of_length_eq_zero (by simpa using hown.1)
    subst hx
    by_cases hm : m = 0
    · subst hm
      have hn : news = [] := List.eq_nil_of_length_eq_zero (by simpa using hl)
      subst hn
      refine ⟨.slice none 0 0, w, ?_, World.ownsRow_nil w 0 e i.size, ⟨rfl, rfl, rfl, Nat.le_refl _, fun _ _ _ => rfl⟩, .inl rfl, by simp⟩
      simp [Builtin.append_, run_underlying ht, sizeOf, typeInfo, hi, Builtin.lenOf, Builtin.firstCells, loadCells, loadCellsFrom]
    · have hr := run_append_nil (P := P) w t ty e i z ht hi hz a m c news hl hnews (by omega) (by omega) (by have hb := hbytes; simp only [Nat.zero_add] at hb; omega)
      have hgr := grown 0 (by omega) (Value.ownBlock (.slice none 0 0))
      simp only [Nat.zero_add, List.nil_append, Array.empty_append] at hgr ⊢
      exact ⟨_, _, hr, hgr.1, hgr.2, .inr ⟨_, rfl, Nat.le_refl _⟩, by simp [hm]⟩
  · by_cases hroom : n + m ≤ cap
    · have hfit : n * i.size + news.length ≤ cur.size := by rw [hl, hcs, ← Nat.add_mul]; exact Nat.mul_le_mul_right _ hroom
      have hr := run_append_roomF (P := P) w t ty e i ht hi g n cap cur (0, 0) hg (Nat.zero_le _) a m c news hl hnews h1 hroom hfit
      refine ⟨_, _, hr, ⟨hlen, .inr ⟨g, cap, _, rfl, hbg, setRow_heap w g cur _ e _ hg, hroom, hcm, ?_, ?_⟩⟩, ⟨rfl, rfl, rfl, by simp, fun k _ hk => setRow_other w g k _ (fun e => hk (by simp [Value.ownBlock, e]))⟩, .inl rfl, by simp⟩
      · simp only [List.size_toArray, List.length_append, List.length_take, List.length_drop, Array.length_toList]
        omega
      · rw [htake, ← hlen]
        exact List.take_left
    · have holds : ∀ j u, xs[j]? = some u → w.cell? ((⟨g, 0, none⟩ : Addr).add j) = some u := (World.ownsRowF_of hown).cells (g := g) rfl
      have hr := run_append_grow (P := P) w t ty e i z ht hi hz ⟨g, 0, none⟩ n cap xs hown.1 holds a m c news hl hnews (by omega) (by omega) (growslice_fits (by omega) hbytes)
      have hgr := grown cap (by omega) (Value.ownBlock (.slice (some ⟨g, 0, none⟩) n cap))
      exact ⟨_, _, hr, hgr.1, hgr.2, .inr ⟨_, rfl, Nat.le_refl _⟩, by simp⟩

theorem wpList_append_cells0 {ops : Array Oper} {rest : List Oper} {o : Oper} {a : Act} {Q : Exit → Act → World → Prop} (hgd : o.guard = none) (s x : Operand) (t : TypeId)
    (ho : o.op = .call { callee := .builtin .append, args := #[s, x], argTypes := #[t, t] })
    (e : TypeId) (i : TypeInfo) (z : Value) (size bytes : Nat) (ht : P.underlying t = some (.slice e)) (hi : P.info? e = some i) (hz : i.zero = some z)
    (hsize : i.size = size) (hby : i.bytes = bytes) (hzs : z.cells.size = size) (hsz : 0 < size)
    (v : Value) (n : Nat) (xs : List Value) (hs : a.eval s = v) (hown : w.ownsRow 0 e size v n xs)
    (ad : Addr) (m c : Nat) (news : List Value) (hx : a.eval x = .slice (some ad) m c) (hl : news.length = m * size) (hnews : ∀ j u, news[j]? = some u → w.cell? (ad.add j) = some u) (h1 : ∀ u ∈ news, u.oneCell' = true)
    (h63 : n + m ≤ maxLen) (hbytes : (n + m) * bytes ≤ 140737488355328)
    (h : ∀ v' w', w'.ownsRow 0 e size v' (n + m) (xs ++ news) → w.grownBy w' v.ownBlock → Later w v.ownBlock v'.ownBlock → (v' = .slice none 0 0 ↔ v = .slice none 0 0 ∧ m = 0) → wpList P ops Q rest (a.put o.dst v') w') : wpList P ops Q (o :: rest) a w := by
  refine wpList_plain hgd fun K hK => ?_
  obtain ⟨v', w', hr, h2, h3, h4, h5⟩ := run_append_cells0 (P := P) w t o.type e i z size bytes ht hi hz hsize hby hzs hsz v n xs hown ad m c news hl hnews h1 h63 hbytes
  unfold Oper.wp execOp
  simp only [ho, resolve, invoke, builtin, Sem.run_bind, Sem.run_pure, Result.andThen_ok, List.map_toArray, List.map_cons, List.map_nil, hs, hx, hr]
  exact hK _ _ (h v' w' h2 h3 h4 h5)

end
end Go.Proofs.YtcapifhmmkmboaaDoor
namespace Go.Proofs.YtcapifhmmkmboaaDoor
open Go.RowKit
set_option maxRecDepth 100000

section
variable {P : Program} (w : World)
/-- Nothing is appended from nil. -/
theorem run_append_none (t ty e : TypeId) (i : TypeInfo) (ht : P.underlying t = some (.slice e)) (hi : P.info? e = some i) (v : Value) (n : Nat) (xs : List Value) (size : Nat) (hown : w.ownsRow 0 e size v n xs) (c : Nat) :
    (Builtin.append_ #[t, t] ty #[v, .slice none 0 c]).run P w = .ok v w := by
  rcases hown.2 with ⟨rfl, rfl⟩ | ⟨g, cap, cur, rfl, _, _, hnc, _⟩
  · simp [Builtin.append_, run_underlying ht, sizeOf, typeInfo, hi, Builtin.lenOf, Builtin.firstCells]
  · simp [Builtin.append_, run_underlying ht, sizeOf, typeInfo, hi, Builtin.lenOf, Builtin.firstCells, hnc, storeCells]

/-- APPEND OF A LIST THAT CAME IN (nil or not), one cell an element. -/
theorem run_append_list (t ty e : TypeId) (i : TypeInfo) (z : Value) (bytes : Nat) (ht : P.underlying t = some (.slice e)) (hi : P.info? e = some i) (hz : i.zero = some z) (hsize : i.size = 1) (hby : i.bytes = bytes) (hzs : z.cells.size = 1)
    (v : Value) (n : Nat) (xs : List Value) (hown : w.ownsRow 0 e 1 v n xs) (a : Option Addr) (c : Nat) (news : List Value) (ha : news ≠ [] → ∃ ad, a = some ad ∧ ∀ (j : Nat) u, news[j]? = some u → w.cell? (ad.add j) = some u) (h1 : ∀ u ∈ news, u.oneCell' = true)
    (h63 : n + news.length ≤ maxLen) (hbytes : (n + news.length) * bytes ≤ 140737488355328) :
    ∃ v' w', (Builtin.append_ #[t, t] ty #[v, .slice a news.length c]).run P w = .ok v' w' ∧ w'.ownsRow 0 e 1 v' (n + news.length) (xs ++ news) ∧ w.grownBy w' v.ownBlock ∧ Later w v.ownBlock v'.ownBlock := by
  by_cases hn : news = []
  · subst hn
    cases a with
    | none => exact ⟨v, w, run_append_none w t ty e i ht hi v n xs 1 hown c, by simpa using hown, ⟨rfl, rfl, rfl, Nat.le_refl _, fun _ _ _ => rfl⟩, .inl rfl⟩
    | some ad =>
      obtain ⟨v', w', h2, h3, h4, h5, _⟩ := run_append_cells0 (P := P) w t ty e i z 1 bytes ht hi hz hsize hby hzs (by decide) v n xs hown ad 0 c [] rfl (fun j u h => by simp at h) (fun u h => by cases h) h63 hbytes
      exact ⟨v', w', h2, h3, h4, h5⟩
  · obtain ⟨ad, rfl, hc⟩ := ha hn
    obtain ⟨v', w', h2, h3, h4, h5, _⟩ := run_append_cells0 (P := P) w t ty e i z 1 bytes ht hi hz hsize hby hzs (by decide) v n xs hown ad news.length c news (by simp) hc h1 h63 hbytes
    exact ⟨v', w', h2, h3, h4, h5⟩

theorem wpList_append_list {ops : Array Oper} {rest : List Oper} {o : Oper} {a : Act} {Q : Exit → Act → World → Prop} (hgd : o.guard = none) (s x : Operand) (t : TypeId)
    (ho : o.op = .call { callee := .builtin .append, args := #[s, x], argTypes := #[t, t] })
    (e : TypeId) (i : TypeInfo) (z : Value) (bytes : Nat) (ht : P.underlying t = some (.slice e)) (hi : P.info? e = some i) (hz : i.zero = some z)
    (hsize : i.size = 1) (hby : i.bytes = bytes) (hzs : z.cells.size = 1)
    (v : Value) (n : Nat) (xs : List Value) (hs : a.eval s = v) (hown : w.ownsRow 0 e 1 v n xs)
    (ad : Option Addr) (m c : Nat) (news : List Value) (hx : a.eval x = .slice ad m c) (hm : m = news.length) (ha : news ≠ [] → ∃ p, ad = some p ∧ ∀ (j : Nat) u, news[j]? = some u → w.cell? (p.add j) = some u) (h1 : ∀ u ∈ news, u.oneCell' = true)
    (h63 : n + news.length ≤ maxLen) (hbytes : (n + news.length) * bytes ≤ 140737488355328)
    (h : ∀ v' w', w'.ownsRow 0 e 1 v' (n + news.length) (xs ++ news) → w.grownBy w' v.ownBlock → Later w v.ownBlock v'.ownBlock → wpList P ops Q rest (a.put o.dst v') w') : wpList P ops Q (o :: rest) a w := by
  refine wpList_plain hgd fun K hK => ?_
  subst hm
  obtain ⟨v', w', hr, h2, h3, h4⟩ := run_append_list (P := P) w t o.type e i z bytes ht hi hz hsize hby hzs v n xs hown ad c news ha h1 h63 hbytes
  unfold Oper.wp execOp
  simp only [ho, resolve, invoke, builtin, Sem.run_bind, Sem.run_pure, Result.andThen_ok, List.map_toArray, List.map_cons, List.map_nil, hs, hx, hr]
  exact hK _ _ (h v' w' h2 h3 h4)
end

theorem ownsRow_zero {w : World} {base : Nat} {e : TypeId} {size : Nat} {v : Value} {n : Nat} {xs : List Value} (h : w.ownsRow base e size v n xs) : w.ownsRow 0 e size v n xs := by
  refine ⟨h.1, ?_⟩
  rcases h.2 with h2 | ⟨g, cap, cur, q, _, r⟩
  · exact .inl h2
  · exact .inr ⟨g, cap, cur, q, Nat.zero_le _, r⟩
end Go.Proofs.YtcapifhmmkmboaaDoor
namespace Go.Proofs.YtcapifhmmkmboaaDoor
set_option maxRecDepth 100000

/-- A disk. -/
structure DS where
  dur : List (List UInt8)
  ways : List (Nat × List UInt8)
  armed : Int
  off : Bool
  wr : Nat
  fl : Nat
  cr : Nat

/-- A fate. -/
structure FT where
  kept : List Bool
  torn : Int
  bytes : Int

structure DS.Ok (d : DS) : Prop where
  pos : 1 ≤ d.dur.length
  le : d.dur.length ≤ 65536
  each : ∀ (i : Nat) (s : List UInt8), d.dur[i]? = some s → s.length = 256
  way : ∀ (k : Nat) (w : Nat × List UInt8), d.ways[k]? = some w → w.1 < d.dur.length ∧ w.2.length = 256
  a0 : -1 ≤ d.armed
  a1 : d.armed ≤ 9223372036854775807

/-- No call has been made so often that a count ends. -/
structure DS.Few (d : DS) : Prop where
  ways : d.ways.length ≤ 1073741824
  wr : d.wr ≤ 1152921504606846976
  fl : d.fl ≤ 1152921504606846976
  cr : d.cr ≤ 1152921504606846976

/-- The number of the last write at p. -/
def lastAt (ws : List (Nat × List UInt8)) (p : Nat) : Option Nat := (List.range ws.length).foldl (fun r k => if (ws[k]?).map (·.1) = some p then some k else r) none

theorem lastAt_nil (p : Nat) : lastAt [] p = none := rfl
theorem lastAt_snoc (ws : List (Nat × List UInt8)) (w : Nat × List UInt8) (p : Nat) : lastAt (ws ++ [w]) p = if w.1 = p then some ws.length else lastAt ws p := by
  unfold lastAt
  rw [List.length_append, List.length_singleton, List.range_succ, List.foldl_append, List.foldl_cons, List.foldl_nil]
  have hc : ∀ (l : List Nat) (r0 : Option Nat), (∀ k ∈ l, k < ws.length) → l.foldl (fun r k => if ((ws ++ [w])[k]?).map (·.1) = some p then some k else r) r0 = l.foldl (fun r k => if (ws[k]?).map (·.1) = some p then some k else r) r0 := by
    intro l
    induction l with
    | nil => intro r0 _; rfl
    | cons a l ih =>
      intro r0 h
      rw [List.foldl_cons, List.foldl_cons, List.getElem?_append_left (h a (by simp))]
      exact ih _ (fun k hk => h k (by simp [hk]))
  rw [hc _ _ (fun k hk => List.mem_range.1 hk)]
  simp

/-- What is read at p. -/
def readTo (D : List (List UInt8)) (ws : List (Nat × List UInt8)) (p : Nat) : Nat → List UInt8
  | 0 => D.getD p []
  | k + 1 => match ws[k]? with
    | some w => if w.1 = p then w.2 else readTo D ws p k
    | none => readTo D ws p k
def DS.read (d : DS) (p : Nat) : List UInt8 := readTo d.dur d.ways p d.ways.length

theorem readTo_congr (D : List (List UInt8)) {ws vs : List (Nat × List UInt8)} (p : Nat) : ∀ k, (∀ j, j < k → ws[j]? = vs[j]?) → readTo D ws p k = readTo D vs p k
  | 0, _ => rfl
  | k + 1, h => by
    unfold readTo
    rw [h k (by omega), readTo_congr D p k (fun j hj => h j (by omega))]

theorem readTo_snoc (D : List (List UInt8)) (ws : List (Nat × List UInt8)) (w : Nat × List UInt8) (p : Nat) : readTo D (ws ++ [w]) p (ws ++ [w]).length = if w.1 = p then w.2 else readTo D ws p ws.length := by
  rw [List.length_append, List.length_singleton, readTo]
  simp only [List.getElem?_concat_length]
  rw [readTo_congr D p ws.length (fun j hj => List.getElem?_append_left hj)]

theorem snocInd {α : Type} {P : List α → Prop} (h0 : P []) (h1 : ∀ l a, P l → P (l ++ [a])) (l : List α) : P l := by
  have h : ∀ n (l : List α), l.length = n → P l := by
    intro n
    induction n with
    | zero => intro l hl; rw [List.eq_nil_of_length_eq_zero hl]; exact h0
    | succ n ih =>
      intro l hl
      have hne : l ≠ [] := by rintro rfl; simp at hl
      have e := List.dropLast_concat_getLast hne
      rw [← e]
      exact h1 _ _ (ih _ (by simp; omega))
  exact h _ l rfl

/-- The read by the last write's number. -/
theorem readTo_last (D : List (List UInt8)) (ws : List (Nat × List UInt8)) (p : Nat) :
    (lastAt ws p = none → readTo D ws p ws.length = D.getD p []) ∧ (∀ k, lastAt ws p = some k → ∃ w, ws[k]? = some w ∧ readTo D ws p ws.length = w.2) := by
  refine snocInd (P := fun ws : List (Nat × List UInt8) => (lastAt ws p = none → readTo D ws p ws.length = D.getD p []) ∧ (∀ k, lastAt ws p = some k → ∃ w, ws[k]? = some w ∧ readTo D ws p ws.length = w.2)) ?_ ?_ ws
  · refine ⟨fun _ => rfl, fun k h => ?_⟩
    cases h
  · rintro l a ⟨h1, h2⟩
    rw [lastAt_snoc, readTo_snoc]
    by_cases hp : a.1 = p
    · rw [if_pos hp, if_pos hp]
      refine ⟨fun h => (by cases h), fun k h => ?_⟩
      injection h with h
      subst h
      exact ⟨a, by simp, rfl⟩
    · rw [if_neg hp, if_neg hp]
      refine ⟨h1, fun k h => ?_⟩
      obtain ⟨w, hw, e⟩ := h2 k h
      exact ⟨w, by rw [List.getElem?_append_left (List.getElem?_eq_some_iff.1 hw).1]; exact hw, e⟩

theorem lastAt_lt {ws : List (Nat × List UInt8)} {p k : Nat} (h : lastAt ws p = some k) : k < ws.length := by
  obtain ⟨w, hw, _⟩ := (readTo_last [] ws p).2 k h
  exact (List.getElem?_eq_some_iff.1 hw).1

/-- The first k writes done. -/
def flushTo (D : List (List UInt8)) (ws : List (Nat × List UInt8)) : Nat → List (List UInt8)
  | 0 => D
  | k + 1 => match ws[k]? with
    | some w => (flushTo D ws k).set w.1 w.2
    | none => flushTo D ws k

/-- How many bytes of the write of number k a crash does. -/
def FT.done (f : FT) (k : Nat) : Nat :=
  if (k : Int) = f.torn then (min (max f.bytes 0) 256).toNat else if f.kept.getD k false then 256 else 0
theorem FT.done_le (f : FT) (k : Nat) : f.done k ≤ 256 := by
  unfold FT.done
  split
  · omega
  · split <;> omega

def tornBy (old s : List UInt8) (n : Nat) : List UInt8 := s.take n ++ old.drop n
theorem tornBy_length {old s : List UInt8} {n : Nat} (h1 : old.length = 256) (h2 : s.length = 256) (hn : n ≤ 256) : (tornBy old s n).length = 256 := by
  simp [tornBy, h1, h2]; omega
theorem tornBy_all {old s : List UInt8} (h1 : old.length = 256) (h2 : s.length = 256) : tornBy old s 256 = s := by
  unfold tornBy
  rw [List.take_of_length_le (by omega), List.drop_eq_nil_of_le (by omega), List.append_nil]
theorem tornBy_zero (old s : List UInt8) : tornBy old s 0 = old := by simp [tornBy]

def crashTo (f : FT) (D : List (List UInt8)) (ws : List (Nat × List UInt8)) : Nat → List (List UInt8)
  | 0 => D
  | k + 1 => match ws[k]? with
    | some w => (crashTo f D ws k).set w.1 (tornBy ((crashTo f D ws k).getD w.1 []) w.2 (f.done k))
    | none => crashTo f D ws k

theorem flushTo_length (D : List (List UInt8)) (ws : List (Nat × List UInt8)) : ∀ k, (flushTo D ws k).length = D.length
  | 0 => rfl
  | k + 1 => by unfold flushTo; split <;> simp [flushTo_length D ws k]
theorem crashTo_length (f : FT) (D : List (List UInt8)) (ws : List (Nat × List UInt8)) : ∀ k, (crashTo f D ws k).length = D.length
  | 0 => rfl
  | k + 1 => by unfold crashTo; split <;> simp [crashTo_length f D ws k]

theorem each_set {D : List (List UInt8)} {p : Nat} {s : List UInt8} (h : ∀ (i : Nat) (t : List UInt8), D[i]? = some t → t.length = 256) (hs : s.length = 256) : ∀ (i : Nat) (t : List UInt8), (D.set p s)[i]? = some t → t.length = 256 := by
  intro i t ht
  rw [List.getElem?_set] at ht
  split at ht
  · split at ht
    · injection ht with ht; subst ht; exact hs
    · cases ht
  · exact h i t ht
theorem getD_length {D : List (List UInt8)} {p : Nat} (h : ∀ (i : Nat) (t : List UInt8), D[i]? = some t → t.length = 256) (hp : p < D.length) : (D.getD p []).length = 256 := by
  have e : D[p]? = some (D.getD p []) := by simp [List.getD, hp]
  exact h p _ e

theorem flushTo_each {D : List (List UInt8)} {ws : List (Nat × List UInt8)} (h : ∀ (i : Nat) (t : List UInt8), D[i]? = some t → t.length = 256) (hw : ∀ (k : Nat) (w : Nat × List UInt8), ws[k]? = some w → w.1 < D.length ∧ w.2.length = 256) : ∀ k, ∀ (i : Nat) (t : List UInt8), (flushTo D ws k)[i]? = some t → t.length = 256
  | 0 => h
  | k + 1 => by
    unfold flushTo
    split
    · rename_i w he
      exact each_set (flushTo_each h hw k) (hw k w he).2
    · exact flushTo_each h hw k
theorem crashTo_each {f : FT} {D : List (List UInt8)} {ws : List (Nat × List UInt8)} (h : ∀ (i : Nat) (t : List UInt8), D[i]? = some t → t.length = 256) (hw : ∀ (k : Nat) (w : Nat × List UInt8), ws[k]? = some w → w.1 < D.length ∧ w.2.length = 256) : ∀ k, ∀ (i : Nat) (t : List UInt8), (crashTo f D ws k)[i]? = some t → t.length = 256
  | 0 => h
  | k + 1 => by
    unfold crashTo
    split
    · rename_i w he
      obtain ⟨h1, h2⟩ := hw k w he
      exact each_set (crashTo_each h hw k) (tornBy_length (getD_length (crashTo_each h hw k) (by rw [crashTo_length]; exact h1)) h2 (f.done_le k))
    · exact crashTo_each h hw k

/-- The armed count behind a write or a flush at which the power does not go. -/
def dec (a : Int) : Int := if 0 < a then a - 1 else a
theorem dec_le {a : Int} (h : -1 ≤ a) : -1 ≤ dec a ∧ dec a ≤ a := by unfold dec; split <;> omega

/-! ### the calls -/
def DS.reach (d : DS) (i : Int) : Nat := if d.off then 12 else if i < 0 ∨ d.dur.length ≤ i then 6 else 0
def DS.writeE (d : DS) (i : Int) (s : List UInt8) : Nat := if d.reach i ≠ 0 then d.reach i else if s.length ≠ 256 then 7 else if d.armed = 0 then 12 else 0
def DS.writeD (d : DS) (i : Int) (s : List UInt8) : DS :=
  if d.reach i ≠ 0 then d else if s.length ≠ 256 then d else if d.armed = 0 then { d with ways := d.ways ++ [(i.toNat, s)], off := true } else { d with ways := d.ways ++ [(i.toNat, s)], armed := dec d.armed, wr := d.wr + 1 }
def DS.flushE (d : DS) : Nat := if d.off then 12 else if d.armed = 0 then 12 else 0
def DS.flushD (d : DS) : DS :=
  if d.off then d else if d.armed = 0 then { d with off := true } else { d with dur := flushTo d.dur d.ways d.ways.length, ways := [], armed := dec d.armed, fl := d.fl + 1 }
def DS.armD (d : DS) (k : Int) : DS := { d with armed := max k (-1) }
def DS.crashD (d : DS) (f : FT) : DS := { d with dur := crashTo f d.dur d.ways d.ways.length, ways := [], armed := -1, off := false, cr := d.cr + 1 }
def zeros : List UInt8 := List.replicate 256 0
def DS.newD (n : Nat) : DS := ⟨List.replicate n zeros, [], -1, false, 0, 0, 0⟩
def DS.image (d : DS) : List UInt8 := d.dur.flatten

theorem DS.reach_zero {d : DS} {i : Int} (h : d.reach i = 0) : d.off = false ∧ 0 ≤ i ∧ i < d.dur.length := by
  unfold DS.reach at h
  split at h
  · cases h
  · split at h
    · cases h
    · rename_i h1 h2
      exact ⟨by simpa using h1, by omega, by omega⟩

theorem ok_ways {n : Nat} {ws : List (Nat × List UInt8)} {w : Nat × List UInt8} (h : ∀ (k : Nat) (w : Nat × List UInt8), ws[k]? = some w → w.1 < n ∧ w.2.length = 256) (hw : w.1 < n ∧ w.2.length = 256) : ∀ (k : Nat) (v : Nat × List UInt8), (ws ++ [w])[k]? = some v → v.1 < n ∧ v.2.length = 256 := by
  intro k v hv
  by_cases hk : k < ws.length
  · rw [List.getElem?_append_left hk] at hv; exact h k v hv
  · rw [List.getElem?_append_right (by omega)] at hv
    obtain ⟨hl, e⟩ := List.getElem?_eq_some_iff.1 hv
    have : k - ws.length = 0 := by simpa using hl
    simp [this] at e
    subst e
    exact hw

theorem DS.Ok.write {d : DS} (h : d.Ok) (i : Int) (s : List UInt8) : (d.writeD i s).Ok := by
  unfold DS.writeD
  split
  · exact h
  · rename_i hr
    obtain ⟨_, h0, h1⟩ := DS.reach_zero (Decidable.not_not.1 hr)
    split
    · exact h
    · rename_i hs
      have hw := ok_ways (w := (i.toNat, s)) h.way ⟨by simp only; omega, Decidable.not_not.1 hs⟩
      have hd := dec_le h.a0
      have := h.a1
      split
      · exact ⟨h.pos, h.le, h.each, hw, h.a0, h.a1⟩
      · exact ⟨h.pos, h.le, h.each, hw, hd.1, by simp only; omega⟩
theorem DS.Ok.flush {d : DS} (h : d.Ok) : d.flushD.Ok := by
  unfold DS.flushD
  have hd := dec_le h.a0
  have := h.a1
  split
  · exact h
  · split
    · exact ⟨h.pos, h.le, h.each, h.way, h.a0, h.a1⟩
    · exact ⟨by simp only [flushTo_length]; exact h.pos, by simp only [flushTo_length]; exact h.le, flushTo_each h.each h.way _, fun k w hk => by simp at hk, hd.1, by simp only; omega⟩
theorem DS.Ok.crash {d : DS} (h : d.Ok) (f : FT) : (d.crashD f).Ok :=
  ⟨by simp only [DS.crashD, crashTo_length]; exact h.pos, by simp only [DS.crashD, crashTo_length]; exact h.le, crashTo_each h.each h.way _, fun k w hk => by simp [DS.crashD] at hk, by simp [DS.crashD], by simp [DS.crashD]⟩
theorem DS.Ok.arm {d : DS} (h : d.Ok) {k : Int} (hk : k ≤ 9223372036854775807) : (d.armD k).Ok :=
  ⟨h.pos, h.le, h.each, h.way, by simp only [DS.armD]; omega, by simp only [DS.armD]; omega⟩
theorem DS.Ok.new {n : Nat} (h1 : 1 ≤ n) (h2 : n ≤ 65536) : (DS.newD n).Ok :=
  ⟨by simp [DS.newD, h1], by simpa [DS.newD] using h2, fun i s hs => by simp [DS.newD, List.getElem?_replicate] at hs; obtain ⟨_, rfl⟩ := hs; simp [zeros], fun k w hk => by simp [DS.newD] at hk, by simp [DS.newD], by simp [DS.newD]⟩

theorem writeD_size (d : DS) (i : Int) (s : List UInt8) : (d.writeD i s).dur.length = d.dur.length := by
  unfold DS.writeD; repeat' split
  all_goals rfl
theorem flushD_size (d : DS) : d.flushD.dur.length = d.dur.length := by
  unfold DS.flushD; repeat' split
  all_goals first | rfl | exact flushTo_length _ _ _
theorem crashD_size (d : DS) (f : FT) : (d.crashD f).dur.length = d.dur.length := crashTo_length _ _ _ _
end Go.Proofs.YtcapifhmmkmboaaDoor
