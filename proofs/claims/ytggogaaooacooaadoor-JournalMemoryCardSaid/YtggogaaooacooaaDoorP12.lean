/-
  An append of a list that came in (nil or not), one cell an element, of no program.
  Errors' values can be compared.
  A disk in memory.
-/
import Derived.Test.YtggogaaooacooaaDoorP09
import Derived.OwnWalk
import Derived.Deep.AppendLies
import Derived.Test.YtggogaaooacooaaDoorP04
import Derived.LaidEql
import Derived.Test.YtggogaaooacooaaDoorP05
import Derived.Test.YtggogaaooacooaaDoorP10
import Derived.Maps.OwnSet
import Derived.Maps.Views
import Derived.Deep.MidRow
namespace Go.Proofs.YtggogaaooacooaaDoor
open Go.RowKit
set_option maxRecDepth 100000

section
variable {P : Program} (w : World)
/-- Nothing is appended from nil. -/
theorem run_append_none (t ty e : TypeId) (i : TypeInfo) (ht : P.underlying t = some (.slice e)) (hi : P.info? e = some i) (v : Value) (n : Nat) (xs : List Value) (size : Nat) (hown : w.ownsRow 0 e size v n xs) (c : Nat) :
    (Builtin.append_ #[t, t] ty #[v, .slice none 0 c]).run P w = .ok v w := by
  rcases hown.2 with ⟨rfl, rfl⟩ | ⟨g, cap, cur, rfl, _, _, hnc, _⟩
  · simp [Builtin.append_, run_underlying ht, sizeOf, typeInfo, hi, Builtin.lenOf, Builtin.firstCells]
  · simp [Builtin.append_, run_underlying ht, sizeOf, typeInfo, hi, Builtin.lenOf, Builtin.firstCells, hnc, storeCells]

/-- APPEND OF A LIST THAT CAME IN (nil or not), one cell an element. -/
theorem run_append_list (t ty e : TypeId) (i : TypeInfo) (z : Value) (bytes : Nat) (ht : P.underlying t = some (.slice e)) (hi : P.info? e = some i) (hz : i.zero = some z) (hsize : i.size = 1) (hby : i.bytes = bytes) (hzs : z.cells.size = 1)
    (v : Value) (n : Nat) (xs : List Value) (hown : w.ownsRow 0 e 1 v n xs) (a : Option Addr) (c : Nat) (news : List Value) (ha : news ≠ [] → ∃ ad, a = some ad ∧ ∀ (j : Nat) u, news[j]? = some u → w.cell? (ad.add j) = some u) (h1 : ∀ u ∈ news, u.oneCell' = true)
    (h63 : n + news.length ≤ maxLen) (hbytes : (n + news.length) * bytes ≤ 140737488355328) :
    ∃ v' w', (Builtin.append_ #[t, t] ty #[v, .slice a news.length c]).run P w = .ok v' w' ∧ w'.ownsRow 0 e 1 v' (n + news.length) (xs ++ news) ∧ w.grownBy w' v.ownBlock ∧ Later w v.ownBlock v'.ownBlock := by
  by_cases hn : news = []
  · subst hn
    cases a with
    | none => exact ⟨v, w, run_append_none w t ty e i ht hi v n xs 1 hown c, by simpa using hown, ⟨rfl, rfl, rfl, Nat.le_refl _, fun _ _ _ => rfl⟩, .inl rfl⟩
    | some ad =>
      obtain ⟨v', w', h2, h3, h4, h5, _⟩ := run_append_cells0 (P := P) w t ty e i z 1 bytes ht hi hz hsize hby hzs (by decide) v n xs hown ad 0 c [] rfl (fun j u h => by simp at h) (fun u h => by cases h) h63 hbytes
      exact ⟨v', w', h2, h3, h4, h5⟩
  · obtain ⟨ad, rfl, hc⟩ := ha hn
    obtain ⟨v', w', h2, h3, h4, h5, _⟩ := run_append_cells0 (P := P) w t ty e i z 1 bytes ht hi hz hsize hby hzs (by decide) v n xs hown ad news.length c news (by simp) hc h1 h63 hbytes
    exact ⟨v', w', h2, h3, h4, h5⟩

theorem wpList_append_list {ops : Array Oper} {rest : List Oper} {o : Oper} {a : Act} {Q : Exit → Act → World → Prop} (hgd : o.guard = none) (s x : Operand) (t : TypeId)
    (ho : o.op = .call { callee := .builtin .append, args := #[s, x], argTypes := #[t, t] })
    (e : TypeId) (i : TypeInfo) (z : Value) (bytes : Nat) (ht : P.underlying t = some (.slice e)) (hi : P.info? e = some i) (hz : i.zero = some z)
    (hsize : i.size = 1) (hby : i.bytes = bytes) (hzs : z.cells.size = 1)
    (v : Value) (n : Nat) (xs : List Value) (hs : a.eval s = v) (hown : w.ownsRow 0 e 1 v n xs)
    (ad : Option Addr) (m c : Nat) (news : List Value) (hx : a.eval x = .slice ad m c) (hm : m = news.length) (ha : news ≠ [] → ∃ p, ad = some p ∧ ∀ (j : Nat) u, news[j]? = some u → w.cell? (p.add j) = some u) (h1 : ∀ u ∈ news, u.oneCell' = true)
    (h63 : n + news.length ≤ maxLen) (hbytes : (n + news.length) * bytes ≤ 140737488355328)
    (h : ∀ v' w', w'.ownsRow 0 e 1 v' (n + news.length) (xs ++ news) → w.grownBy w' v.ownBlock → Later w v.ownBlock v'.ownBlock → wpList P ops Q rest (a.put o.dst v') w') : wpList P ops Q (o :: rest) a w := by
  refine wpList_plain hgd fun K hK => ?_
  subst hm
  obtain ⟨v', w', hr, h2, h3, h4⟩ := run_append_list (P := P) w t o.type e i z bytes ht hi hz hsize hby hzs v n xs hown ad c news ha h1 h63 hbytes
  unfold Oper.wp execOp
  simp only [ho, resolve, invoke, builtin, Sem.run_bind, Sem.run_pure, Result.andThen_ok, List.map_toArray, List.map_cons, List.map_nil, hs, hx, hr]
  exact hK _ _ (h v' w' h2 h3 h4)
end

theorem ownsRow_zero {w : World} {base : Nat} {e : TypeId} {size : Nat} {v : Value} {n : Nat} {xs : List Value} (h : w.ownsRow base e size v n xs) : w.ownsRow 0 e size v n xs := by
  refine ⟨h.1, ?_⟩
  rcases h.2 with h2 | ⟨g, cap, cur, q, _, r⟩
  · exact .inl h2
  · exact .inr ⟨g, cap, cur, q, Nat.zero_le _, r⟩
end Go.Proofs.YtggogaaooacooaaDoor
namespace Go.Proofs.YtggogaaooacooaaDoor
open Go.RowKit
set_option maxRecDepth 100000

theorem compErr : (Tryd.prog.info? 168).map (·.comparable) = some true := by kernel_rfl
theorem sizeErr : (Tryd.prog.info? 182).map (·.size) = some 1 := by kernel_rfl
end Go.Proofs.YtggogaaooacooaaDoor
namespace Go.Proofs.YtggogaaooacooaaDoor
open Go.RowKit
open Go.Maps (Keyed string_keyed int_keyed)
set_option maxRecDepth 100000

/-- The durable sectors, in block g. -/
structure Dur (W : World) (g : Nat) (D : List (List UInt8)) : Prop where
  blk : ∃ C, W.heap[g]? = some (.cells C 102 (0, 0)) ∧ C.size = D.length * 256
  rng : ∀ (i : Nat) (s : List UInt8), D[i]? = some s → W.rangeAt g (i * 256) (Lib.byteCells s)

def wayCells (w : Nat × List UInt8) : List Value := .int .i64 w.1 :: Lib.byteCells w.2
def waysCells (ws : List (Nat × List UInt8)) : List Value := ws.flatMap wayCells

theorem wayCells_length {w : Nat × List UInt8} (h : w.2.length = 256) : (wayCells w).length = 257 := by simp [wayCells, Lib.byteCells_length, h]
theorem waysCells_snoc (ws : List (Nat × List UInt8)) (w : Nat × List UInt8) : waysCells (ws ++ [w]) = waysCells ws ++ wayCells w := by simp [waysCells]
theorem wayCells_one (w : Nat × List UInt8) : ∀ u ∈ wayCells w, u.oneCell' = true := by
  intro u hu
  rcases List.mem_cons.1 hu with rfl | hu
  · rfl
  · obtain ⟨c, _, rfl⟩ := List.mem_map.1 hu; rfl
theorem byteCells_one1 (l : List UInt8) : ∀ u ∈ Lib.byteCells l, u.oneCell' = true := by
  intro u hu
  obtain ⟨c, _, rfl⟩ := List.mem_map.1 hu; rfl

/-- The cells of way k. -/
theorem flatMap_get {α : Type} (f : α → List Value) (m : Nat) : ∀ (l : List α), (∀ (k : Nat) (w : α), l[k]? = some w → (f w).length = m) → ∀ (k : Nat) (w : α), l[k]? = some w → ∀ (j : Nat) (v : Value), (f w)[j]? = some v → (l.flatMap f)[k * m + j]? = some v
  | [], _, k, w, hk, _, _, _ => by simp at hk
  | a :: r, h, 0, w, hk, j, v, hj => by
    simp at hk
    subst hk
    have hl := (List.getElem?_eq_some_iff.1 hj).1
    rw [List.flatMap_cons, List.getElem?_append_left (by omega)]
    simpa using hj
  | a :: r, h, k + 1, w, hk, j, v, hj => by
    have hl : (f a).length = m := h 0 a rfl
    rw [List.flatMap_cons, List.getElem?_append_right (by rw [hl, Nat.succ_mul]; omega), hl]
    rw [show (k + 1) * m + j - m = k * m + j by rw [Nat.succ_mul]; omega]
    exact flatMap_get f m r (fun k w hk => h (k + 1) w hk) k w (by simpa using hk) j v hj

/-- What the map says of the writes under way. -/
structure MapsTo (D : DataW Unit) (ws : List (Nat × List UInt8)) : Prop where
  has : ∀ p : Nat, Maps.has D (.int .i64 p) = (lastAt ws p).isSome
  at' : ∀ (p k : Nat), lastAt ws p = some k → D.atKey (.int .i64 p) (.lit (.int .i64 0)) = .lit (.int .i64 k)

theorem MapsTo.nil : MapsTo (.map []) [] := ⟨fun p => rfl, fun p k h => by cases h⟩

def diskCells (gd mb : Nat) (uv : Value) (d : DS) : Array Value :=
  #[.slice (some ⟨gd, 0, none⟩) d.dur.length d.dur.length, uv, .map (some mb), .int .i64 d.armed, .bool d.off, .int .i64 d.wr, .int .i64 d.fl, .int .i64 d.cr]

structure DiskP (W : World) (b gd mb : Nat) (uv : Value) (d : DS) : Prop where
  ok : d.Ok
  cells : W.heap[b]? = some (.cells (diskCells gd mb uv d) 81 (0, 0))
  dur : Dur W gd d.dur
  ways : W.ownsRow 0 117 257 uv d.ways.length (waysCells d.ways)
  map : ∃ D, W.ownsMap Tryd.prog 3 (plainElem Tryd.prog 3) mb d.ways.length D ∧ MapsTo D d.ways

/-- The blocks of a disk. -/
def foot (b gd mb : Nat) (uv : Value) (k : Nat) : Prop := k = b ∨ k = gd ∨ k = mb ∨ uv.ownBlock = some k

/-- A disk whose blocks are of S. -/
def DiskAt (W : World) (b : Nat) (d : DS) (S : Nat → Prop) : Prop := ∃ gd mb uv, DiskP W b gd mb uv d ∧ ∀ k, foot b gd mb uv k → S k

/-- The blocks of S, and those that are new. -/
def Grow (S : Nat → Prop) (w w' : World) (k : Nat) : Prop := S k ∨ (w.heap.size ≤ k ∧ k < w'.heap.size)

theorem DiskAt.mono {W : World} {b : Nat} {d : DS} {S T : Nat → Prop} (h : DiskAt W b d S) (hT : ∀ k, S k → T k) : DiskAt W b d T := by
  obtain ⟨gd, mb, uv, h, hS⟩ := h
  exact ⟨gd, mb, uv, h, fun k hk => hT k (hS k hk)⟩

theorem DiskP.lt {W : World} {b gd mb : Nat} {uv : Value} {d : DS} (h : DiskP W b gd mb uv d) : ∀ k, foot b gd mb uv k → k < W.heap.size := by
  rintro k (rfl | rfl | rfl | hk)
  · exact lt_of_block h.cells
  · obtain ⟨C, hC, _⟩ := h.dur.blk; exact lt_of_block hC
  · obtain ⟨D, hD, _⟩ := h.map; exact hD.lt
  · exact ownsRow_lt h.ways hk

theorem Dur.kept {S : Nat → Prop} {W W' : World} {g : Nat} {D : List (List UInt8)} (h : Dur W g D) (hk : Keeps S W W') (hS : ¬ S g) : Dur W' g D := by
  obtain ⟨C, hC, hs⟩ := h.blk
  have hg := lt_of_block hC
  refine ⟨⟨C, (hk.block g hg hS).trans hC, hs⟩, fun i s hi j v hj => ?_⟩
  rw [hk.cell (p := ⟨g, i * 256 + j, none⟩) hg hS]
  exact h.rng i s hi j v hj

theorem ownsMap_kept {S : Nat → Prop} {W W' : World} {b n : Nat} {k : TypeId} {R : Value → Option (DataW Unit × List MemPlace)} {D : DataW Unit} (h : W.ownsMap Tryd.prog k R b n D) (hk : Keeps S W W') (hS : ¬ S b) : W'.ownsMap Tryd.prog k R b n D := by
  have hlt := h.lt
  obtain ⟨es, clock, hb, r⟩ := h
  exact ⟨es, clock, (hk.block b hlt hS).trans hb, r⟩

theorem DiskP.kept {S : Nat → Prop} {W W' : World} {b gd mb : Nat} {uv : Value} {d : DS} (h : DiskP W b gd mb uv d) (hk : Keeps S W W') (hS : ∀ k, foot b gd mb uv k → ¬ S k) : DiskP W' b gd mb uv d := by
  obtain ⟨D, hD, hm⟩ := h.map
  exact ⟨h.ok, (hk.block b (lt_of_block h.cells) (hS b (.inl rfl))).trans h.cells, h.dur.kept hk (hS gd (.inr (.inl rfl))), ownsRow_kept h.ways hk (fun k e => hS k (.inr (.inr (.inr e)))), D, ownsMap_kept hD hk (hS mb (.inr (.inr (.inl rfl)))), hm⟩

theorem DiskAt.kept {S T : Nat → Prop} {W W' : World} {b : Nat} {d : DS} (h : DiskAt W b d S) (hk : Keeps T W W') (hS : ∀ k, S k → ¬ T k) : DiskAt W' b d S := by
  obtain ⟨gd, mb, uv, h, hf⟩ := h
  exact ⟨gd, mb, uv, h.kept hk (fun k e => hS k (hf k e)), hf⟩
theorem DiskAt.qt {S : Nat → Prop} {W W' : World} {b : Nat} {d : DS} (h : DiskAt W b d S) (hk : Qt W W') : DiskAt W' b d S := h.kept hk (fun _ _ e => e)
theorem DiskAt.in' {S : Nat → Prop} {W : World} {b : Nat} {d : DS} (h : DiskAt W b d S) : S b := by
  obtain ⟨gd, mb, uv, h, hf⟩ := h; exact hf b (.inl rfl)
theorem DiskAt.ok {S : Nat → Prop} {W : World} {b : Nat} {d : DS} (h : DiskAt W b d S) : d.Ok := by
  obtain ⟨gd, mb, uv, h, hf⟩ := h; exact h.ok

/-- The blocks lie apart: their types are unlike. -/
theorem DiskP.apart {W : World} {b gd mb : Nat} {uv : Value} {d : DS} (h : DiskP W b gd mb uv d) : b ≠ gd ∧ b ≠ mb ∧ gd ≠ mb ∧ uv.ownBlock ≠ some b ∧ uv.ownBlock ≠ some gd ∧ uv.ownBlock ≠ some mb := by
  obtain ⟨C, hC, _⟩ := h.dur.blk
  obtain ⟨D, ⟨es, clock, hm, _⟩, _⟩ := h.map
  have hb := h.cells
  have hu : ∀ k, uv.ownBlock = some k → ∃ cur, W.heap[k]? = some (.cells cur 117 (0, 0)) := by
    intro k hk
    rcases h.ways.2 with ⟨e, _⟩ | ⟨g, cap, cur, e, _, hg, _⟩
    · rw [e] at hk; cases hk
    · rw [e] at hk
      have : g = k := by simpa [Value.ownBlock] using hk
      subst this
      exact ⟨cur, hg⟩
  refine ⟨?_, ?_, ?_, ?_, ?_, ?_⟩
  · rintro rfl; rw [hC] at hb; injection hb with hb; injection hb with _ e; cases e
  · rintro rfl; rw [hm] at hb; injection hb with hb; cases hb
  · rintro rfl; rw [hm] at hC; injection hC with hC; cases hC
  · intro e; obtain ⟨cur, hc⟩ := hu b e; rw [hc] at hb; injection hb with hb; injection hb with _ e; cases e
  · intro e; obtain ⟨cur, hc⟩ := hu gd e; rw [hc] at hC; injection hC with hC; injection hC with _ e; cases e
  · intro e; obtain ⟨cur, hc⟩ := hu mb e; rw [hc] at hm; injection hm with hm; cases hm

/-- A cell of the disk's own. -/
theorem DiskP.cell {W : World} {b gd mb : Nat} {uv : Value} {d : DS} (h : DiskP W b gd mb uv d) (i : Nat) (v : Value) (hi : (diskCells gd mb uv d)[i]? = some v) : W.cell? ⟨b, i, none⟩ = some v := by
  rw [cell_of_row W b i _ _ _ h.cells]; exact hi
theorem frozen_of_row {W : World} {b : Nat} {C : Array Value} {t : TypeId} (h : W.heap[b]? = some (.cells C t (0, 0))) (i : Nat) : W.frozen? ⟨b, i, none⟩ = false := Lib.frozen_of_heap h i

/-- Behind a store into cell i of a row. -/
theorem setCell_row {W : World} {b : Nat} {C : Array Value} {t : TypeId} (h : W.heap[b]? = some (.cells C t (0, 0))) (i : Nat) (v : Value) : (W.setCell ⟨b, i, none⟩ v).heap[b]? = some (.cells (C.setIfInBounds i v) t (0, 0)) := by
  rw [setCell_eq_setRow W b i C t (0, 0) v h]
  exact setRow_heap W b _ _ t _ h
theorem keeps_setCell (W : World) (b i : Nat) (v : Value) : Keeps (fun k => k = b) W (W.setCell ⟨b, i, none⟩ v) := (Keeps.refl (fun k => k = b) W).setCell (p := ⟨b, i, none⟩) (fun _ => rfl) v

/-- The disk's own cells turned, nothing else of it. -/
theorem DiskP.turn {W W' : World} {b gd mb : Nat} {uv : Value} {d d' : DS} (h : DiskP W b gd mb uv d) (hk : Keeps (fun k => k = b) W W') (hc : W'.heap[b]? = some (.cells (diskCells gd mb uv d') 81 (0, 0))) (ho : d'.Ok) (h1 : d'.dur = d.dur) (h2 : d'.ways = d.ways) : DiskP W' b gd mb uv d' := by
  obtain ⟨a1, a2, a3, a4, a5, a6⟩ := h.apart
  obtain ⟨D, hD, hm⟩ := h.map
  refine ⟨ho, hc, ?_, ?_, D, ?_, ?_⟩
  · rw [h1]; exact h.dur.kept hk (fun e => a1 e.symm)
  · rw [h2]; exact ownsRow_kept h.ways hk (fun k e1 e2 => by subst e2; exact a4 e1)
  · rw [h2]; exact ownsMap_kept hD hk (fun e => a2 e.symm)
  · rw [h2]; exact hm
theorem DiskP.at {W : World} {b gd mb : Nat} {uv : Value} {d : DS} {S : Nat → Prop} (h : DiskP W b gd mb uv d) (hS : ∀ k, foot b gd mb uv k → S k) : DiskAt W b d S := ⟨gd, mb, uv, h, hS⟩
end Go.Proofs.YtggogaaooacooaaDoor
