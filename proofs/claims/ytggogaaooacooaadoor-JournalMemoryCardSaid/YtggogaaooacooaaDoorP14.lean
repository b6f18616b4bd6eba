/-
  One cell appended at a step of a region that draws, in place or into a new block; a row's shape and its cells.
  Laws of memory that a disk's walks want: a whole row loaded in a region that draws and only reads ahead of its last steps; cells appended at a step of a region; cells copied.
-/
import Derived.Test.YtggogaaooacooaaDoorP09
import Derived.Deep.RegionLaw
import Derived.Test.YtggogaaooacooaaDoorP13
import Derived.Deep.MidRow
import Derived.Lib.SlBuf
import Derived.Lib.LazyBuf
import Derived.StillTailTactics
namespace Go.Proofs.YtggogaaooacooaaDoor
open Go.RowKit Go.WideShapes
set_option maxRecDepth 100000

section
variable {P : Program} (w : World)
/-- APPEND OF CELLS to an owned row: in place (that row alone is written), or into a new block (nothing is written). -/
theorem run_append_cells1 (t ty e : TypeId) (i : TypeInfo) (z : Value) (size bytes : Nat) (ht : P.underlying t = some (.slice e)) (hi : P.info? e = some i) (hz : i.zero = some z)
    (hsize : i.size = size) (hby : i.bytes = bytes) (hzs : z.cells.size = size) (hsz : 0 < size)
    (v : Value) (n : Nat) (xs : List Value) (hown : w.ownsRow 0 e size v n xs)
    (a : Addr) (m c : Nat) (news : List Value) (hl : news.length = m * size) (hnews : ∀ j u, news[j]? = some u → w.cell? (a.add j) = some u) (h1 : ∀ u ∈ news, u.oneCell' = true)
    (h63 : n + m ≤ maxLen) (hbytes : (n + m) * bytes ≤ 140737488355328) :
    ∃ v' w', (Builtin.append_ #[t, t] ty #[v, .slice (some a) m c]).run P w = .ok v' w' ∧ w'.ownsRow 0 e size v' (n + m) (xs ++ news) ∧ ((v'.ownBlock = v.ownBlock ∧ w.grownBy w' v.ownBlock) ∨ (∃ g, v'.ownBlock = some g ∧ w.heap.size ≤ g ∧ w.grownBy w' none)) := by
  subst hsize
  subst hby
  have hsmall : n + m ≤ 9223372036854775807 := by simp only [maxLen] at h63; omega
  have hlen : (xs ++ news).length = (n + m) * i.size := by rw [List.length_append, hown.1, hl, Nat.add_mul]
  have grown : ∀ (old : Nat), old < n + m → ∀ (row : Option Nat),
      (w.drew.alloc (.cells (xs.toArray ++ news.toArray ++ Builtin.zeroCells z.cells (grownCap w (n + m) old e - (n + m))) e)).ownsRow 0 e i.size
        (.slice (some ⟨w.heap.size, 0, none⟩) (n + m) (grownCap w (n + m) old e)) (n + m) (xs ++ news) ∧
      w.grownBy (w.drew.alloc (.cells (xs.toArray ++ news.toArray ++ Builtin.zeroCells z.cells (grownCap w (n + m) old e - (n + m))) e)) row := by
    intro old ho row
    have hge := grownCap_ge w (n + m) old e
    have hcm : grownCap w (n + m) old e ≤ maxLen := grownCap_le_maxLen w (n + m) old e h63
    refine ⟨⟨hlen, .inr ⟨w.heap.size, _, _, rfl, Nat.zero_le _, heap_alloc_new w.drew _, hge, hcm, ?_, ?_⟩⟩, ⟨rfl, rfl, rfl, by simp, fun k hk _ => Below.heap_alloc w.drew _ k hk⟩⟩
    · simp only [Array.size_append, List.size_toArray, size_zeroCells, hzs, hown.1, hl, ← Nat.add_mul]
      congr 1
      omega
    · simp only [Array.toList_append, List.append_assoc]
      rw [← List.append_assoc, ← hlen]
      exact List.take_left
  rcases hown.2 with ⟨rfl, rfl⟩ | ⟨g, cap, cur, rfl, hbg, hg, hnc, hcm, hcs, htake⟩
  · have hx : xs = [] := List.eq_nil_of_length_eq_zero (by simpa using hown.1)
    subst hx
    by_cases hm : m = 0
    · subst hm
      have hn : news = [] := List.eq_nil_of_length_eq_zero (by simpa using hl)
      subst hn
      refine ⟨.slice none 0 0, w, ?_, World.ownsRow_nil w 0 e i.size, .inl ⟨rfl, ⟨rfl, rfl, rfl, Nat.le_refl _, fun _ _ _ => rfl⟩⟩⟩
      simp [Builtin.append_, run_underlying ht, sizeOf, typeInfo, hi, Builtin.lenOf, Builtin.firstCells, loadCells, loadCellsFrom]
    · have hr := run_append_nil (P := P) w t ty e i z ht hi hz a m c news hl hnews (by omega) (by omega) (by have hb := hbytes; simp only [Nat.zero_add] at hb; omega)
      have hgr := grown 0 (by omega) none
      simp only [Nat.zero_add, List.nil_append, Array.empty_append] at hgr ⊢
      exact ⟨_, _, hr, hgr.1, .inr ⟨_, rfl, Nat.le_refl _, hgr.2⟩⟩
  · by_cases hroom : n + m ≤ cap
    · have hfit : n * i.size + news.length ≤ cur.size := by rw [hl, hcs, ← Nat.add_mul]; exact Nat.mul_le_mul_right _ hroom
      have hr := run_append_roomF (P := P) w t ty e i ht hi g n cap cur (0, 0) hg (Nat.zero_le _) a m c news hl hnews h1 hroom hfit
      refine ⟨_, _, hr, ⟨hlen, .inr ⟨g, cap, _, rfl, hbg, setRow_heap w g cur _ e _ hg, hroom, hcm, ?_, ?_⟩⟩, .inl ⟨rfl, ⟨rfl, rfl, rfl, by simp, fun k _ hk => setRow_other w g k _ (fun e => hk (by simp [Value.ownBlock, e]))⟩⟩⟩
      · simp only [List.size_toArray, List.length_append, List.length_take, List.length_drop, Array.length_toList]
        omega
      · rw [htake, ← hlen]
        exact List.take_left
    · have holds : ∀ j u, xs[j]? = some u → w.cell? ((⟨g, 0, none⟩ : Addr).add j) = some u := (World.ownsRowF_of hown).cells (g := g) rfl
      have hr := run_append_grow (P := P) w t ty e i z ht hi hz ⟨g, 0, none⟩ n cap xs hown.1 holds a m c news hl hnews (by omega) (by omega) (growslice_fits (by omega) hbytes)
      have hgr := grown cap (by omega) none
      exact ⟨_, _, hr, hgr.1, .inr ⟨_, rfl, Nat.le_refl _, hgr.2⟩⟩


/-- One cell: at a step of a region that draws. -/
theorem step_append_one {ops : Array Oper} {o : Oper} {a : Act} {K : Act → World → Prop} {Q : Exit → Act → World → Prop} {E : Prop} (hgd : o.guard = none) (s x : Operand) (t : TypeId)
    (ho : o.op = .call { callee := .builtin .append, args := #[s, x], argTypes := #[t, t] })
    (e : TypeId) (i : TypeInfo) (z : Value) (bytes : Nat) (ht : P.underlying t = some (.slice e)) (hi : P.info? e = some i) (hz : i.zero = some z) (hsize : i.size = 1) (hby : i.bytes = bytes) (hzs : z.cells.size = 1)
    (v : Value) (n : Nat) (xs : List Value) (hs : a.eval s = v) (hown : w.ownsRow 0 e 1 v n xs)
    (ad : Addr) (c : Nat) (u : Value) (hx : a.eval x = .slice (some ad) 1 c) (hnews : ∀ (j : Nat) y, [u][j]? = some y → w.cell? (ad.add j) = some y) (h1 : u.oneCell' = true)
    (h63 : n + 1 ≤ maxLen) (hbytes : (n + 1) * bytes ≤ 140737488355328)
    (h : ∀ g' cap' w', w'.ownsRow 0 e 1 (.slice (some ⟨g', 0, none⟩) (n + 1) cap') (n + 1) (xs ++ [u]) → ((some g' = v.ownBlock ∧ w.grownBy w' v.ownBlock) ∨ (w.heap.size ≤ g' ∧ w.grownBy w' none)) → K (a.put o.dst (.slice (some ⟨g', 0, none⟩) (n + 1) cap')) w') :
    if Region.wanted o (yielded ops a.tmps) = true then Oper.wp P o a w K Q else E := by
  have hw : Region.wanted o (yielded ops a.tmps) = true := by simp [Region.wanted, hgd]
  rw [if_pos hw]
  obtain ⟨v', w', hr, h2, h3⟩ := run_append_cells1 (P := P) w t o.type e i z 1 bytes ht hi hz hsize hby hzs (by decide) v n xs hown ad 1 c [u] rfl hnews (by intro y hy; rw [List.mem_singleton.1 hy]; exact h1) h63 hbytes
  have hform : ∃ g cap, v' = .slice (some ⟨g, 0, none⟩) (n + 1) cap := by
    rcases h2.2 with ⟨_, h0⟩ | ⟨g, cap, cur, e', _⟩
    · omega
    · exact ⟨g, cap, e'⟩
  obtain ⟨g', cap', rfl⟩ := hform
  unfold Oper.wp execOp
  simp only [ho, resolve, invoke, builtin, Sem.run_bind, Sem.run_pure, Result.andThen_ok, List.map_toArray, List.map_cons, List.map_nil, hs, hx, hr]
  refine h g' cap' w' h2 ?_
  rcases h3 with ⟨q, h3⟩ | ⟨g, q, hg, h3⟩
  · exact .inl ⟨q, h3⟩
  · simp [Value.ownBlock] at q
    subst q
    exact .inr ⟨hg, h3⟩
end

theorem own_shape1 {w : World} {e : TypeId} {v : Value} {n : Nat} {xs : List Value} (h : w.ownsRow 0 e 1 v n xs) : ∃ a c, v = .slice a n c ∧ (0 < n → ∃ b, a = some ⟨b, 0, none⟩) := by
  rcases h.2 with ⟨rfl, rfl⟩ | ⟨g, cap, cur, rfl, _⟩
  · exact ⟨none, 0, rfl, fun h => absurd h (by omega)⟩
  · exact ⟨_, cap, rfl, fun _ => ⟨g, rfl⟩⟩

theorem own_cell {w : World} {e : TypeId} {b n c : Nat} {xs : List Value} (h : w.ownsRow 0 e 1 (.slice (some ⟨b, 0, none⟩) n c) n xs) {i : Nat} {u : Value} (hi : xs[i]? = some u) : w.cell? ⟨b, i, none⟩ = some u ∧ w.frozen? ⟨b, i, none⟩ = false := by
  have h1 := h.cells (g := b) rfl i u hi
  rw [add_plain, Nat.zero_add] at h1
  refine ⟨h1, ?_⟩
  rcases h.2 with ⟨e, _⟩ | ⟨g', cap', cur, e, _, hg, _⟩
  · cases e
  · injection e with e _ _
    injection e with e
    injection e with e
    subst e
    exact Lib.frozen_of_heap hg i
end Go.Proofs.YtggogaaooacooaaDoor
namespace Go.Proofs.YtggogaaooacooaaDoor
open Go.RowKit Go.WideShapes
set_option maxRecDepth 100000

section
variable {P : Program}

/-- A whole row is read, at a step of a region that only reads. -/
theorem still_load_mid {ops : Array Oper} {w : World} {Q : Act → Prop} {a : Act} {o : Oper} {rest : List Oper} (hgd : o.guard = none) (ty : TypeId) (x : Operand) (ho : o.op = .load ty x)
    (b f : Nat) (hx : a.eval x = .pointer (some ⟨b, f, none⟩)) (cs : List Value) (d : TypeDesc) (hc : w.rangeAt b f cs) (hu : P.underlying ty = some d) (hd : d.isRow = true) (hi : (P.info? ty).map (·.size) = some cs.length)
    (h : wpStill P ops w Q rest (a.put o.dst (.agg cs.toArray))) : wpStill P ops w Q (o :: rest) a := by
  refine wpStill_step (fun K hK => ?_)
  have hw : Region.wanted o (yielded ops a.tmps) = true := by simp [Region.wanted, hgd]
  rw [if_pos hw]
  unfold Oper.still execOp
  simp only [ho, hx, Instr.loadAt, Instr.sureAddr, Sem.run_bind, Sem.run_pure, Result.andThen_ok, run_loadVar_mid w b f ty cs d hc hu hd hi]
  rw [Oper.stillUpon_value]
  exact hK _ h

/-- Where the rest of a region has one order alone. -/
theorem wpAny_tail {md : Region.Mode} {ops : Array Oper} {Q : Exit → Act → World → Prop} (k g : Nat) {listed : Array Bool} {a : Act} {w : World} (hg : (ops.toList.drop k).length = g) (hB : Region.seqB md ops g k listed = true) (h : wpList P ops Q (ops.toList.drop k) a w) : wpAny P md ops Q g listed a w := by
  subst hg
  exact wpAny_of_seq _ k listed a w (fun j => by simp) hB h

/-- A whole row is read, at a step of a region that draws. -/
theorem step_load_mid {ops : Array Oper} {w : World} {Q : Exit → Act → World → Prop} {K : Act → World → Prop} {E : Prop} {a : Act} {o : Oper} (hgd : o.guard = none) (ty : TypeId) (x : Operand) (ho : o.op = .load ty x)
    (b f : Nat) (hx : a.eval x = .pointer (some ⟨b, f, none⟩)) (cs : List Value) (d : TypeDesc) (hc : w.rangeAt b f cs) (hu : P.underlying ty = some d) (hd : d.isRow = true) (hi : (P.info? ty).map (·.size) = some cs.length)
    (h : K (a.put o.dst (.agg cs.toArray)) w) : if Region.wanted o (yielded ops a.tmps) = true then Oper.wp P o a w K Q else E := by
  have hw : Region.wanted o (yielded ops a.tmps) = true := by simp [Region.wanted, hgd]
  rw [if_pos hw]
  exact wp_load_mid ty x ho b f hx cs d hc hu hd hi h

/-- Cells: at a step of a region that draws. -/
theorem step_append_cells {w : World} {ops : Array Oper} {o : Oper} {a : Act} {K : Act → World → Prop} {Q : Exit → Act → World → Prop} {E : Prop} (hgd : o.guard = none) (s x : Operand) (t : TypeId)
    (ho : o.op = .call { callee := .builtin .append, args := #[s, x], argTypes := #[t, t] })
    (e : TypeId) (i : TypeInfo) (z : Value) (size bytes : Nat) (ht : P.underlying t = some (.slice e)) (hi : P.info? e = some i) (hz : i.zero = some z) (hsize : i.size = size) (hby : i.bytes = bytes) (hzs : z.cells.size = size) (hsz : 0 < size)
    (v : Value) (n : Nat) (xs : List Value) (hs : a.eval s = v) (hown : w.ownsRow 0 e size v n xs)
    (ad : Addr) (c : Nat) (us : List Value) (hl : us.length = size) (hx : a.eval x = .slice (some ad) 1 c) (hnews : ∀ (j : Nat) y, us[j]? = some y → w.cell? (ad.add j) = some y) (h1 : ∀ u ∈ us, u.oneCell' = true)
    (h63 : n + 1 ≤ maxLen) (hbytes : (n + 1) * bytes ≤ 140737488355328)
    (h : ∀ g' cap' w', w'.ownsRow 0 e size (.slice (some ⟨g', 0, none⟩) (n + 1) cap') (n + 1) (xs ++ us) → ((some g' = v.ownBlock ∧ w.grownBy w' v.ownBlock) ∨ (w.heap.size ≤ g' ∧ w.grownBy w' none)) → K (a.put o.dst (.slice (some ⟨g', 0, none⟩) (n + 1) cap')) w') :
    if Region.wanted o (yielded ops a.tmps) = true then Oper.wp P o a w K Q else E := by
  have hw : Region.wanted o (yielded ops a.tmps) = true := by simp [Region.wanted, hgd]
  rw [if_pos hw]
  obtain ⟨v', w', hr, h2, h3⟩ := run_append_cells1 (P := P) w t o.type e i z size bytes ht hi hz hsize hby hzs hsz v n xs hown ad 1 c us (by omega) hnews h1 h63 hbytes
  have hform : ∃ g cap, v' = .slice (some ⟨g, 0, none⟩) (n + 1) cap := by
    rcases h2.2 with ⟨_, h0⟩ | ⟨g, cap, cur, e', _⟩
    · omega
    · exact ⟨g, cap, e'⟩
  obtain ⟨g', cap', rfl⟩ := hform
  unfold Oper.wp execOp
  simp only [ho, resolve, invoke, builtin, Sem.run_bind, Sem.run_pure, Result.andThen_ok, List.map_toArray, List.map_cons, List.map_nil, hs, hx, hr]
  refine h g' cap' w' h2 ?_
  rcases h3 with ⟨q, h3⟩ | ⟨g, q, hg, h3⟩
  · exact .inl ⟨q, h3⟩
  · simp [Value.ownBlock] at q
    subst q
    exact .inr ⟨hg, h3⟩

theorem wpList_append_cells1 {w : World} {ops : Array Oper} {rest : List Oper} {o : Oper} {a : Act} {Q : Exit → Act → World → Prop} (hgd : o.guard = none) (s x : Operand) (t : TypeId)
    (ho : o.op = .call { callee := .builtin .append, args := #[s, x], argTypes := #[t, t] })
    (e : TypeId) (i : TypeInfo) (z : Value) (size bytes : Nat) (ht : P.underlying t = some (.slice e)) (hi : P.info? e = some i) (hz : i.zero = some z) (hsize : i.size = size) (hby : i.bytes = bytes) (hzs : z.cells.size = size) (hsz : 0 < size)
    (v : Value) (n : Nat) (xs : List Value) (hs : a.eval s = v) (hown : w.ownsRow 0 e size v n xs)
    (ad : Addr) (c : Nat) (us : List Value) (hl : us.length = size) (hx : a.eval x = .slice (some ad) 1 c) (hnews : ∀ (j : Nat) y, us[j]? = some y → w.cell? (ad.add j) = some y) (h1 : ∀ u ∈ us, u.oneCell' = true)
    (h63 : n + 1 ≤ maxLen) (hbytes : (n + 1) * bytes ≤ 140737488355328)
    (h : ∀ g' cap' w', w'.ownsRow 0 e size (.slice (some ⟨g', 0, none⟩) (n + 1) cap') (n + 1) (xs ++ us) → ((some g' = v.ownBlock ∧ w.grownBy w' v.ownBlock) ∨ (w.heap.size ≤ g' ∧ w.grownBy w' none)) → wpList P ops Q rest (a.put o.dst (.slice (some ⟨g', 0, none⟩) (n + 1) cap')) w') :
    wpList P ops Q (o :: rest) a w := by
  refine wpList_plain hgd fun K hK => ?_
  have hw : Region.wanted o (yielded ops a.tmps) = true := by simp [Region.wanted, hgd]
  have q := step_append_cells (K := K) (Q := Q) (E := False) hgd s x t ho e i z size bytes ht hi hz hsize hby hzs hsz v n xs hs hown ad c us hl hx hnews h1 h63 hbytes (ops := ops) (fun g' cap' w' h2 h3 => hK _ _ (h g' cap' w' h2 h3))
  rw [if_pos hw] at q
  exact q
end

theorem take_set_self {l : List Value} {k : Nat} {u : Value} (h : k < l.length) : (l.set k u).take (k + 1) = l.take k ++ [u] := by
  rw [List.take_succ_eq_append_getElem (by simpa using h), List.take_set_of_le (Nat.le_refl k)]
  simp

theorem fill_list : ∀ (us : List Value) (k : Nat) (cs : Array Value), k + us.length = cs.size → ((us.zipIdx k).foldl (fun cs (p : Value × Nat) => cs.setIfInBounds p.2 p.1) cs).toList = cs.toList.take k ++ us
  | [], k, cs, h => by simp at h; subst h; simp [← Array.length_toList]
  | u :: r, k, cs, h => by
    rw [List.zipIdx_cons, List.foldl_cons]
    simp only [List.length_cons] at h
    rw [fill_list r (k + 1) _ (by simp; omega)]
    simp only [Array.toList_setIfInBounds]
    rw [take_set_self (by simp; omega), List.append_assoc]
    rfl

theorem run_buildSlice_one {P : Program} (w : World) (t e : TypeId) (i : TypeInfo) (z : Value) (us : List Value) (ht : P.underlying t = some (.slice e)) (hi : P.info? e = some i) (hz : i.zero = some z) (hs : i.size = us.length) (h0 : 0 < us.length) (h24 : us.length ≤ 16777216) :
    (Instr.buildSlice t 1 #[(0, .agg us.toArray)]).run P w = .ok (.slice (some ⟨w.heap.size, 0, none⟩) 1 1) (w.alloc (.cells us.toArray e)) := by
  have hsz : (sizeOf e).run P w = .ok us.length w := by simp [sizeOf, typeInfo, hi, hs]
  have hzv : (zeroValue e).run P w = .ok z w := by simp [zeroValue, typeInfo, hi, hz]
  have hfill : ∀ cs : Array Value, cs.size = us.length → Instr.fill (fun i => some (i * us.length, us.length)) cs [(0, Value.agg us.toArray)] = some us.toArray := by
    intro cs hc
    have hu : (Value.agg us.toArray).cells = us.toArray := rfl
    have hlast := fill_list us 0 cs (by omega)
    simp only [List.take_zero, List.nil_append] at hlast
    have hfold : (Value.agg us.toArray).cells.zipIdx.foldl (fun cs (p : Value × Nat) => cs.setIfInBounds p.2 p.1) cs = us.toArray := by
      apply Array.toList_inj.1
      rw [hu, ← Array.foldl_toList]
      simpa using hlast
    unfold Instr.fill
    simp only [Nat.zero_mul, Nat.zero_add]
    rw [if_neg (by simp [hu, hc])]
    unfold Instr.fill
    exact congrArg some hfold
  unfold Instr.buildSlice
  have h24' : ¬ (1 * us.length > 2 ^ 24) := by omega
  have h0' : ¬ (1 * us.length = 0) := by omega
  simp only [Sem.run_bind, run_underlying ht, Result.andThen_ok, hsz, h24', h0', if_false, hzv, Sem.run_pure]
  rw [hfill _ (by simp)]
  simp only [newRow, Sem.run_bind, run_newObj, Result.andThen_ok, Sem.run_pure]
  rfl

theorem step_buildSlice_one {P : Program} {w : World} {ops : Array Oper} {o : Oper} {a : Act} {K : Act → World → Prop} {Q : Exit → Act → World → Prop} {E : Prop} (hgd : o.guard = none) (t e : TypeId) (x : Operand) (ho : o.op = .buildSlice t 1 #[(0, x)]) (i : TypeInfo) (z : Value) (us : List Value) (hx : a.eval x = .agg us.toArray)
    (ht : P.underlying t = some (.slice e)) (hi : P.info? e = some i) (hz : i.zero = some z) (hs : i.size = us.length) (h0 : 0 < us.length) (h24 : us.length ≤ 16777216)
    (h : K (a.put o.dst (.slice (some ⟨w.heap.size, 0, none⟩) 1 1)) (w.alloc (.cells us.toArray e))) : if Region.wanted o (yielded ops a.tmps) = true then Oper.wp P o a w K Q else E := by
  have hw : Region.wanted o (yielded ops a.tmps) = true := by simp [Region.wanted, hgd]
  rw [if_pos hw]
  unfold Oper.wp execOp
  have hr := run_buildSlice_one (P := P) w t e i z us ht hi hz hs h0 h24
  simp only [ho, List.map_toArray, List.map_cons, List.map_nil, hx, Sem.run_bind, hr, Result.andThen_ok, Sem.run_pure]
  exact h
theorem wpList_buildSlice_one {P : Program} {w : World} {ops : Array Oper} {rest : List Oper} {o : Oper} {a : Act} {Q : Exit → Act → World → Prop} (hgd : o.guard = none) (t e : TypeId) (x : Operand) (ho : o.op = .buildSlice t 1 #[(0, x)]) (i : TypeInfo) (z : Value) (us : List Value) (hx : a.eval x = .agg us.toArray)
    (ht : P.underlying t = some (.slice e)) (hi : P.info? e = some i) (hz : i.zero = some z) (hs : i.size = us.length) (h0 : 0 < us.length) (h24 : us.length ≤ 16777216)
    (h : wpList P ops Q rest (a.put o.dst (.slice (some ⟨w.heap.size, 0, none⟩) 1 1)) (w.alloc (.cells us.toArray e))) : wpList P ops Q (o :: rest) a w := by
  refine wpList_plain hgd fun K hK => ?_
  have hw : Region.wanted o (yielded ops a.tmps) = true := by simp [Region.wanted, hgd]
  have q := step_buildSlice_one (K := K) (Q := Q) (E := False) (ops := ops) hgd t e x ho i z us hx ht hi hz hs h0 h24 (hK _ _ h)
  rw [if_pos hw] at q
  exact q

/-- Cells stored at once. -/
theorem keeps_setCells (b : Nat) : ∀ (vs : List Value) (o : Nat) (w : World), Keeps (fun k => k = b) w (w.setCells b o vs)
  | [], _, w => Keeps.refl _ w
  | v :: r, o, w => Keeps.trans (keeps_setCell w b o v) (keeps_setCells b r (o + 1) _) (fun _ _ e => e)
theorem setCells_row {b : Nat} {t : TypeId} : ∀ (vs : List Value) (o : Nat) (w : World) (C : Array Value), w.heap[b]? = some (.cells C t (0, 0)) → ∃ C', (w.setCells b o vs).heap[b]? = some (.cells C' t (0, 0)) ∧ C'.size = C.size
  | [], _, _, C, h => ⟨C, h, rfl⟩
  | v :: r, o, w, C, h => by
    obtain ⟨C', h1, h2⟩ := setCells_row r (o + 1) _ _ (setCell_row h o v)
    exact ⟨C', h1, by rw [h2]; simp⟩

/-- Behind a store of some cells of a durable sector. -/
theorem Dur.set {W : World} {g : Nat} {D : List (List UInt8)} (h : Dur W g D) (hD : ∀ (i : Nat) (t : List UInt8), D[i]? = some t → t.length = 256) {p n : Nat} {s : List UInt8} (hp : p < D.length) (hn : n ≤ 256) (hs : s.length = 256) :
    Dur (W.setCells g (p * 256) (Lib.byteCells (s.take n))) g (D.set p (tornBy (D.getD p []) s n)) := by
  obtain ⟨C, hC, hz⟩ := h.blk
  obtain ⟨C', hC', hz'⟩ := setCells_row (Lib.byteCells (s.take n)) (p * 256) W C hC
  have hl : (Lib.byteCells (s.take n)).length = n := by rw [Lib.byteCells_length, List.length_take]; omega
  refine ⟨⟨C', hC', by rw [hz', hz, List.length_set]⟩, fun i t hi => ?_⟩
  rw [List.getElem?_set] at hi
  split at hi
  · rename_i e
    subst e
    first | (rw [if_pos hp] at hi; injection hi with hi; subst hi) | (injection hi with hi; subst hi)
    have hold : D[p]? = some (D.getD p []) := by simp [List.getD, hp]
    intro j v hj
    unfold tornBy at hj
    rw [Lib.byteCells_append] at hj
    by_cases hjn : j < n
    · rw [List.getElem?_append_left (by omega)] at hj
      have := World.rangeAt_setCells_same W g (p * 256) (Lib.byteCells (s.take n)) (fun q hq => ?_) j v hj
      · exact this
      · have hq2 : q < 256 := by omega
        exact ⟨(h.rng p _ hold).isSome q (by rw [Lib.byteCells_length, hD p _ hold]; exact hq2), frozen_of_row hC _⟩
    · rw [List.getElem?_append_right (by omega), hl] at hj
      have hj' : (Lib.byteCells (D.getD p []))[j]? = some v := by
        simp only [Lib.byteCells, List.map_drop, List.getElem?_drop] at hj
        rw [show n + (j - n) = j by omega] at hj
        exact hj
      have hlj := (List.getElem?_eq_some_iff.1 hj').1
      rw [World.cell?_setCells_out g _ (p * 256) W ⟨g, p * 256 + j, none⟩ (fun _ _ => .inr (by show p * 256 + (Lib.byteCells (s.take n)).length ≤ p * 256 + j; omega))]
      exact h.rng p _ hold j v hj'
  · rename_i e
    have hti := hD i t hi
    refine World.rangeAt_setCells_apart (h.rng i t hi) g (p * 256) _ (.inr ?_)
    rw [hl, Lib.byteCells_length, hti]
    rcases Nat.lt_or_gt_of_ne e with e | e
    · right; have : p * 256 + 256 ≤ i * 256 := by omega
      omega
    · left; omega
end Go.Proofs.YtggogaaooacooaaDoor
