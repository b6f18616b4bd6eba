/-
  Lists of texts that are owned apart, and what grows out of them: for remitmem.OwnTexts.
-/
import Derived.Test.YtilhkbohemghlaaDoorSpare
import Derived.Test.YtilhkbohemghlaaDoorPut7
namespace Go.Proofs.YtilhkbohemghlaaDoor
open Go.ChangeShapes Go.WideShapes Go.ChangeAt Go.RowKit
set_option maxRecDepth 100000

/-- The first k marks of list i. -/
noncomputable def marksOf (i k : Nat) : List (List UInt8) := (List.range k).map fun t => wordL (i : Nat) (t : Nat)
theorem marksOf_length (i k : Nat) : (marksOf i k).length = k := by simp [marksOf]
theorem marksOf_succ (i k : Nat) : marksOf i (k + 1) = marksOf i k ++ [wordL (i : Nat) (k : Nat)] := by simp [marksOf, List.range_succ]
theorem marksOf_get {i k t : Nat} (h : t < k) : ((marksOf i k).map strV)[t]? = some (strV (wordL (i : Nat) (t : Nat))) := by simp [marksOf, h]

section
variable {P : Program} (w : World)
/-- APPEND OF CELLS to an owned row: in place (that row alone is written), or into a new block (nothing is written). -/
theorem run_append_cells1 (t ty e : TypeId) (i : TypeInfo) (z : Value) (size bytes : Nat) (ht : P.underlying t = some (.slice e)) (hi : P.info? e = some i) (hz : i.zero = some z)
    (hsize : i.size = size) (hby : i.bytes = bytes) (hzs : z.cells.size = size) (hsz : 0 < size)
    (v : Value) (n : Nat) (xs : List Value) (hown : w.ownsRow 0 e size v n xs)
    (a : Addr) (m c : Nat) (news : List Value) (hl : news.length = m * size) (hnews : ∀ j u, news[j]? = some u → w.cell? (a.add j) = some u) (h1 : ∀ u ∈ news, u.oneCell' = true)
    (h63 : n + m ≤ maxLen) (hbytes : (n + m) * bytes ≤ 140737488355328) :
    ∃ v' w', (Builtin.append_ #[t, t] ty #[v, .slice (some a) m c]).run P w = .ok v' w' ∧ w'.ownsRow 0 e size v' (n + m) (xs ++ news) ∧ ((v'.ownBlock = v.ownBlock ∧ w.grownBy w' v.ownBlock) ∨ (∃ g, v'.ownBlock = some g ∧ w.heap.size ≤ g ∧ w.grownBy w' none)) := by
  subst hsize
  subst hby
  have hsmall : n + m ≤ 9223372036854775807 := by simp only [maxLen] at h63; omega
  have hlen : (xs ++ news).length = (n + m) * i.size := by rw [List.length_append, hown.1, hl, Nat.add_mul]
  have grown : ∀ (old : Nat), old < n + m → ∀ (row : Option Nat),
      (w.drew.alloc (.cells (xs.toArray ++ news.toArray ++ Builtin.zeroCells z.cells (grownCap w (n + m) old e - (n + m))) e)).ownsRow 0 e i.size
        (.slice (some ⟨w.heap.size, 0, none⟩) (n + m) (grownCap w (n + m) old e)) (n + m) (xs ++ news) ∧
      w.grownBy (w.drew.alloc (.cells (xs.toArray ++ news.toArray ++ Builtin.zeroCells z.cells (grownCap w (n + m) old e - (n + m))) e)) row := by
    intro old ho row
    have hge := grownCap_ge w (n + m) old e
    have hcm : grownCap w (n + m) old e ≤ maxLen := grownCap_le_maxLen w (n + m) old e h63
    refine ⟨⟨hlen, .inr ⟨w.heap.size, _, _, rfl, Nat.zero_le _, heap_alloc_new w.drew _, hge, hcm, ?_, ?_⟩⟩, ⟨rfl, rfl, rfl, by simp, fun k hk _ => Below.heap_alloc w.drew _ k hk⟩⟩
    · simp only [Array.size_append, List.size_toArray, size_zeroCells, hzs, hown.1, hl, ← Nat.add_mul]
      congr 1
      omega
    · simp only [Array.toList_append, List.append_assoc]
      rw [← List.append_assoc, ← hlen]
      exact List.take_left
  rcases hown.2 with ⟨rfl, rfl⟩ | ⟨g, cap, cur, rfl, hbg, hg, hnc, hcm, hcs, htake⟩
  · have hx : xs = [] := List.eq_nil_of_length_eq_zero (by simpa using hown.1)
    subst hx
    by_cases hm : m = 0
    · subst hm
      have hn : news = [] := List.eq_nil_of_length_eq_zero (by simpa using hl)
      subst hn
      refine ⟨.slice none 0 0, w, ?_, World.ownsRow_nil w 0 e i.size, .inl ⟨rfl, ⟨rfl, rfl, rfl, Nat.le_refl _, fun _ _ _ => rfl⟩⟩⟩
      simp [Builtin.append_, run_underlying ht, sizeOf, typeInfo, hi, Builtin.lenOf, Builtin.firstCells, loadCells, loadCellsFrom]
    · have hr := run_append_nil (P := P) w t ty e i z ht hi hz a m c news hl hnews (by omega) (by omega) (by have hb := hbytes; simp only [Nat.zero_add] at hb; omega)
      have hgr := grown 0 (by omega) none
      simp only [Nat.zero_add, List.nil_append, Array.empty_append] at hgr ⊢
      exact ⟨_, _, hr, hgr.1, .inr ⟨_, rfl, Nat.le_refl _, hgr.2⟩⟩
  · by_cases hroom : n + m ≤ cap
    · have hfit : n * i.size + news.length ≤ cur.size := by rw [hl, hcs, ← Nat.add_mul]; exact Nat.mul_le_mul_right _ hroom
      have hr := run_append_roomF (P := P) w t ty e i ht hi g n cap cur (0, 0) hg (Nat.zero_le _) a m c news hl hnews h1 hroom hfit
      refine ⟨_, _, hr, ⟨hlen, .inr ⟨g, cap, _, rfl, hbg, setRow_heap w g cur _ e _ hg, hroom, hcm, ?_, ?_⟩⟩, .inl ⟨rfl, ⟨rfl, rfl, rfl, by simp, fun k _ hk => setRow_other w g k _ (fun e => hk (by simp [Value.ownBlock, e]))⟩⟩⟩
      · simp only [List.size_toArray, List.length_append, List.length_take, List.length_drop, Array.length_toList]
        omega
      · rw [htake, ← hlen]
        exact List.take_left
    · have holds : ∀ j u, xs[j]? = some u → w.cell? ((⟨g, 0, none⟩ : Addr).add j) = some u := (World.ownsRowF_of hown).cells (g := g) rfl
      have hr := run_append_grow (P := P) w t ty e i z ht hi hz ⟨g, 0, none⟩ n cap xs hown.1 holds a m c news hl hnews (by omega) (by omega) (growslice_fits (by omega) hbytes)
      have hgr := grown cap (by omega) none
      exact ⟨_, _, hr, hgr.1, .inr ⟨_, rfl, Nat.le_refl _, hgr.2⟩⟩


/-- One cell: at a step of a region that draws. -/
theorem step_append_one {ops : Array Oper} {o : Oper} {a : Act} {K : Act → World → Prop} {Q : Exit → Act → World → Prop} {E : Prop} (hgd : o.guard = none) (s x : Operand) (t : TypeId)
    (ho : o.op = .call { callee := .builtin .append, args := #[s, x], argTypes := #[t, t] })
    (e : TypeId) (i : TypeInfo) (z : Value) (bytes : Nat) (ht : P.underlying t = some (.slice e)) (hi : P.info? e = some i) (hz : i.zero = some z) (hsize : i.size = 1) (hby : i.bytes = bytes) (hzs : z.cells.size = 1)
    (v : Value) (n : Nat) (xs : List Value) (hs : a.eval s = v) (hown : w.ownsRow 0 e 1 v n xs)
    (ad : Addr) (c : Nat) (u : Value) (hx : a.eval x = .slice (some ad) 1 c) (hnews : ∀ (j : Nat) y, [u][j]? = some y → w.cell? (ad.add j) = some y) (h1 : u.oneCell' = true)
    (h63 : n + 1 ≤ maxLen) (hbytes : (n + 1) * bytes ≤ 140737488355328)
    (h : ∀ g' cap' w', w'.ownsRow 0 e 1 (.slice (some ⟨g', 0, none⟩) (n + 1) cap') (n + 1) (xs ++ [u]) → ((some g' = v.ownBlock ∧ w.grownBy w' v.ownBlock) ∨ (w.heap.size ≤ g' ∧ w.grownBy w' none)) → K (a.put o.dst (.slice (some ⟨g', 0, none⟩) (n + 1) cap')) w') :
    if Region.wanted o (yielded ops a.tmps) = true then Oper.wp P o a w K Q else E := by
  have hw : Region.wanted o (yielded ops a.tmps) = true := by simp [Region.wanted, hgd]
  rw [if_pos hw]
  obtain ⟨v', w', hr, h2, h3⟩ := run_append_cells1 (P := P) w t o.type e i z 1 bytes ht hi hz hsize hby hzs (by decide) v n xs hown ad 1 c [u] rfl hnews (by intro y hy; rw [List.mem_singleton.1 hy]; exact h1) h63 hbytes
  have hform : ∃ g cap, v' = .slice (some ⟨g, 0, none⟩) (n + 1) cap := by
    rcases h2.2 with ⟨_, h0⟩ | ⟨g, cap, cur, e', _⟩
    · omega
    · exact ⟨g, cap, e'⟩
  obtain ⟨g', cap', rfl⟩ := hform
  unfold Oper.wp execOp
  simp only [ho, resolve, invoke, builtin, Sem.run_bind, Sem.run_pure, Result.andThen_ok, List.map_toArray, List.map_cons, List.map_nil, hs, hx, hr]
  refine h g' cap' w' h2 ?_
  rcases h3 with ⟨q, h3⟩ | ⟨g, q, hg, h3⟩
  · exact .inl ⟨q, h3⟩
  · simp [Value.ownBlock] at q
    subst q
    exact .inr ⟨hg, h3⟩
end

/-- The marks of list i, k of its n texts marked. -/
def Marked (i n k : Nat) (v : Value) (w : World) : Prop := ∃ xs, w.ownsRow 0 9 1 v n xs ∧ ∀ t, t < k → xs[t]? = some (strV (wordL (i : Nat) (t : Nat)))

theorem own_shape1 {w : World} {e : TypeId} {v : Value} {n : Nat} {xs : List Value} (h : w.ownsRow 0 e 1 v n xs) : ∃ a c, v = .slice a n c ∧ (0 < n → ∃ b, a = some ⟨b, 0, none⟩) := by
  rcases h.2 with ⟨rfl, rfl⟩ | ⟨g, cap, cur, rfl, _⟩
  · exact ⟨none, 0, rfl, fun h => absurd h (by omega)⟩
  · exact ⟨_, cap, rfl, fun _ => ⟨g, rfl⟩⟩

theorem own_cell {w : World} {e : TypeId} {b n c : Nat} {xs : List Value} (h : w.ownsRow 0 e 1 (.slice (some ⟨b, 0, none⟩) n c) n xs) {i : Nat} {u : Value} (hi : xs[i]? = some u) : w.cell? ⟨b, i, none⟩ = some u ∧ w.frozen? ⟨b, i, none⟩ = false := by
  have h1 := h.cells (g := b) rfl i u hi
  rw [add_plain, Nat.zero_add] at h1
  refine ⟨h1, ?_⟩
  rcases h.2 with ⟨e, _⟩ | ⟨g', cap', cur, e, _, hg, _⟩
  · cases e
  · injection e with e _ _
    injection e with e
    injection e with e
    subst e
    exact Lib.frozen_of_heap hg i

theorem map_range_get {α : Type} (f : Nat → α) {n k : Nat} (h : k < n) : ((List.range n).map f)[k]? = some (f k) := by simp [h]

/-- n lists, list j of len j texts, in blocks apart; d j of its texts are marked. -/
structure Apart (n : Nat) (v : Value) (l : Nat → Value) (len d : Nat → Nat) (w : World) : Prop where
  lists : w.ownsRow 0 28 1 v n ((List.range n).map l)
  each : ∀ j, j < n → Marked j (len j) (d j) (l j) w
  far : ∀ j k, j < n → k < n → ∀ b, (l j).ownBlock = some b → (l k).ownBlock = some b → j = k
  off : ∀ j, j < n → ∀ b, (l j).ownBlock = some b → v.ownBlock ≠ some b

theorem Marked.kept {i n k : Nat} {v : Value} {S : Nat → Prop} {w w' : World} (h : Marked i n k v w) (hk : Keeps S w w') (hn : ∀ b, v.ownBlock = some b → ¬ S b) : Marked i n k v w' := by
  obtain ⟨xs, h1, h2⟩ := h
  exact ⟨xs, ownsRow_kept h1 hk hn, h2⟩

theorem Apart.quiet {n : Nat} {v : Value} {l : Nat → Value} {len d : Nat → Nat} {w w' : World} (h : Apart n v l len d w) (k : Keeps (fun _ => False) w w') : Apart n v l len d w' :=
  ⟨ownsRow_kept h.lists k (fun _ _ e => e), fun j hj => (h.each j hj).kept k (fun _ _ e => e), h.far, h.off⟩

theorem Apart.shape {n : Nat} {v : Value} {l : Nat → Value} {len d : Nat → Nat} {w : World} (h : Apart n v l len d w) {k : Nat} (hk : k < n) : ∃ a c, l k = .slice a (len k) c ∧ (0 < len k → ∃ b, a = some ⟨b, 0, none⟩) := by
  obtain ⟨xs, h1, _⟩ := h.each k hk
  exact own_shape1 h1

/-- How many are marked: all of the lists ahead of k, t of list k. -/
def dOf (len : Nat → Nat) (k t j : Nat) : Nat := if j < k then len j else if j = k then t else 0
theorem dOf_next (len : Nat → Nat) (k : Nat) : dOf len k (len k) = dOf len (k + 1) 0 := by
  funext j
  unfold dOf
  by_cases h1 : j < k
  · rw [if_pos h1, if_pos (by omega)]
  · by_cases h2 : j = k
    · subst h2; rw [if_neg h1, if_pos rfl, if_pos (by omega)]
    · rw [if_neg h1, if_neg h2, if_neg (by omega)]; simp

theorem Apart.slot {n : Nat} {v : Value} {l : Nat → Value} {len d : Nat → Nat} {w : World} (h : Apart n v l len d w) {k b c t : Nat} (hk : k < n) (hl : l k = .slice (some ⟨b, 0, none⟩) (len k) c) (ht : t < len k) : (∃ u, w.cell? ⟨b, t, none⟩ = some u) ∧ w.frozen? ⟨b, t, none⟩ = false := by
  obtain ⟨xs, h1, _⟩ := h.each k hk
  rw [hl] at h1
  have hx : xs.length = len k := by simpa using h1.1
  obtain ⟨h2, h3⟩ := own_cell h1 (List.getElem?_eq_getElem (l := xs) (i := t) (by omega))
  exact ⟨⟨_, h2⟩, h3⟩

theorem Apart.mark {n : Nat} {v : Value} {l : Nat → Value} {len : Nat → Nat} {w : World} {k b c t : Nat} (h : Apart n v l len (dOf len k t) w) (hk : k < n) (hl : l k = .slice (some ⟨b, 0, none⟩) (len k) c) (ht : t < len k) :
    Apart n v l len (dOf len k (t + 1)) (w.setCell ⟨b, t, none⟩ (strV (wordL (k : Nat) (t : Nat)))) := by
  have hK : Keeps (fun x => x = b) w (w.setCell ⟨b, t, none⟩ (strV (wordL (k : Nat) (t : Nat)))) := (Keeps.refl (fun x => x = b) w).setCell (p := ⟨b, t, none⟩) (fun _ => rfl) _
  have hb : (l k).ownBlock = some b := by rw [hl]; rfl
  refine ⟨ownsRow_kept h.lists hK (fun x e q => h.off k hk b hb (q ▸ e)), fun j hj => ?_, h.far, h.off⟩
  by_cases e : j = k
  · subst e
    obtain ⟨xs, h1, h2⟩ := h.each j hk
    rw [hl] at h1 ⊢
    have hx : xs.length = len j := by simpa using h1.1
    refine ⟨_, ownsRow_store h1 ht _, fun s hs => ?_⟩
    have hd : dOf len j (t + 1) j = t + 1 := by unfold dOf; rw [if_neg (by omega), if_pos rfl]
    have hd' : dOf len j t j = t := by unfold dOf; rw [if_neg (by omega), if_pos rfl]
    rw [hd] at hs
    by_cases e2 : s = t
    · subst e2
      simp [hx, ht]
    · rw [List.getElem?_set_ne (by omega)]
      exact h2 s (by rw [hd']; omega)
  · have h3 := (h.each j hj).kept hK (fun x e1 q => e (h.far j k hj hk b (q ▸ e1) hb))
    have hd : dOf len k (t + 1) j = dOf len k t j := by unfold dOf; rw [if_neg e, if_neg e]
    rw [hd]
    exact h3

def upd {α : Type} (f : Nat → α) (k : Nat) (x : α) (j : Nat) : α := if j = k then x else f j
theorem upd_same {α : Type} (f : Nat → α) (k : Nat) (x : α) : upd f k x k = x := if_pos rfl
theorem upd_other {α : Type} (f : Nat → α) {k j : Nat} (x : α) (h : j ≠ k) : upd f k x j = f j := if_neg h
theorem upd_set {α : Type} (f : Nat → α) (n k : Nat) (x : α) : ((List.range n).map f).set k x = (List.range n).map (upd f k x) := by
  apply List.ext_getElem?
  intro j
  by_cases hj : j < n
  · by_cases e : j = k
    · subst e
      rw [map_range_get _ hj, upd_same]
      simp [hj]
    · rw [List.getElem?_set_ne (by omega), map_range_get _ hj, map_range_get _ hj, upd_other _ _ e]
  · rw [List.getElem?_eq_none (by simp; omega), List.getElem?_eq_none (by simp; omega)]

/-- The lists, and what grows out of them; B: what is new since. -/
structure Pool (n : Nat) (v gv : Value) (l : Nat → Value) (len : Nat → Nat) (B : Nat) (G : Nat → Value) (cnt : Nat → Nat) (w : World) : Prop where
  lists : w.ownsRow 0 28 1 v n ((List.range n).map l)
  grown : w.ownsRow 0 28 1 gv n ((List.range n).map G)
  each : ∀ j, j < n → w.ownsRow 0 9 1 (G j) (cnt j) ((marksOf j (cnt j)).map strV)
  old : ∀ j, j < n → ∀ b, (l j).ownBlock = some b → ∀ t, t < len j → w.cell? ⟨b, t, none⟩ = some (strV (wordL (j : Nat) (t : Nat)))
  le : ∀ j, j < n → len j ≤ cnt j
  far : ∀ i j, i < n → j < n → ∀ b, (G i).ownBlock = some b → (G j).ownBlock = some b → i = j
  farL : ∀ i j, i < n → j < n → ∀ b, (G i).ownBlock = some b → (l j).ownBlock = some b → i = j
  offG : ∀ j, j < n → ∀ b, (G j).ownBlock = some b → v.ownBlock ≠ some b ∧ gv.ownBlock ≠ some b
  offL : ∀ j, j < n → ∀ b, (l j).ownBlock = some b → gv.ownBlock ≠ some b
  gvv : ∀ b, gv.ownBlock = some b → v.ownBlock ≠ some b
  new : ∀ j, j < n → ∀ b, (G j).ownBlock = some b → (l j).ownBlock = some b ∨ B ≤ b
  newg : ∀ b, gv.ownBlock = some b → B ≤ b
  ltL : ∀ j, j < n → ∀ b, (l j).ownBlock = some b → b < w.heap.size
  shapeL : ∀ j, j < n → ∃ a c, l j = .slice a (len j) c ∧ (0 < len j → ∃ b, a = some ⟨b, 0, none⟩)

theorem Pool.quiet {n : Nat} {v gv : Value} {l : Nat → Value} {len : Nat → Nat} {B : Nat} {G : Nat → Value} {cnt : Nat → Nat} {w w' : World} (h : Pool n v gv l len B G cnt w) (k : Keeps (fun _ => False) w w') : Pool n v gv l len B G cnt w' :=
  ⟨ownsRow_kept h.lists k (fun _ _ e => e), ownsRow_kept h.grown k (fun _ _ e => e), fun j hj => ownsRow_kept (h.each j hj) k (fun _ _ e => e),
    fun j hj b hb t ht => (k.cell (h.ltL j hj b hb) (fun e => e)).trans (h.old j hj b hb t ht), h.le, h.far, h.farL, h.offG, h.offL, h.gvv, h.new, h.newg, fun j hj b hb => Nat.lt_of_lt_of_le (h.ltL j hj b hb) k.size, h.shapeL⟩

theorem Pool.congr {n : Nat} {v gv : Value} {l : Nat → Value} {len : Nat → Nat} {B : Nat} {G : Nat → Value} {cnt cnt' : Nat → Nat} {w : World} (h : Pool n v gv l len B G cnt w) (he : ∀ j, j < n → cnt j = cnt' j) : Pool n v gv l len B G cnt' w :=
  ⟨h.lists, h.grown, fun j hj => he j hj ▸ h.each j hj, h.old, fun j hj => he j hj ▸ h.le j hj, h.far, h.farL, h.offG, h.offL, h.gvv, h.new, h.newg, h.ltL, h.shapeL⟩

/-- Where the lists are marked whole, and a row beside holds them too. -/
theorem Pool.start {n : Nat} {v gv : Value} {l : Nat → Value} {len d : Nat → Nat} {B : Nat} {w w' : World} (h : Apart n v l len d w) (hd : ∀ j, j < n → d j = len j) (k : Keeps (fun _ => False) w w') (hg : w'.ownsRow 0 28 1 gv n ((List.range n).map l)) (hB : B ≤ w.heap.size) (hn : ∀ b, gv.ownBlock = some b → w.heap.size ≤ b) :
    Pool n v gv l len B l len w' := by
  have hv : ∀ b, v.ownBlock = some b → b < w.heap.size := fun b e => ownsRow_lt h.lists e
  have hl : ∀ j, j < n → ∀ b, (l j).ownBlock = some b → b < w.heap.size := fun j hj b e => by
    obtain ⟨xs, h1, _⟩ := h.each j hj
    exact ownsRow_lt h1 e
  have hx : ∀ j, j < n → w.ownsRow 0 9 1 (l j) (len j) ((marksOf j (len j)).map strV) := fun j hj => by
    obtain ⟨xs, h1, h2⟩ := h.each j hj
    have hxl : xs.length = len j := by simpa using h1.1
    have e : xs = (marksOf j (len j)).map strV := by
      apply List.ext_getElem?
      intro t
      by_cases ht : t < len j
      · rw [h2 t (by rw [hd j hj]; exact ht), marksOf_get ht]
      · rw [List.getElem?_eq_none (by omega), List.getElem?_eq_none (by simp [marksOf_length]; omega)]
    rw [← e]
    exact h1
  refine ⟨ownsRow_kept h.lists k (fun _ _ e => e), hg, fun j hj => ownsRow_kept (hx j hj) k (fun _ _ e => e), fun j hj b hb t ht => ?_, fun _ _ => Nat.le_refl _, h.far, h.far, fun j hj b hb => ⟨h.off j hj b hb, fun e => ?_⟩, fun j hj b hb e => ?_, fun b e q => ?_, fun j _ b hb => .inl hb, fun b e => Nat.le_trans hB (hn b e), fun j hj b hb => Nat.lt_of_lt_of_le (hl j hj b hb) k.size, fun j hj => h.shape hj⟩
  · have h1 := (hx j hj).cells hb t _ (marksOf_get ht)
    rw [add_plain, Nat.zero_add] at h1
    exact (k.cell (hl j hj b hb) (fun e => e)).trans h1
  · have := hn b e; have := hl j hj b hb; omega
  · have := hn b e; have := hl j hj b hb; omega
  · have := hn b e; have := hv b q; omega

/-- ONE MORE MARK behind list k: in place or in a new block; the row holds the new value. -/
theorem Pool.grow {n : Nat} {v gv : Value} {l : Nat → Value} {len : Nat → Nat} {B : Nat} {G : Nat → Value} {cnt : Nat → Nat} {w w2 w3 : World} {k gg cg g' cap' : Nat} (h : Pool n v gv l len B G cnt w) (hk : k < n) (hgv : gv = .slice (some ⟨gg, 0, none⟩) n cg) (k2 : Keeps (fun _ => False) w w2) (hB : B ≤ w.heap.size)
    (hown : w3.ownsRow 0 9 1 (.slice (some ⟨g', 0, none⟩) (cnt k + 1) cap') (cnt k + 1) ((marksOf k (cnt k)).map strV ++ [strV (wordL (k : Nat) (cnt k : Nat))]))
    (hc : (some g' = (G k).ownBlock ∧ w2.grownBy w3 (G k).ownBlock) ∨ (w2.heap.size ≤ g' ∧ w2.grownBy w3 none)) :
    (w3.cell? ⟨gg, k, none⟩ = some (G k) ∧ w3.frozen? ⟨gg, k, none⟩ = false) ∧
    Pool n v gv l len B (upd G k (.slice (some ⟨g', 0, none⟩) (cnt k + 1) cap')) (upd cnt k (cnt k + 1)) (w3.setCell ⟨gg, k, none⟩ (.slice (some ⟨g', 0, none⟩) (cnt k + 1) cap')) ∧
    Keeps (fun b => (l k).ownBlock = some b ∨ B ≤ b) w (w3.setCell ⟨gg, k, none⟩ (.slice (some ⟨g', 0, none⟩) (cnt k + 1) cap')) := by
  have h2 := h.quiet k2
  have hz := k2.size
  have hgg : gv.ownBlock = some gg := by rw [hgv]; rfl
  -- what the append has written
  have K3 : Keeps (fun b => (G k).ownBlock = some b ∧ b = g') w2 w3 := by
    rcases hc with ⟨e, hg⟩ | ⟨_, hg⟩
    · exact Keeps.grown (Keeps.refl _ _) hg (fun j _ q => ⟨q.symm, by rw [← e] at q; injection q⟩)
    · exact Keeps.grown (Keeps.refl _ _) hg (fun j _ q => by cases q)
  have hz3 := K3.size
  have K4 : Keeps (fun b => b = gg) w3 (w3.setCell ⟨gg, k, none⟩ (.slice (some ⟨g', 0, none⟩) (cnt k + 1) cap')) := (Keeps.refl (fun b => b = gg) w3).setCell (p := ⟨gg, k, none⟩) (fun _ => rfl) _
  -- the new value's block
  have hg' : (G k).ownBlock = some g' ∨ w2.heap.size ≤ g' := by
    rcases hc with ⟨e, _⟩ | ⟨e, _⟩
    · exact .inl e.symm
    · exact .inr e
  have ltG : ∀ j, j < n → ∀ b, (G j).ownBlock = some b → b < w2.heap.size := fun j hj b e => ownsRow_lt (h2.each j hj) e
  have ltV : ∀ b, v.ownBlock = some b → b < w2.heap.size := fun b e => ownsRow_lt h2.lists e
  have ltg : gg < w2.heap.size := ownsRow_lt h2.grown hgg
  have ltL := h2.ltL
  have ng : g' ≠ gg := by
    rcases hg' with e | e
    · exact fun q => (h.offG k hk g' e).2 (q ▸ hgg)
    · omega
  have lists3 := ownsRow_kept h2.lists K3 (fun b e q => (h.offG k hk b q.1).1 e)
  have grown3 := ownsRow_kept h2.grown K3 (fun b e q => (h.offG k hk b q.1).2 e)
  rw [hgv] at grown3
  have hcell := own_cell grown3 (map_range_get G hk)
  refine ⟨hcell, ⟨ownsRow_kept lists3 K4 (fun b e q => h.gvv gg hgg (q ▸ e)), ?_, ?_, ?_, ?_, ?_, ?_, ?_, h.offL, h.gvv, ?_, h.newg, ?_, h.shapeL⟩, ?_⟩
  · have h5 := ownsRow_store grown3 hk (.slice (some ⟨g', 0, none⟩) (cnt k + 1) cap')
    rw [upd_set] at h5
    rw [hgv]
    exact h5
  · intro j hj
    by_cases e : j = k
    · subst e
      rw [upd_same, upd_same, marksOf_succ, List.map_append]
      exact ownsRow_kept hown K4 (fun b e q => by simp [Value.ownBlock] at e; omega)
    · rw [upd_other _ _ e, upd_other _ _ e]
      exact ownsRow_kept (ownsRow_kept (h2.each j hj) K3 (fun b e1 q => e (h.far j k hj hk b e1 q.1))) K4 (fun b e1 q => (h.offG j hj b e1).2 (q ▸ hgg))
  · intro j hj b hb t ht
    have hne : b ≠ gg := fun q => h.offL j hj b hb (q ▸ hgg)
    rw [K4.cell (by have := ltL j hj b hb; simp only; omega) hne]
    by_cases e : (G k).ownBlock = some b ∧ b = g'
    · obtain ⟨e1, rfl⟩ := e
      obtain rfl := h.farL k j hk hj b e1 hb
      have hlt : t < cnt k := Nat.lt_of_lt_of_le ht (h.le k hk)
      exact (own_cell hown (by rw [List.getElem?_append_left (by simp [marksOf_length]; exact hlt)]; exact marksOf_get hlt)).1
    · rw [K3.cell (ltL j hj b hb) e]
      exact h2.old j hj b hb t ht
  · intro j hj
    by_cases e : j = k
    · subst e; rw [upd_same]; have := h.le j hj; omega
    · rw [upd_other _ _ e]; exact h.le j hj
  · intro i j hi hj b hb1 hb2
    by_cases e1 : i = k
    · by_cases e2 : j = k
      · omega
      · subst e1
        rw [upd_same] at hb1
        rw [upd_other _ _ e2] at hb2
        simp [Value.ownBlock] at hb1
        subst hb1
        rcases hg' with q | q
        · exact h.far i j hi hj _ q hb2
        · have := ltG j hj _ hb2; omega
    · by_cases e2 : j = k
      · subst e2
        rw [upd_same] at hb2
        rw [upd_other _ _ e1] at hb1
        simp [Value.ownBlock] at hb2
        subst hb2
        rcases hg' with q | q
        · exact h.far i j hi hj _ hb1 q
        · have := ltG i hi _ hb1; omega
      · rw [upd_other _ _ e1] at hb1
        rw [upd_other _ _ e2] at hb2
        exact h.far i j hi hj b hb1 hb2
  · intro i j hi hj b hb1 hb2
    by_cases e1 : i = k
    · subst e1
      rw [upd_same] at hb1
      simp [Value.ownBlock] at hb1
      subst hb1
      rcases hg' with q | q
      · exact h.farL i j hi hj _ q hb2
      · have := ltL j hj _ hb2; omega
    · rw [upd_other _ _ e1] at hb1
      exact h.farL i j hi hj b hb1 hb2
  · intro j hj b hb
    by_cases e1 : j = k
    · subst e1
      rw [upd_same] at hb
      simp [Value.ownBlock] at hb
      subst hb
      refine ⟨fun q => ?_, fun q => ?_⟩
      · rcases hg' with e | e
        · exact (h.offG j hj _ e).1 q
        · have := ltV _ q; omega
      · rw [hgg] at q; injection q with q; exact ng q.symm
    · rw [upd_other _ _ e1] at hb
      exact h.offG j hj b hb
  · intro j hj b hb
    by_cases e1 : j = k
    · subst e1
      rw [upd_same] at hb
      simp [Value.ownBlock] at hb
      subst hb
      rcases hg' with e | e
      · exact h.new j hj _ e
      · exact .inr (by omega)
    · rw [upd_other _ _ e1] at hb
      exact h.new j hj b hb
  · intro j hj b hb
    have := ltL j hj b hb
    have := K4.size
    omega
  · refine ((k2.mono (T := fun b => (l k).ownBlock = some b ∨ B ≤ b) (fun _ _ e => e.elim)).trans K3 (fun b _ e => ?_)).trans K4 (fun b _ e => ?_)
    · exact h.new k hk b e.1
    · subst e; exact .inr (h.newg _ hgg)

/-- How long they are: t marks behind each, one more behind those ahead of k. -/
def cOf (len : Nat → Nat) (t k j : Nat) : Nat := if j < k then len j + t + 1 else len j + t
theorem cOf_upd (len : Nat → Nat) (t k : Nat) : upd (cOf len t k) k (len k + t + 1) = cOf len t (k + 1) := by
  funext j
  by_cases e : j = k
  · subst e; rw [upd_same]; unfold cOf; rw [if_pos (by omega)]
  · rw [upd_other _ _ e]
    unfold cOf
    by_cases h : j < k
    · rw [if_pos h, if_pos (by omega)]
    · rw [if_neg h, if_neg (by omega)]
theorem cOf_at (len : Nat → Nat) (t k : Nat) : cOf len t k k = len k + t := by unfold cOf; rw [if_neg (by omega)]
end Go.Proofs.YtilhkbohemghlaaDoor
