/-
  Joined: RecsB, TRow, AppRows, AppOne, AppCells, RowsG, BRow, BBare, Errs.
-/
import Derived.Test.YthjjfjhajadimaaGreatDoorP05
import Derived.WideShapes
import Derived.Laws.StructEq
import Derived.Laws.Rows
import Derived.Deep.RegionLaw
import Derived.LoopTactic
import Derived.Shelf.SlSortCmp.QuietGrown
import Derived.Deep.MidRow
import Derived.Deep.DeepCutAuto
import Derived.Outline
namespace Go.Proofs.YthjjfjhajadimaaGreatDoor
open Go.RowKit
set_option maxRecDepth 100000
structure Recs {α : Type} (n : Nat) (f : α -> List Value) (W : World) (v : Value) (g off : Nat) (os : List α) : Prop where
 val : ∃ a cap, v = .slice a os.length cap /\ (os ≠ [] -> a = some ⟨g, off, none⟩)
 le : os.length <= 17592186044416
 cells : ∀ (k : Nat) (o : α), os[k]? = some o -> ∀ (j : Nat) (u : Value), (f o)[j]? = some u -> W.cell? ⟨g, off + k * n + j, none⟩ = some u
section
variable {α : Type} {n : Nat} {f : α -> List Value} {W : World} {v : Value} {g off : Nat} {os : List α}
theorem Recs.elem (h : Recs n f W v g off os) {k : Nat} (hk : k < os.length) : ∃ o cap, os[k]? = some o /\ v = .slice (some ⟨g, off, none⟩) os.length cap := by
 obtain ⟨a, cap, rfl, ha⟩ := h.val
 have hne : os ≠ [] := by rintro rfl; simp at hk
 obtain rfl := ha hne
 exact ⟨os[k], cap, List.getElem?_eq_getElem hk, rfl⟩
end
end Go.Proofs.YthjjfjhajadimaaGreatDoor
namespace Go.Proofs.YthjjfjhajadimaaGreatDoor
open Go.RowKit Go.WideShapes
set_option maxRecDepth 100000
abbrev rowV (r : Tb.R) : Value := .agg #[strV r.1, strV r.2]
def rowC (r : Tb.R) : List Value := [strV r.1, strV r.2]
def rowsC (l : List Tb.R) : List Value := l.flatMap rowC
theorem infoRow : (Tryz.prog.info? 101).map (fun i => (i.zero, i.size, i.bytes)) = some (some (.agg #[.string ⟨#[]⟩, .string ⟨#[]⟩]), 2, 32) := by kernel_rfl
theorem rowsC_append (l m : List Tb.R) : rowsC (l ++ m) = rowsC l ++ rowsC m := by simp [rowsC]
theorem rowsC_one (r : Tb.R) : rowsC [r] = [strV r.1, strV r.2] := by simp [rowsC, rowC]
abbrev RowsIn (W : World) (v : Value) (g off : Nat) (l : List Tb.R) : Prop := Recs 2 rowC W v g off l
structure NewR (w wr : World) (v : Value) (l : List Tb.R) : Prop where
 own : wr.ownsRow 0 101 2 v l.length (rowsC l)
 new : ∀ g, v.ownBlock = some g -> w.heap.size <= g
 qt : Qt w wr
theorem RowsIn.cell {W : World} {v : Value} {g off : Nat} {l : List Tb.R} (h : RowsIn W v g off l) {k : Nat} {r : Tb.R} (hk : l[k]? = some r) : W.cell? ⟨g, off + k * 2, none⟩ = some (strV r.1) /\ W.cell? ⟨g, off + k * 2 + 1, none⟩ = some (strV r.2) :=
 ⟨h.cells k r hk 0 _ rfl, h.cells k r hk 1 _ rfl⟩
theorem str_beq (a b : List UInt8) : ((⟨a.toArray⟩ : ByteArray).toList == (⟨b.toArray⟩ : ByteArray).toList) = decide (a = b) := by
 rw [Bool.eq_iff_iff]
 simp only [beq_iff_eq, decide_eq_true_eq, ByteArray.toList_eq]
theorem run_equal_row (p q : Tb.R) (w : World) : (Op.equalIn 10000 101 (rowV p) (rowV q)).run Tryz.prog w = .ok (decide (p = q)) w := by
 obtain ⟨a1, b1⟩ := p
 obtain ⟨a2, b2⟩ := q
 have hs : (decide (((a1, b1) : Tb.R) = (a2, b2))) = (decide (a1 = a2) && decide (b1 = b2)) := by
  rw [Bool.eq_iff_iff]
  simp
 have hp : Tryz.prog.stoodInHeld 101 = false := by kernel_rfl
 have ht : Tryz.prog.underlying 101 = some (.struct (Tryz.prog.fieldsOf 101)) := by kernel_rfl
 rw [hs, run_equalIn_struct w 9999 _ _ _ ht hp]
 have e9 := fun (a b : ByteArray) => run_equalIn_string (P := Tryz.prog) w 9998 9 a b Tryz.underlying9
 have hf : (Tryz.prog.fieldsOf 101).toList = [{ name := "Key", type := 9, offset := 0, embedded := false, tag := "", pkgPath := "", byteOffset := 0 }, { name := "Value", type := 9, offset := 1, embedded := false, tag := "", pkgPath := "", byteOffset := 16 }] := by kernel_rfl
 have a9 : ∀ W, (isAgg 9).run Tryz.prog W = .ok false W := Tryz.isAgg9
 rw [hf]
 unfold strV
 simp only [Op.eqFields, part, Sem.run_bind, a9, Result.andThen_ok, Bool.false_eq_true, if_false, Sem.run_pure, ne_eq, String.reduceEq, not_false_eq_true, if_true, List.getElem?_toArray, List.getElem?_cons_zero, List.getElem?_cons_succ, e9, str_beq]
 by_cases h1 : a1 = a2
 ·subst h1
  by_cases h2 : b1 = b2
  ·simp [h2, e9, Sem.run_bind]
  ·simp [h2, e9, Sem.run_bind]
 ·simp [h1]
theorem run_neq_row (p q : Tb.R) (w : World) : (binOp .neq 101 (rowV p) (rowV q)).run Tryz.prog w = .ok (.bool (!decide (p = q))) w := by
 rw [run_neq_struct, run_equal_row]; rfl
section
variable {P : Program} (w : World)
theorem run_append_none (t ty e : TypeId) (i : TypeInfo) (ht : P.underlying t = some (.slice e)) (hi : P.info? e = some i) (v : Value) (n : Nat) (xs : List Value) (size : Nat) (hown : w.ownsRow 0 e size v n xs) (c : Nat) :
  (Builtin.append_ #[t, t] ty #[v, .slice none 0 c]).run P w = .ok v w := by
 rcases hown.2 with ⟨rfl, rfl⟩ | ⟨g, cap, cur, rfl, _, _, hnc, _⟩
 ·simp [Builtin.append_, run_underlying ht, sizeOf, typeInfo, hi, Builtin.lenOf, Builtin.firstCells]
 ·simp [Builtin.append_, run_underlying ht, sizeOf, typeInfo, hi, Builtin.lenOf, Builtin.firstCells, loadCells, hnc, storeCells]
theorem wpList_append_rows {ops : Array Oper} {rest : List Oper} {o : Oper} {a : Act} {Q : Exit -> Act -> World -> Prop} (hgd : o.guard = none) (s x : Operand) (t : TypeId)
  (ho : o.op = .call { callee := .builtin .append, args := #[s, x], argTypes := #[t, t] })
  (e : TypeId) (i : TypeInfo) (z : Value) (size bytes : Nat) (ht : P.underlying t = some (.slice e)) (hi : P.info? e = some i) (hz : i.zero = some z)
  (hsize : i.size = size) (hby : i.bytes = bytes) (hzs : z.cells.size = size) (hsz : 0 < size)
  (v : Value) (n : Nat) (xs : List Value) (hs : a.eval s = v) (hown : w.ownsRow 0 e size v n xs)
  (ad : Option Addr) (m c : Nat) (news : List Value) (hx : a.eval x = .slice ad m c) (hl : news.length = m * size) (ha : news ≠ [] -> ∃ p, ad = some p /\ ∀ (j : Nat) u, news[j]? = some u -> w.cell? (p.add j) = some u) (h1 : ∀ u ∈ news, u.oneCell' = true)
  (h63 : n + m <= maxLen) (hbytes : (n + m) * bytes <= 140737488355328)
  (h : ∀ v' w', w'.ownsRow 0 e size v' (n + m) (xs ++ news) -> w.grownBy w' v.ownBlock -> Later w v.ownBlock v'.ownBlock -> wpList P ops Q rest (a.put o.dst v') w') : wpList P ops Q (o :: rest) a w := by
 cases ad with
 | some ad =>
  have hnews : ∀ j u, news[j]? = some u -> w.cell? (ad.add j) = some u := fun j u hj => by
   have hne : news ≠ [] := by rintro rfl; simp at hj
   obtain ⟨p, hp, hc⟩ := ha hne
   injection hp with hp
   subst hp
   exact hc j u hj
  exact wpList_append_cells0 w hgd s x t ho e i z size bytes ht hi hz hsize hby hzs hsz v n xs hs hown ad m c news hx hl hnews h1 h63 hbytes (fun v' w' p1 p2 p3 _ => h v' w' p1 p2 p3)
 | none =>
  have hn : news = [] := by
   apply Classical.byContradiction
   intro hne
   obtain ⟨p, hp, _⟩ := ha hne
   cases hp
  subst hn
  have hm : m = 0 := by
   have : m * size = 0 := by simpa using hl.symm
   rcases Nat.mul_eq_zero.1 this with h | h
   ·exact h
   ·omega
  subst hm
  refine wpList_plain hgd fun K hK => ?_
  have hr := run_append_none (P := P) w t o.type e i ht hi v n xs size hown c
  unfold Oper.wp execOp
  simp only [ho, resolve, invoke, builtin, Sem.run_bind, Sem.run_pure, Result.andThen_ok, List.map_toArray, List.map_cons, List.map_nil, hs, hx, hr]
  exact hK _ _ (h v w (by simpa using hown) ⟨rfl, rfl, rfl, Nat.le_refl _, fun _ _ _ => rfl⟩ (.inl rfl))
end
section
variable {P : Program} (w : World)
theorem run_append_cells1 (t ty e : TypeId) (i : TypeInfo) (z : Value) (size bytes : Nat) (ht : P.underlying t = some (.slice e)) (hi : P.info? e = some i) (hz : i.zero = some z)
  (hsize : i.size = size) (hby : i.bytes = bytes) (hzs : z.cells.size = size) (hsz : 0 < size)
  (v : Value) (n : Nat) (xs : List Value) (hown : w.ownsRow 0 e size v n xs)
  (a : Addr) (m c : Nat) (news : List Value) (hl : news.length = m * size) (hnews : ∀ j u, news[j]? = some u -> w.cell? (a.add j) = some u) (h1 : ∀ u ∈ news, u.oneCell' = true)
  (h63 : n + m <= maxLen) (hbytes : (n + m) * bytes <= 140737488355328) :
  ∃ v' w', (Builtin.append_ #[t, t] ty #[v, .slice (some a) m c]).run P w = .ok v' w' /\ w'.ownsRow 0 e size v' (n + m) (xs ++ news) /\ ((v'.ownBlock = v.ownBlock /\ w.grownBy w' v.ownBlock) \/ (∃ g, v'.ownBlock = some g /\ w.heap.size <= g /\ w.grownBy w' none)) := by
 subst hsize
 subst hby
 have hsmall : n + m <= 9223372036854775807 := by simp only [maxLen] at h63; omega
 have hlen : (xs ++ news).length = (n + m) * i.size := by rw [List.length_append, hown.1, hl, Nat.add_mul]
 have grown : ∀ (old : Nat), old < n + m -> ∀ (row : Option Nat),
   (w.drew.alloc (.cells (xs.toArray ++ news.toArray ++ Builtin.zeroCells z.cells (grownCap w (n + m) old e - (n + m))) e)).ownsRow 0 e i.size
    (.slice (some ⟨w.heap.size, 0, none⟩) (n + m) (grownCap w (n + m) old e)) (n + m) (xs ++ news) /\
   w.grownBy (w.drew.alloc (.cells (xs.toArray ++ news.toArray ++ Builtin.zeroCells z.cells (grownCap w (n + m) old e - (n + m))) e)) row := by
  intro old ho row
  have hge := grownCap_ge w (n + m) old e
  have hcm : grownCap w (n + m) old e <= maxLen := grownCap_le_maxLen w (n + m) old e h63
  refine ⟨⟨hlen, .inr ⟨w.heap.size, _, _, rfl, Nat.zero_le _, heap_alloc_new w.drew _, hge, hcm, ?_, ?_⟩⟩, ⟨rfl, rfl, rfl, by simp, fun k hk _ => Below.heap_alloc w.drew _ k hk⟩⟩
  ·simp only [Array.size_append, List.size_toArray, size_zeroCells, hzs, hown.1, hl, <- Nat.add_mul]
   congr 1
   omega
  ·simp only [Array.toList_append, List.append_assoc]
   rw [<- List.append_assoc, <- hlen]
   exact List.take_left
 rcases hown.2 with ⟨rfl, rfl⟩ | ⟨g, cap, cur, rfl, hbg, hg, hnc, hcm, hcs, htake⟩
 ·have hx : xs = [] := List.eq_nil_of_length_eq_zero (by simpa using hown.1)
  subst hx
  by_cases hm : m = 0
  ·subst hm
   have hn : news = [] := List.eq_nil_of_length_eq_zero (by simpa using hl)
   subst hn
   refine ⟨.slice none 0 0, w, ?_, World.ownsRow_nil w 0 e i.size, .inl ⟨rfl, ⟨rfl, rfl, rfl, Nat.le_refl _, fun _ _ _ => rfl⟩⟩⟩
   simp [Builtin.append_, run_underlying ht, sizeOf, typeInfo, hi, Builtin.lenOf, Builtin.firstCells, loadCells, loadCellsFrom]
  ·have hr := run_append_nil (P := P) w t ty e i z ht hi hz a m c news hl hnews (by omega) (by omega) (by have hb := hbytes; simp only [Nat.zero_add] at hb; omega)
   have hgr := grown 0 (by omega) none
   simp only [Nat.zero_add, List.nil_append, Array.empty_append] at hgr ⊢
   exact ⟨_, _, hr, hgr.1, .inr ⟨_, rfl, Nat.le_refl _, hgr.2⟩⟩
 ·by_cases hroom : n + m <= cap
  ·have hfit : n * i.size + news.length <= cur.size := by rw [hl, hcs, <- Nat.add_mul]; exact Nat.mul_le_mul_right _ hroom
   have hr := run_append_roomF (P := P) w t ty e i ht hi g n cap cur (0, 0) hg (Nat.zero_le _) a m c news hl hnews h1 hroom hfit
   refine ⟨_, _, hr, ⟨hlen, .inr ⟨g, cap, _, rfl, hbg, setRow_heap w g cur _ e _ hg, hroom, hcm, ?_, ?_⟩⟩, .inl ⟨rfl, ⟨rfl, rfl, rfl, by simp, fun k _ hk => setRow_other w g k _ (fun e => hk (by simp [Value.ownBlock, e]))⟩⟩⟩
   ·simp only [List.size_toArray, List.length_append, List.length_take, List.length_drop, Array.length_toList]
    omega
   ·rw [htake, <- hlen]
    exact List.take_left
  ·have holds : ∀ j u, xs[j]? = some u -> w.cell? ((⟨g, 0, none⟩ : Addr).add j) = some u := (World.ownsRowF_of hown).cells (g := g) rfl
   have hr := run_append_grow (P := P) w t ty e i z ht hi hz ⟨g, 0, none⟩ n cap xs hown.1 holds a m c news hl hnews (by omega) (by omega) (growslice_fits (by omega) hbytes)
   have hgr := grown cap (by omega) none
   exact ⟨_, _, hr, hgr.1, .inr ⟨_, rfl, Nat.le_refl _, hgr.2⟩⟩
end
section
variable {α : Type} {f : α -> List Value} {n : Nat} {E : TypeId}
def cellsG (f : α -> List Value) (l : List α) : List Value := l.flatMap f
theorem cellsG_cons (x : α) (l : List α) : cellsG f (x :: l) = f x ++ cellsG f l := rfl
theorem cellsG_append (l m : List α) : cellsG f (l ++ m) = cellsG f l ++ cellsG f m := by simp [cellsG]
theorem cellsG_one (x : α) : cellsG f [x] = f x := by simp [cellsG]
theorem cellsG_length (hf : ∀ x, (f x).length = n) : ∀ l : List α, (cellsG f l).length = l.length * n
 | [] => by simp [cellsG]
 | x :: l => by rw [cellsG_cons, List.length_append, hf, cellsG_length hf l, List.length_cons, Nat.succ_mul]; omega
theorem cellsG_get (hf : ∀ x, (f x).length = n) : ∀ {l : List α} {k : Nat} {x : α}, l[k]? = some x -> ∀ {j : Nat} {u : Value}, (f x)[j]? = some u -> (cellsG f l)[k * n + j]? = some u
 | [], k, x, h, _, _, _ => by simp at h
 | a :: l, 0, x, h, j, u, hj => by
  have e : a = x := by simpa using h
  subst e
  rw [cellsG_cons, Nat.zero_mul, Nat.zero_add, List.getElem?_append_left (List.getElem?_eq_some_iff.1 hj).1]
  exact hj
 | a :: l, k + 1, x, h, j, u, hj => by
  have ih := cellsG_get hf (l := l) (k := k) (x := x) (by simpa using h) hj
  rw [cellsG_cons, show (k + 1) * n + j = (f a).length + (k * n + j) by rw [hf, Nat.succ_mul]; omega, List.getElem?_append_right (by omega), Nat.add_sub_cancel_left]
  exact ih
theorem cellsG_one' (h1 : ∀ x, ∀ u ∈ f x, u.oneCell' = true) (l : List α) : ∀ u ∈ cellsG f l, u.oneCell' = true := by
 intro u hu
 unfold cellsG at hu
 obtain ⟨x, _, hx⟩ := List.mem_flatMap.1 hu
 exact h1 x u hx
theorem recs_turn {W W' : World} {v : Value} {g off : Nat} {l : List α} (h : Recs n f W v g off l) (q : Qt W W') : Recs n f W' v g off l := ⟨h.val, h.le, fun k o hk j u hj => q.cellv (h.cells k o hk j u hj)⟩
theorem recs_kept {S : Nat -> Prop} {W W' : World} {v : Value} {g off : Nat} {l : List α} (h : Recs n f W v g off l) (q : Keeps S W W') (hS : l ≠ [] -> ¬ S g) : Recs n f W' v g off l := ⟨h.val, h.le, fun k o hk j u hj => q.cellv (h.cells k o hk j u hj) (hS (by rintro rfl; simp at hk))⟩
theorem recs_lt (hn : 0 < n) (hf : ∀ x, (f x).length = n) {W : World} {v : Value} {g off : Nat} {l : List α} (h : Recs n f W v g off l) (hl : l ≠ []) : g < W.heap.size := by
 obtain ⟨x, r, rfl⟩ := List.exists_cons_of_ne_nil hl
 exact World.block_lt_of_cell? W _ (h.cells 0 x rfl 0 ((f x)[0]'(by rw [hf]; exact hn)) (List.getElem?_eq_getElem _))
structure NewG (f : α -> List Value) (n : Nat) (E : TypeId) (w wr : World) (v : Value) (l : List α) : Prop where
 own : wr.ownsRow 0 E n v l.length (cellsG f l)
 new : ∀ g, v.ownBlock = some g -> w.heap.size <= g
 qt : Qt w wr
theorem NewG.quiet {w wr w2 : World} {v : Value} {l : List α} (h : NewG f n E w wr v l) (k : Qt wr w2) : NewG f n E w w2 v l := ⟨ownsRow_kept h.own k (fun _ _ e => e), h.new, Qt.trans h.qt k⟩
theorem ownG_frozen {w : World} {g N m c : Nat} {xs : List Value} (h : w.ownsRow 0 E n (.slice (some ⟨g, 0, none⟩) N c) m xs) (j : Nat) : w.frozen? ⟨g, j, none⟩ = false := by
 rcases h.2 with ⟨h2, _⟩ | ⟨g', cap', cur, e2, hb, hg, _⟩
 ·cases h2
 ·injection e2 with e2 e3 e4
  injection e2 with e2
  injection e2 with e2
  subst e2
  exact Lib.frozen_of_heap hg j
theorem ownG_in (hf : ∀ x, (f x).length = n) {w : World} {v : Value} {l : List α} (h : w.ownsRow 0 E n v l.length (cellsG f l)) (hl : l.length <= 17592186044416) : ∃ g, Recs n f w v g 0 l /\ ∀ x, v.ownBlock = some x -> x = g := by
 rcases h.2 with ⟨e, h0⟩ | ⟨g, cap, cur, e, _⟩
 ·have h1 : l = [] := List.length_eq_zero_iff.1 h0
  subst h1
  exact ⟨0, ⟨⟨none, 0, e, fun h => absurd rfl h⟩, hl, fun k o hk => by simp at hk⟩, fun x hx => by rw [e] at hx; cases hx⟩
 ·subst e
  refine ⟨g, ⟨⟨_, cap, rfl, fun _ => rfl⟩, hl, fun k o hk j u hj => ?_⟩, fun x hx => by injection hx with hx; exact hx.symm⟩
  have hc := (World.ownsRowF_of h).cells (g := g) rfl _ u (cellsG_get hf hk hj)
  rw [add_plain, Nat.zero_add] at hc
  rw [Nat.zero_add]
  exact hc
theorem ownG_shape {w : World} {v : Value} {m : Nat} {xs : List Value} (h : w.ownsRow 0 E n v m xs) : ∃ a c, v = .slice a m c := by
 rcases h.2 with ⟨e, h0⟩ | ⟨g, cap, cur, e, _⟩
 ·exact ⟨none, 0, by rw [e, h0]⟩
 ·exact ⟨_, _, e⟩
theorem ownG_some {w : World} {a : Option Addr} {m c k : Nat} {xs : List Value} (h : w.ownsRow 0 E n (.slice a m c) k xs) (hk : 0 < k) : ∃ g, a = some ⟨g, 0, none⟩ := by
 rcases h.2 with ⟨_, h0⟩ | ⟨g, cap, cur, e, _⟩
 ·omega
 ·injection e with e; exact ⟨g, e⟩
theorem ownG_cap {w : World} {a : Option Addr} {k m c : Nat} {xs : List Value} (h : w.ownsRow 0 E n (.slice a k c) m xs) : m <= c /\ (a = none \/ ∃ g, a = some ⟨g, 0, none⟩) := by
 rcases h.2 with ⟨e, h0⟩ | ⟨g, cap, cur, e, hb, hg, hnc, _⟩
 ·injection e with e1 e2 e3
  exact ⟨by omega, .inl e1⟩
 ·injection e with e1 e2 e3
  exact ⟨by omega, .inr ⟨g, e1⟩⟩
theorem ownG_more {W x y : World} {v v' : Value} {m : Nat} {l k : List α} {xs : List Value} (hv : ∀ g, v.ownBlock = some g -> W.heap.size <= g) (q : Qt W x) (hn : m = (l ++ k).length) (hx : xs = cellsG f (l ++ k))
  (own : y.ownsRow 0 E n v' m xs) (gr : x.grownBy y v.ownBlock) (la : Later x v.ownBlock v'.ownBlock) :
  NewG f n E W y v' (l ++ k) := by
 have hz := q.size
 refine ⟨by rw [<- hn, <- hx]; exact own, fun g e => ?_, Keeps.grown q gr (fun j hj e => by have := hv j e.symm; omega)⟩
 rcases la with r | ⟨x', r, hx'⟩
 ·exact hv g (r ▸ e)
 ·rw [r] at e
  injection e with e
  subst e
  omega
end
theorem newsG (W : World) (xs : List Value) (t : TypeId) : ∀ (j : Nat) (u : Value), xs[j]? = some u -> (W.alloc (.cells xs.toArray t)).cell? ((⟨W.heap.size, 0, none⟩ : Addr).add j) = some u := by
 intro j u h
 rw [add_plain, Nat.zero_add, cell_of_row _ _ _ _ _ _ (heap_alloc_new W (.cells xs.toArray t)), <- h]
 simp
instance : DecidableEq Bt.O := fun a b => match a, b with
 | ⟨d1, k1, v1⟩, ⟨d2, k2, v2⟩ => if h : d1 = d2 /\ k1 = k2 /\ v1 = v2 then isTrue (by obtain ⟨h1, h2, h3⟩ := h; rw [h1, h2, h3]) else isFalse (fun e => by injection e with e1 e2 e3; exact h ⟨e1, e2, e3⟩)
abbrev opV (r : Bt.O) : Value := .agg #[.bool r.del, strV r.key, strV r.val]
def opC (r : Bt.O) : List Value := [.bool r.del, strV r.key, strV r.val]
theorem opC_len (r : Bt.O) : (opC r).length = 3 := rfl
abbrev opsC (l : List Bt.O) : List Value := cellsG opC l
theorem infoOp12 : (Tryz.prog.info? 87).map (fun i => (i.zero, i.size, i.bytes)) = some (some (.agg #[.bool false, .string ⟨#[]⟩, .string ⟨#[]⟩]), 3, 40) := by kernel_rfl
theorem opsC_one' (l : List Bt.O) : ∀ u ∈ opsC l, u.oneCell' = true := cellsG_one' (fun r u hr => by
 simp only [opC, List.mem_cons, List.not_mem_nil, or_false] at hr
 rcases hr with rfl | rfl | rfl <;> rfl) l
abbrev OpsIn (W : World) (v : Value) (g off : Nat) (l : List Bt.O) : Prop := Recs 3 opC W v g off l
abbrev NewO (w wr : World) (v : Value) (l : List Bt.O) : Prop := NewG opC 3 87 w wr v l
theorem OpsIn.cell {W : World} {v : Value} {g off : Nat} {l : List Bt.O} (h : OpsIn W v g off l) {k : Nat} {r : Bt.O} (hk : l[k]? = some r) : W.cell? ⟨g, off + k * 3, none⟩ = some (.bool r.del) /\ W.cell? ⟨g, off + k * 3 + 1, none⟩ = some (strV r.key) /\ W.cell? ⟨g, off + k * 3 + 2, none⟩ = some (strV r.val) :=
 ⟨h.cells k r hk 0 _ rfl, h.cells k r hk 1 _ rfl, h.cells k r hk 2 _ rfl⟩
theorem run_equal_op (p q : Bt.O) (w : World) : (Op.equalIn 10000 87 (opV p) (opV q)).run Tryz.prog w = .ok (decide (p = q)) w := by
 obtain ⟨d1, a1, b1⟩ := p
 obtain ⟨d2, a2, b2⟩ := q
 have hs : (decide ((⟨d1, a1, b1⟩ : Bt.O) = ⟨d2, a2, b2⟩)) = (decide (d1 = d2) && (decide (a1 = a2) && decide (b1 = b2))) := by
  rw [Bool.eq_iff_iff]
  simp
 have hp : Tryz.prog.stoodInHeld 87 = false := by kernel_rfl
 have ht : Tryz.prog.underlying 87 = some (.struct (Tryz.prog.fieldsOf 87)) := by kernel_rfl
 rw [hs, run_equalIn_struct w 9999 _ _ _ ht hp]
 have e9 := fun (a b : ByteArray) => run_equalIn_string (P := Tryz.prog) w 9998 9 a b Tryz.underlying9
 have e8 := fun (a b : Bool) => run_equalIn_bool (P := Tryz.prog) w 9998 4 a b Tryz.underlying4
 have hf : (Tryz.prog.fieldsOf 87).toList = [{ name := "Delete", type := 4, offset := 0, embedded := false, tag := "", pkgPath := "", byteOffset := 0 }, { name := "Key", type := 9, offset := 1, embedded := false, tag := "", pkgPath := "", byteOffset := 8 }, { name := "Value", type := 9, offset := 2, embedded := false, tag := "", pkgPath := "", byteOffset := 24 }] := by kernel_rfl
 have a9 : ∀ W, (isAgg 9).run Tryz.prog W = .ok false W := Tryz.isAgg9
 have a8 : ∀ W, (isAgg 4).run Tryz.prog W = .ok false W := Tryz.isAgg4
 rw [hf]
 unfold strV
 simp only [Op.eqFields, part, Sem.run_bind, a8, Result.andThen_ok, Bool.false_eq_true, if_false, Sem.run_pure, ne_eq, String.reduceEq, not_false_eq_true, if_true, List.getElem?_toArray, List.getElem?_cons_zero, List.getElem?_cons_succ, e8]
 by_cases h0 : d1 = d2
 ·subst h0
  by_cases h1 : a1 = a2
  ·subst h1
   by_cases h2 : b1 = b2
   ·simp [h2, e9, Sem.run_bind, a9]
   ·simp [h2, e9, Sem.run_bind, a9]
  ·simp [h1, e9, Sem.run_bind, a9]
 ·simp [h0]
theorem run_neq_op (p q : Bt.O) (w : World) : (binOp .neq 87 (opV p) (opV q)).run Tryz.prog w = .ok (.bool (!decide (p = q))) w := by
 rw [run_neq_struct, run_equal_op]; rfl
end Go.Proofs.YthjjfjhajadimaaGreatDoor
namespace Go.Proofs.YthjjfjhajadimaaGreatDoor
open Go.RowKit Go.WideShapes Go.Sort
set_option maxRecDepth 100000
theorem qt_grow12 (w : World) (n : Nat) (os : Array Obj) : Qt w (grow (w.drewN n) os) := ⟨rfl, rfl, rfl, by simp [grow, World.drewN], fun j hj _ => by
 show (w.heap ++ os)[j]? = w.heap[j]?
 rw [Array.getElem?_append_left hj]⟩
set_option maxHeartbeats 800000 in
theorem bareG_any (o : Bt.O) (w : World) : Calls Tryz.prog 116 #[opV o] w fun e w' => e = .returned (opV (Bt.clean o)) /\ ∃ q os', w' = grow (w.drewN q) os' := by
 have GG : ∀ x y : Obj, ∃ q os', (w.alloc x).alloc y = grow (w.drewN q) os' := fun x y => ⟨0, _, by rw [alloc_eq_grow, alloc_eq_grow, grow_grow]; rfl⟩
 obtain ⟨d, k, v⟩ := o
 unfold opV
 have hn : ∀ x y : Obj, ((w.alloc x).alloc y).heap[w.heap.size + 1]? = some y := fun x y => by
  have h := heap_alloc_new (w.alloc x) y
  rwa [World.size_alloc] at h
 obtain ⟨K, hK⟩ : ∃ K : ByteArray, strV k = .string K := ⟨_, rfl⟩
 obtain ⟨V, hV⟩ : ∃ V : ByteArray, strV v = .string V := ⟨_, rfl⟩
 cases d with
 | true =>
  have FN := Lib.hid (show (Value.agg #[.bool (Bt.clean ⟨true, k, v⟩).del, strV (Bt.clean ⟨true, k, v⟩).key, strV (Bt.clean ⟨true, k, v⟩).val]) = .agg #[.bool true, .string K, .string ⟨#[]⟩] by
   rw [<- hK]; rfl)
  simp only [hK, hV]
  go_enter Tryz.func116, Tryz.ntmps116
  go_wp2
  refine bodyPost_ret (results_cell_row (p := 2) (ty := 87) (by kernel_rfl) _ _ (w.heap.size + 1) 87 #[.bool true, .string K, .string ⟨#[]⟩] (0, 0) _ rfl (hn _ _) Tryz.underlying87 rfl (by kernel_rfl)) rfl ⟨?_, GG _ _⟩
  rw [FN.out]
 | false =>
  have FN := Lib.hid (show (Value.agg #[.bool (Bt.clean ⟨false, k, v⟩).del, strV (Bt.clean ⟨false, k, v⟩).key, strV (Bt.clean ⟨false, k, v⟩).val]) = .agg #[.bool false, .string K, .string V] by
   rw [<- hK, <- hV]; rfl)
  simp only [hK, hV]
  go_enter Tryz.func116, Tryz.ntmps116
  go_wp2
  refine bodyPost_ret (results_cell_row (p := 2) (ty := 87) (by kernel_rfl) _ _ (w.heap.size + 1) 87 #[.bool false, .string K, .string V] (0, 0) _ rfl (hn _ _) Tryz.underlying87 rfl (by kernel_rfl)) rfl ⟨?_, GG _ _⟩
  rw [FN.out]
theorem bare_any (o : Bt.O) (w : World) : Calls Tryz.prog 116 #[opV o] w fun e w' => e = .returned (opV (Bt.clean o)) /\ Qt w w' :=
 (bareG_any o w).mono fun _ _ ⟨he, q, os, hw⟩ => ⟨he, hw ▸ qt_grow12 w q os⟩
end Go.Proofs.YthjjfjhajadimaaGreatDoor
namespace Go.Proofs.YthjjfjhajadimaaGreatDoor
open Go.RowKit
set_option maxRecDepth 100000
def gErrs : List Nat := [9, 10, 11, 12, 13, 0, 1, 14, 15, 16, 17, 6, 5, 3, 8, 18, 4, 7, 19, 20, 2, 21, 22, 23, 24, 25, 26, 27, 28, 29, 30, 31, 32, 33, 34, 35, 36]
structure Errs (ad : Nat -> Addr) (w : World) : Prop where
 cells : ∀ i g, gErrs[i]? = some g -> w.cell? ⟨g, 0, none⟩ = some (.iface 335 (.pointer (some (ad (i + 1)))))
 apart : ∀ i j, i < 37 -> j < 37 -> ad (i + 1) = ad (j + 1) -> i = j
 blk : ∀ i, i < 37 -> ∃ c t, w.heap[(ad (i + 1)).block]? = some (.cells c t (0, 0))
def errV (ad : Nat -> Addr) (n : Nat) : Value := if n = 0 then .nilIface else .iface 335 (.pointer (some (ad n)))
theorem errV_zero (ad : Nat -> Addr) : errV ad 0 = .nilIface := rfl
theorem errV_pos (ad : Nat -> Addr) {n : Nat} (h : 0 < n) : errV ad n = .iface 335 (.pointer (some (ad n))) := if_neg (by omega)
structure OffErrs (ad : Nat -> Addr) (S : Nat -> Prop) : Prop where
 vars : ∀ g, g ∈ gErrs -> ¬ S g
 texts : ∀ i, i < 37 -> ¬ S (ad (i + 1)).block
theorem OffErrs.none (ad : Nat -> Addr) : OffErrs ad (fun _ => False) := ⟨fun _ _ h => h, fun _ _ h => h⟩
theorem OffErrs.mono {ad : Nat -> Addr} {S T : Nat -> Prop} (h : OffErrs ad S) (k : ∀ i, T i -> S i) : OffErrs ad T := ⟨fun g hg ht => h.vars g hg (k g ht), fun i hi ht => h.texts i hi (k _ ht)⟩
theorem Errs.kept {ad : Nat -> Addr} {S : Nat -> Prop} {w w' : World} (h : Errs ad w) (hk : Keeps S w w') (hS : OffErrs ad S) : Errs ad w' := by
 refine ⟨fun i g hg => ?_, h.apart, fun i hi => ?_⟩
 ·have hc := h.cells i g hg
  rw [hk.cell (World.block_lt_of_cell? w _ hc) (hS.vars g (List.mem_of_getElem? hg))]
  exact hc
 ·obtain ⟨c, t, hb⟩ := h.blk i hi
  exact ⟨c, t, (hk.block _ (lt_of_block hb) (hS.texts i hi)).trans hb⟩
theorem Errs.drewN {ad : Nat -> Addr} {w : World} (h : Errs ad w) (n : Nat) : Errs ad (w.drewN n) := ⟨h.cells, h.apart, h.blk⟩
theorem Errs.drew {ad : Nat -> Addr} {w : World} (h : Errs ad w) : Errs ad w.drew := ⟨h.cells, h.apart, h.blk⟩
theorem Errs.alloc {ad : Nat -> Addr} {w : World} (h : Errs ad w) (o : Obj) : Errs ad (w.alloc o) := h.kept (S := fun _ => False) ((Keeps.refl _ _).alloc o) (OffErrs.none ad)
def errArr (ad : Nat -> Addr) : Array Value := ((List.range 37).map fun i => Value.iface 335 (.pointer (some (ad (i + 1))))).toArray
set_option maxHeartbeats 2000000 in
theorem list_any (ad : Nat -> Addr) (w : World) (hE : Errs ad w) :
  Calls Tryz.prog 64 #[] w fun e w' => e = .returned (.agg (errArr ad)) /\ Keeps (fun _ => False) w w' := by
 go_enter Tryz.func64, Tryz.ntmps64
 go_upto_region 1 with (fail)
 have hE1 : ∀ o, Errs ad (w.alloc o) := fun o => hE.alloc o
 have hk1 : ∀ o, Keeps (fun _ => False) w (w.alloc o) := fun o => (Keeps.refl _ _).alloc o
 have hb1 : ∀ o, (w.alloc o).heap[w.heap.size]? = some o := heap_alloc_new w
 clear hE
 generalize hw : w.alloc _ = w1
 have hE := hw ▸ hE1 _
 have hk := Lib.hid (hw ▸ hk1 _)
 have hb := Lib.hid (hw ▸ hb1 _)
 clear hE1 hk1 hb1 hw
 have c1 : w1.cell? ⟨9, 0, none⟩ = some (.iface 335 (.pointer (some (ad 1)))) := hE.cells 0 _ rfl
 have c2 : w1.cell? ⟨10, 0, none⟩ = some (.iface 335 (.pointer (some (ad 2)))) := hE.cells 1 _ rfl
 have c3 : w1.cell? ⟨11, 0, none⟩ = some (.iface 335 (.pointer (some (ad 3)))) := hE.cells 2 _ rfl
 have c4 : w1.cell? ⟨12, 0, none⟩ = some (.iface 335 (.pointer (some (ad 4)))) := hE.cells 3 _ rfl
 have c5 : w1.cell? ⟨13, 0, none⟩ = some (.iface 335 (.pointer (some (ad 5)))) := hE.cells 4 _ rfl
 have c6 : w1.cell? ⟨0, 0, none⟩ = some (.iface 335 (.pointer (some (ad 6)))) := hE.cells 5 _ rfl
 have c7 : w1.cell? ⟨1, 0, none⟩ = some (.iface 335 (.pointer (some (ad 7)))) := hE.cells 6 _ rfl
 have c8 : w1.cell? ⟨14, 0, none⟩ = some (.iface 335 (.pointer (some (ad 8)))) := hE.cells 7 _ rfl
 have c9 : w1.cell? ⟨15, 0, none⟩ = some (.iface 335 (.pointer (some (ad 9)))) := hE.cells 8 _ rfl
 have c10 : w1.cell? ⟨16, 0, none⟩ = some (.iface 335 (.pointer (some (ad 10)))) := hE.cells 9 _ rfl
 have c11 : w1.cell? ⟨17, 0, none⟩ = some (.iface 335 (.pointer (some (ad 11)))) := hE.cells 10 _ rfl
 have c12 : w1.cell? ⟨6, 0, none⟩ = some (.iface 335 (.pointer (some (ad 12)))) := hE.cells 11 _ rfl
 have c13 : w1.cell? ⟨5, 0, none⟩ = some (.iface 335 (.pointer (some (ad 13)))) := hE.cells 12 _ rfl
 have c14 : w1.cell? ⟨3, 0, none⟩ = some (.iface 335 (.pointer (some (ad 14)))) := hE.cells 13 _ rfl
 have c15 : w1.cell? ⟨8, 0, none⟩ = some (.iface 335 (.pointer (some (ad 15)))) := hE.cells 14 _ rfl
 have c16 : w1.cell? ⟨18, 0, none⟩ = some (.iface 335 (.pointer (some (ad 16)))) := hE.cells 15 _ rfl
 have c17 : w1.cell? ⟨4, 0, none⟩ = some (.iface 335 (.pointer (some (ad 17)))) := hE.cells 16 _ rfl
 have c18 : w1.cell? ⟨7, 0, none⟩ = some (.iface 335 (.pointer (some (ad 18)))) := hE.cells 17 _ rfl
 have c19 : w1.cell? ⟨19, 0, none⟩ = some (.iface 335 (.pointer (some (ad 19)))) := hE.cells 18 _ rfl
 have c20 : w1.cell? ⟨20, 0, none⟩ = some (.iface 335 (.pointer (some (ad 20)))) := hE.cells 19 _ rfl
 have c21 : w1.cell? ⟨2, 0, none⟩ = some (.iface 335 (.pointer (some (ad 21)))) := hE.cells 20 _ rfl
 have c22 : w1.cell? ⟨21, 0, none⟩ = some (.iface 335 (.pointer (some (ad 22)))) := hE.cells 21 _ rfl
 have c23 : w1.cell? ⟨22, 0, none⟩ = some (.iface 335 (.pointer (some (ad 23)))) := hE.cells 22 _ rfl
 have c24 : w1.cell? ⟨23, 0, none⟩ = some (.iface 335 (.pointer (some (ad 24)))) := hE.cells 23 _ rfl
 have c25 : w1.cell? ⟨24, 0, none⟩ = some (.iface 335 (.pointer (some (ad 25)))) := hE.cells 24 _ rfl
 have c26 : w1.cell? ⟨25, 0, none⟩ = some (.iface 335 (.pointer (some (ad 26)))) := hE.cells 25 _ rfl
 have c27 : w1.cell? ⟨26, 0, none⟩ = some (.iface 335 (.pointer (some (ad 27)))) := hE.cells 26 _ rfl
 have c28 : w1.cell? ⟨27, 0, none⟩ = some (.iface 335 (.pointer (some (ad 28)))) := hE.cells 27 _ rfl
 have c29 : w1.cell? ⟨28, 0, none⟩ = some (.iface 335 (.pointer (some (ad 29)))) := hE.cells 28 _ rfl
 have c30 : w1.cell? ⟨29, 0, none⟩ = some (.iface 335 (.pointer (some (ad 30)))) := hE.cells 29 _ rfl
 have c31 : w1.cell? ⟨30, 0, none⟩ = some (.iface 335 (.pointer (some (ad 31)))) := hE.cells 30 _ rfl
 have c32 : w1.cell? ⟨31, 0, none⟩ = some (.iface 335 (.pointer (some (ad 32)))) := hE.cells 31 _ rfl
 have c33 : w1.cell? ⟨32, 0, none⟩ = some (.iface 335 (.pointer (some (ad 33)))) := hE.cells 32 _ rfl
 have c34 : w1.cell? ⟨33, 0, none⟩ = some (.iface 335 (.pointer (some (ad 34)))) := hE.cells 33 _ rfl
 have c35 : w1.cell? ⟨34, 0, none⟩ = some (.iface 335 (.pointer (some (ad 35)))) := hE.cells 34 _ rfl
 have c36 : w1.cell? ⟨35, 0, none⟩ = some (.iface 335 (.pointer (some (ad 36)))) := hE.cells 35 _ rfl
 have c37 : w1.cell? ⟨36, 0, none⟩ = some (.iface 335 (.pointer (some (ad 37)))) := hE.cells 36 _ rfl
 clear hE
 obtain ⟨b, hbe⟩ : ∃ b, w.heap.size = b := ⟨_, rfl⟩
 rw [hbe] at hb ⊢
 have hle : w.heap.size <= b := by omega
 clear hbe
 go_wp2_with (refine wpList_store_row _ rfl 126 _ _ rfl b _ _ 126 rfl rfl hb.out ?hi ?hs ?h1 ?_)
 case hi => kernel_rfl
 case hs => rfl
 case h1 => simp [Value.oneCell']
 have hset := fun cs => setRow_heap w1 b _ cs 126 (0, 0) hb.out
 have fin := Lib.hid (fun cs => Keeps.setRow (g := b) hk.out (fun h => absurd h (by omega)) cs)
 go_wp2
 refine bodyPost_ret (v := .agg (errArr ad)) (results_cell_row (p := 0) (ty := 126) (by kernel_rfl) _ _ b 126 (errArr ad) (0, 0) _ rfl (hset _) Tryz.underlying126 rfl (by kernel_rfl)) rfl ⟨rfl, fin.out _⟩
end Go.Proofs.YthjjfjhajadimaaGreatDoor
