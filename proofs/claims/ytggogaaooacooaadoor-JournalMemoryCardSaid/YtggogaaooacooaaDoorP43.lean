/-
  What lies behind the marks, the growth and the write of remitlaw10.JournalMemory.
  An append of a list that came in (nil or not), one cell an element, at a step of a region that draws.
-/
import Derived.Test.YtggogaaooacooaaDoorP42
import Derived.Test.YtggogaaooacooaaDoorP12
import Derived.Deep.RegionLaw
namespace Go.Proofs.YtggogaaooacooaaDoor
open Go.RowKit Go.WideShapes
set_option maxRecDepth 100000

theorem row_cell {W : World} {g n c k : Nat} {xs : List Value} (h : W.ownsRow 0 9 1 (.slice (some ⟨g, 0, none⟩) n c) n xs) (hk : k < n) : ∃ v, W.cell? ⟨g, k, none⟩ = some v ∧ W.frozen? ⟨g, k, none⟩ = false := by
  rcases h.2 with ⟨e, _⟩ | ⟨g', cap, cur, e, _, hb, hl, _, hs, _⟩
  · cases e
  · injection e with e1 e2 e3
    injection e1 with e1
    injection e1 with e1
    subst e1 e3
    have hlt : k < cur.size := by rw [hs]; omega
    exact ⟨cur[k], by rw [cell_of_row _ _ _ _ _ _ hb]; exact Array.getElem?_eq_getElem hlt, by simp [World.frozen?, hb]⟩
/-- The law's own blocks, and all that came between two sizes. -/
def GM (q lb : Nat) (av : Value) (B E k : Nat) : Prop := GV q lb av k ∨ (B ≤ k ∧ k < E)
section
variable {wa x0 x1 x2 x3 x5 y1 y3 y4 : World} {b q lb : Nat} {D : List (List UInt8)} {all : List (List UInt8)} {d d2 : DS} {av va vb : Value}
/-- Behind the marks and the growth: a's own row has turned, nothing else. -/
theorem mem_turned (h0 : wa.heap.size ≤ q) (hql : q < lb) (S0 : MmS wa x0 b q lb D all d av) (N1 : NewT x0 x1 va all) (N2 : NewT x1 x2 vb all) (q23 : Qt x2 x3) (q35 : Qt x3 x5) (K : Keeps (fun x => va.ownBlock = some x) x5 y1) :
    DK (GM q lb av x0.heap.size y1.heap.size) wa y1 b d ∧ RowT y1 av all ∧ Boxed y1 lb 66 av ∧ TextsIn y1 vb all ∧ Keeps (fun k => k < x2.heap.size) x3 y1 := by
  have q12 := N2.qt
  have q01 := N1.qt
  have q25 := Qt.trans q23 q35
  have q05 := Qt.trans (Qt.trans q01 q12) q25
  have z0 := S0.dk.since.size
  have z1 := q01.size
  have z2 := q12.size
  have hlt : ∀ g, va.ownBlock = some g → g < x1.heap.size := fun g e => ownsRow_lt N1.own e
  have hge := gv_ge h0 hql S0.new
  refine ⟨?_, ?_, ?_, ?_, Keeps.trans (S := fun k => k < x2.heap.size) (Keeps.mono q35 (fun _ _ e => e.elim)) K (fun i _ e => ?_)⟩
  · have h1 : DK (fun k => GV q lb av k ∨ x0.heap.size ≤ k) wa x0 b d := S0.dk.more (fun k e => e)
    have h2 := (h1.qt q05).turn (fun k e => by
      rcases e with e | e
      · exact hge k e
      · omega) (K.mono (fun k _ e => .inr (N1.new k e)))
    exact h2.more (fun k e => by
      rcases e with e | e
      · exact .inl (.inl e)
      · exact .inl (.inr e.1))
  · refine (S0.row.kept q05 (fun _ _ e => e)).kept K (fun g hg e => ?_)
    have h1 := S0.lt g (.inr (.inr hg))
    have h2 := N1.new g e
    omega
  · refine (K.block lb (boxed_qt S0.box q05).lt (fun e => ?_)).trans (boxed_qt S0.box q05)
    have h1 := S0.box.lt
    have h2 := N1.new lb e
    omega
  · have h : RowT y1 vb all := (show RowT x5 vb all from RowT.kept N2.own q25 (fun _ _ e => e)).kept K (fun g hg e => by
      have h1 := N2.new g hg
      have h2 := hlt g e
      omega)
    exact h.texts
  · have := hlt i e
    omega
/-- Behind the write. -/
theorem mem_written (z1 : x0.heap.size ≤ x2.heap.size) (z3 : x3.heap.size ≤ y1.heap.size) (R1 : RowT y1 av all) (B1 : Boxed y1 lb 66 av) (K1 : Keeps (fun k => k < x2.heap.size) x3 y1) (q13 : Qt y1 y3)
    (K : Keeps (OutJ wa (GM q lb av x0.heap.size y1.heap.size)) y3 y4) : RowT y4 av all ∧ Boxed y4 lb 66 av ∧ Keeps (fun k => k < x2.heap.size) x3 y4 := by
  refine ⟨(R1.kept q13 (fun _ _ e => e)).kept K (fun g hg e => e.2 (.inl (.inr (.inr hg)))), ?_, Keeps.trans (Keeps.trans K1 q13 (fun _ _ e => e.elim)) K (fun i hi e => ?_)⟩
  · have h := boxed_qt B1 q13
    exact (K.block lb h.lt (fun e => e.2 (.inl (.inr (.inl rfl))))).trans h
  · rcases Nat.lt_or_ge i x2.heap.size with k | k
    · exact k
    · exact absurd (.inr ⟨by omega, by omega⟩) e.2
theorem gm_lt (S0 : MmS wa x0 b q lb D all d av) (h : x0.heap.size ≤ y1.heap.size) (h2 : y1.heap.size ≤ y3.heap.size) : ∀ k, GM q lb av x0.heap.size y1.heap.size k → k < y3.heap.size := by
  rintro k (e | e)
  · have := S0.lt k e; omega
  · omega
end
/-! ### The two ranges: n's box -/
def NbAt (y4 : World) (all : List (List UInt8)) (pre : List (Nat × List UInt8)) (W : World) : Prop :=
  (Boxed W y4.heap.size 3 (.int .i64 (pre.length : Int)) ∧ pre <+: enumT all) ∧ Below y4.heap.size y4 W
def NxAt (y4 : World) (all : List (List UInt8)) (stop : Int) (c : Code) (pre : List (Nat × List UInt8)) (W : World) : Prop :=
  (c = .ret ∧ ¬ pre <+: enumT all) ∨ (c = .exit 6 ∧ (pre.length : Int) = stop ∧ NbAt y4 all pre W)
section
variable {y4 W : World} {all : List (List UInt8)} {stop : Int} {B : Nat} {pre : List (Nat × List UInt8)} {x : Nat × List UInt8}
theorem nbAt_own (h : y4.heap.size ≤ B) : OwnFrom B (NbAt y4 all) :=
  OwnFrom.and (ownFrom_box (fun pre => .int .i64 (pre.length : Int)) (fun pre => pre <+: enumT all)) (ownFrom_below (Nat.le_refl _) h)
theorem nxAt_own (h : y4.heap.size ≤ B) (c : Code) : OwnFrom B (NxAt y4 all stop c) := by
  intro s W W' row hs hg hr
  rcases hs with hs | ⟨h1, h2, h3⟩
  · exact .inl hs
  · exact .inr ⟨h1, h2, nbAt_own h s W W' row h3 hg hr⟩
theorem NbAt.more (h : NbAt y4 all pre W) (h1 : x.1 = pre.length) (h2 : pre.length < all.length) (h3 : x.2 = all.getD pre.length []) : NbAt y4 all (pre ++ [x]) (W.setCell ⟨y4.heap.size, 0, none⟩ (.int .i64 ((pre.length : Int) + 1))) := by
  refine ⟨⟨?_, prefix_snoc.2 ⟨h.1.2, h1, h2, h3⟩⟩, h.2.setCell (p := ⟨y4.heap.size, 0, none⟩) (Nat.le_refl _) _⟩
  rw [List.length_append, List.length_singleton]
  exact boxed_set h.1.1
theorem NbAt.qt (h : NbAt y4 all pre W) : Qt y4 W := Qt.of_below h.2
end
/-- What lies where the first range has been left: n's box holds all, or what stop says. -/
def NdAt (y4 : World) (all : List (List UInt8)) (stop : Int) (B : Nat) (D : Nat) (W : World) : Prop :=
  ∃ m : Nat, (m = all.length ∨ (m : Int) = stop) ∧ Boxed W y4.heap.size 3 (.int .i64 (m : Int)) ∧ Below y4.heap.size y4 W ∧ W.heap[D]? = some (.deferred (some [])) ∧ B ≤ D
/-- A range that is run through or broken off: one way on. -/
theorem wpIn_both {F : Fence} {n : Nat} {P : Program} {c : Code} {R : Exit → Act → World → Prop} {a : Act} {w : World} (I : Nat → World → Prop)
    (h : c.wpIn F n P (fun e a' W => ∃ D, (e = .normal ∨ e = .exit 6) ∧ a' = { a with defers := { target := .collected D, args := #[] } :: a.defers } ∧ I D W) a w)
    (hq : ∀ D W, I D W → R .normal { a with defers := { target := .collected D, args := #[] } :: a.defers } W) : c.wpIn F n P (Exit.inBlock 6 R) a w :=
  wpIn_mono h (by
    rintro e a' W ⟨D, he, rfl, hI⟩
    rcases he with rfl | rfl
    · exact hq D W hI
    · have h1 := hq D W hI
      simpa [Exit.inBlock] using h1)
theorem results_cell1 {fn : Func} {p : Tmp} {t : TypeId} (h : fn.results = #[.cell p t]) (tmps : Array Value) (P : Program) (w : World) {a : Addr} {x : Value}
    (hp : tmps.getD p undef = .pointer (some a)) (ht : (isAgg t).run P w = .ok false w) (hx : w.cell? a = some x) : (results fn tmps).run P w = .ok x w := by
  have hp' : tmps[p]?.getD undef = .pointer (some a) := by simpa using hp
  simp [results, h, hp', asAddr, loadVar, Sem.run_bind, ht, hx, Result.andThen]
def NbD (y4 : World) (all : List (List UInt8)) (D : Nat) (pre : List (Nat × List UInt8)) (W : World) : Prop := NbAt y4 all pre W ∧ W.heap[D]? = some (.deferred (some []))
theorem nbD_own {y4 : World} {all : List (List UInt8)} {B D : Nat} (h : y4.heap.size ≤ B) (hD : D < B) : OwnFrom B (NbD y4 all D) := OwnFrom.and (nbAt_own h) (ownFrom_block hD rfl)
theorem pure_own {all : List (List UInt8)} {B : Nat} (c : Code) : OwnFrom B (fun (pre : List (Nat × List UInt8)) (_ : World) => c = .ret ∧ ¬ pre <+: enumT all) := fun _ _ _ _ hs _ _ => hs
/-- At the return: the two ranges' blocks are shut, the answer stands in its box. -/
theorem mem_end {w y : World} {D1 D2 r : Nat} (q : Qt w y) (hr : w.heap.size ≤ r) (b : Boxed y r 4 (.bool false)) (h1 : y.heap[D1]? = some (.deferred (some []))) (h2 : y.heap[D2]? = some (.deferred (some []))) (hne : D1 ≠ D2) (g1 : w.heap.size ≤ D1) (g2 : w.heap.size ≤ D2) :
    (y.setCell ⟨r, 0, none⟩ (.bool true)).heap[D2]? = some (.deferred (some [])) ∧ ((y.setCell ⟨r, 0, none⟩ (.bool true)).putObj D2 (.deferred none)).heap[D1]? = some (.deferred (some [])) ∧
    Boxed (((y.setCell ⟨r, 0, none⟩ (.bool true)).putObj D2 (.deferred none)).putObj D1 (.deferred none)) r 4 (.bool true) ∧ Qt w (((y.setCell ⟨r, 0, none⟩ (.bool true)).putObj D2 (.deferred none)).putObj D1 (.deferred none)) := by
  have n1 : D1 ≠ r := fun e => by
    subst e
    rw [show y.heap[D1]? = _ from b] at h1
    cases h1
  have n2 : D2 ≠ r := fun e => by
    subst e
    rw [show y.heap[D2]? = _ from b] at h2
    cases h2
  have e1 := (show (y.setCell ⟨r, 0, none⟩ (.bool true)).heap[D1]? = y.heap[D1]? from heap_setCell_other _ _ _ _ (by simpa using n1)).trans h1
  have e2 := (show (y.setCell ⟨r, 0, none⟩ (.bool true)).heap[D2]? = y.heap[D2]? from heap_setCell_other _ _ _ _ (by simpa using n2)).trans h2
  have q1 : Qt w (y.setCell ⟨r, 0, none⟩ (.bool true)) := Keeps.setCell (p := ⟨r, 0, none⟩) q (fun h => by simp only at h; omega) _
  have q2 : Qt w ((y.setCell ⟨r, 0, none⟩ (.bool true)).putObj D2 (.deferred none)) := Keeps.grown q1 (grownBy_putObj' _ _ _) (fun k hk e => by injection e with e; omega)
  exact ⟨e2, (World.putObj_heap_other hne).trans e1, boxed_put (boxed_put (boxed_set b) n2) n1, Keeps.grown q2 (grownBy_putObj' _ _ _) (fun k hk e => by injection e with e; omega)⟩
theorem zeros256 : (⟨(List.replicate 256 (0 : UInt8)).toArray⟩ : ByteArray).data.toList = zeros := rfl
end Go.Proofs.YtggogaaooacooaaDoor
namespace Go.Proofs.YtggogaaooacooaaDoor
open Go.RowKit
set_option maxRecDepth 100000

section
variable {P : Program} {w : World}
theorem step_append_list {ops : Array Oper} {o : Oper} {a : Act} {K : Act → World → Prop} {Q : Exit → Act → World → Prop} {E : Prop} (hgd : o.guard = none) (s x : Operand) (t : TypeId)
    (ho : o.op = .call { callee := .builtin .append, args := #[s, x], argTypes := #[t, t] })
    (e : TypeId) (i : TypeInfo) (z : Value) (bytes : Nat) (ht : P.underlying t = some (.slice e)) (hi : P.info? e = some i) (hz : i.zero = some z)
    (hsize : i.size = 1) (hby : i.bytes = bytes) (hzs : z.cells.size = 1)
    (g c0 n l : Nat) (xs : List Value) (hs : a.eval s = .slice (some ⟨g, 0, none⟩) n c0) (hown : w.ownsRow 0 e 1 (.slice (some ⟨g, 0, none⟩) n c0) n xs)
    (ad : Option Addr) (m c : Nat) (news : List Value) (hx : a.eval x = .slice ad m c) (hm : m = news.length) (ha : news ≠ [] → ∃ p, ad = some p ∧ ∀ (j : Nat) u, news[j]? = some u → w.cell? (p.add j) = some u) (h1 : ∀ u ∈ news, u.oneCell' = true)
    (hl : n + m = l) (h63 : l ≤ maxLen) (hbytes : l * bytes ≤ 140737488355328)
    (h : ∀ g' cap w', w'.ownsRow 0 e 1 (.slice (some ⟨g', 0, none⟩) l cap) l (xs ++ news) → w.grownBy w' (some g) → (g' = g ∨ w.heap.size ≤ g') → K (a.put o.dst (.slice (some ⟨g', 0, none⟩) l cap)) w') :
    if Region.wanted o (yielded ops a.tmps) = true then Oper.wp P o a w K Q else E := by
  have hw : Region.wanted o (yielded ops a.tmps) = true := by simp [Region.wanted, hgd]
  rw [if_pos hw]
  subst hm hl
  obtain ⟨v', w', hr, h2, h3, h4⟩ := run_append_list (P := P) w t o.type e i z bytes ht hi hz hsize hby hzs _ n xs hown ad c news ha h1 h63 hbytes
  obtain ⟨g', cap, rfl, hg⟩ : ∃ g' cap, v' = .slice (some ⟨g', 0, none⟩) (n + news.length) cap ∧ (g' = g ∨ w.heap.size ≤ g') := by
    rcases h2.2 with ⟨rfl, _⟩ | ⟨g', cap, cur, rfl, _⟩
    · rcases h4 with h4 | ⟨_, h4, _⟩ <;> simp [Value.ownBlock] at h4
    · refine ⟨g', cap, rfl, ?_⟩
      rcases h4 with h4 | ⟨y, h4, hy⟩
      · simp [Value.ownBlock] at h4; exact .inl h4
      · simp [Value.ownBlock] at h4; subst h4; exact .inr hy
  unfold Oper.wp execOp
  simp only [ho, resolve, invoke, builtin, Sem.run_bind, Sem.run_pure, Result.andThen_ok, List.map_toArray, List.map_cons, List.map_nil, hs, hx, hr]
  exact h g' cap w' h2 h3 hg
theorem wpList_append_row {ops : Array Oper} {rest : List Oper} {o : Oper} {a : Act} {Q : Exit → Act → World → Prop} (hgd : o.guard = none) (s x : Operand) (t : TypeId)
    (ho : o.op = .call { callee := .builtin .append, args := #[s, x], argTypes := #[t, t] })
    (e : TypeId) (i : TypeInfo) (z : Value) (bytes : Nat) (ht : P.underlying t = some (.slice e)) (hi : P.info? e = some i) (hz : i.zero = some z)
    (hsize : i.size = 1) (hby : i.bytes = bytes) (hzs : z.cells.size = 1)
    (g c0 n l : Nat) (xs : List Value) (hs : a.eval s = .slice (some ⟨g, 0, none⟩) n c0) (hown : w.ownsRow 0 e 1 (.slice (some ⟨g, 0, none⟩) n c0) n xs)
    (ad : Option Addr) (m c : Nat) (news : List Value) (hx : a.eval x = .slice ad m c) (hm : m = news.length) (ha : news ≠ [] → ∃ p, ad = some p ∧ ∀ (j : Nat) u, news[j]? = some u → w.cell? (p.add j) = some u) (h1 : ∀ u ∈ news, u.oneCell' = true)
    (hl : n + m = l) (h63 : l ≤ maxLen) (hbytes : l * bytes ≤ 140737488355328)
    (h : ∀ g' cap w', w'.ownsRow 0 e 1 (.slice (some ⟨g', 0, none⟩) l cap) l (xs ++ news) → w.grownBy w' (some g) → (g' = g ∨ w.heap.size ≤ g') → wpList P ops Q rest (a.put o.dst (.slice (some ⟨g', 0, none⟩) l cap)) w') : wpList P ops Q (o :: rest) a w := by
  refine wpList_plain hgd fun K hK => ?_
  subst hm hl
  obtain ⟨v', w', hr, h2, h3, h4⟩ := run_append_list (P := P) w t o.type e i z bytes ht hi hz hsize hby hzs _ n xs hown ad c news ha h1 h63 hbytes
  obtain ⟨g', cap, rfl, hg⟩ : ∃ g' cap, v' = .slice (some ⟨g', 0, none⟩) (n + news.length) cap ∧ (g' = g ∨ w.heap.size ≤ g') := by
    rcases h2.2 with ⟨rfl, _⟩ | ⟨g', cap, cur, rfl, _⟩
    · rcases h4 with h4 | ⟨_, h4, _⟩ <;> simp [Value.ownBlock] at h4
    · refine ⟨g', cap, rfl, ?_⟩
      rcases h4 with h4 | ⟨y, h4, hy⟩
      · simp [Value.ownBlock] at h4; exact .inl h4
      · simp [Value.ownBlock] at h4; subst h4; exact .inr hy
  unfold Oper.wp execOp
  simp only [ho, resolve, invoke, builtin, Sem.run_bind, Sem.run_pure, Result.andThen_ok, List.map_toArray, List.map_cons, List.map_nil, hs, hx, hr]
  exact hK _ _ (h g' cap w' h2 h3 hg)
end
end Go.Proofs.YtggogaaooacooaaDoor
