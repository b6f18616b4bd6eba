/-
  What KeysMemory's loops keep.
-/
import Derived.Test.YtfhfbpjhjigbnaaDoorKRows
namespace Go.Proofs.YtfhfbpjhjigbnaaDoor
open Go.RowKit Go.WideShapes
set_option maxRecDepth 100000

def spareP : PD := ⟨false, 0, ⟨#[115, 112, 97, 114, 101]⟩⟩
def roomP : PD := ⟨false, 0, ⟨#[114, 111, 111, 109]⟩⟩
def markP : PD := ⟨false, 0, ⟨#[109, 97, 114, 107]⟩⟩
def grownP : PD := ⟨false, 0, ⟨#[103, 114, 111, 119, 110]⟩⟩
def numP (i : Nat) : PD := ⟨true, (i : Nat), ⟨#[]⟩⟩
def numsP (k : Nat) : List PD := (List.range k).map numP
theorem numsP_length (k : Nat) : (numsP k).length = k := by simp [numsP]
theorem numsP_succ (k : Nat) : numsP (k + 1) = numsP k ++ [numP k] := by simp [numsP, List.range_succ]
theorem numsP_ok {k : Nat} (hk : k ≤ 1048576) : ∀ p ∈ numsP k, p.Ok := by
  intro p hp
  obtain ⟨i, hi, rfl⟩ := List.mem_map.1 hp
  have := List.mem_range.1 hi
  exact ⟨by simp only [numP]; omega, by simp only [numP]; omega, by simp [numP, ByteArray.size]⟩
theorem joinB_nums (k : Nat) : (K.joinB ((numsP k).map PD.part)).length = 9 * k := by
  induction k with
  | zero => rfl
  | succ k ih =>
    rw [numsP_succ, List.map_append, List.map_cons, List.map_nil, joinB_snoc, List.length_append, ih]
    have : (K.formB (numP k).part).length = 9 := by
      show (K.formB (.num _)).length = 9
      rw [formB_num]; simp [K.beB_length]
    rw [this]; omega

/-- The first loop of stores: k numbers stored. -/
theorem nums_set {xs : List PD} {k : Nat} (hk : k < xs.length) : (numsP k ++ xs.drop k).set k (numP k) = numsP (k + 1) ++ xs.drop (k + 1) := by
  rw [numsP_succ, List.drop_eq_getElem_cons hk, List.set_append_right _ _ (by rw [numsP_length]; exact Nat.le_refl _), numsP_length, Nat.sub_self, List.set_cons_zero]
  simp
theorem marks_set {xs : List PD} {k : Nat} (hk : k < xs.length) : (List.replicate k markP ++ xs.drop k).set k markP = List.replicate (k + 1) markP ++ xs.drop (k + 1) := by
  rw [List.replicate_succ', List.drop_eq_getElem_cons hk, List.set_append_right _ _ (by simp), List.length_replicate, Nat.sub_self, List.set_cons_zero]
  simp

theorem Parts.news {W : World} {v : Value} {g off : Nat} {ps : List PD} {a : Option Addr} {c : Nat} (h : Parts W v g off ps) (hv : v = .slice a ps.length c) : psCells ps ≠ [] → ∃ p, a = some p ∧ ∀ (j : Nat) u, (psCells ps)[j]? = some u → W.cell? (p.add j) = some u := by
  intro hne
  have hne' : ps ≠ [] := by rintro rfl; exact hne rfl
  obtain ⟨a', c', e, ha⟩ := h.val
  rw [hv] at e
  injection e with e1 _ _
  subst e1
  refine ⟨_, ha hne', fun j u hj => ?_⟩
  rw [add_plain]
  have hj3 : j < ps.length * 3 := by have := (List.getElem?_eq_some_iff.1 hj).1; rwa [psCells_length] at this
  have hk : j / 3 < ps.length := by omega
  obtain ⟨c0, c1, c2⟩ := h.cells (j / 3) ps[j / 3] (List.getElem?_eq_getElem hk)
  have hm : j % 3 = 0 ∨ j % 3 = 1 ∨ j % 3 = 2 := by omega
  have e0 : j = j / 3 * 3 + j % 3 := by omega
  have hg : ∀ i u', (ps[j / 3]).list[i]? = some u' → (psCells ps)[j / 3 * 3 + i]? = some u' := fun i u' hu => psCells_get (List.getElem?_eq_getElem hk) hu
  rcases hm with hm | hm | hm
  · rw [hm] at e0
    rw [e0] at hj ⊢
    rw [hg 0 _ rfl] at hj
    cases hj
    exact c0
  · rw [hm] at e0
    rw [e0] at hj ⊢
    rw [hg 1 _ rfl] at hj
    cases hj
    rw [← Nat.add_assoc]; exact c1
  · rw [hm] at e0
    rw [e0] at hj ⊢
    rw [hg 2 _ rfl] at hj
    cases hj
    rw [← Nat.add_assoc]; exact c2
theorem psCells_one' (ps : List PD) : ∀ u ∈ psCells ps, u.oneCell' = true := by
  intro u hu
  obtain ⟨p, _, hp⟩ := List.mem_flatMap.1 hu
  simp only [PD.list, List.mem_cons, List.not_mem_nil, or_false] at hp
  rcases hp with rfl | rfl | rfl <;> rfl

theorem NewParts.own_empty (W : World) : (W.alloc (.cells #[] 25)).ownsRow 0 25 3 (.slice (some ⟨W.heap.size, 0, none⟩) 0 0) 0 [] :=
  ⟨rfl, .inr ⟨W.heap.size, 0, #[], rfl, Nat.zero_le _, heap_alloc_new W _, Nat.le_refl _, Nat.zero_le _, rfl, rfl⟩⟩

theorem row_of_own {W : World} {v : Value} {n : Nat} {xs : List PD} (h : W.ownsRow 0 25 3 v n (psCells xs)) (hn : 0 < n) : ∃ g cap, v = .slice (some ⟨g, 0, none⟩) n cap ∧ Row W g n cap xs := by
  rcases h.2 with ⟨_, h0⟩ | ⟨g, cap, cur, rfl, _⟩
  · omega
  · exact ⟨g, cap, rfl, h⟩

theorem slice_of_own {W : World} {v : Value} {n : Nat} {xs : List Value} (h : W.ownsRow 0 25 3 v n xs) : ∃ a c, v = .slice a n c := by
  rcases h.2 with ⟨rfl, h0⟩ | ⟨g, cap, cur, rfl, _⟩
  · exact ⟨none, 0, by rw [h0]⟩
  · exact ⟨_, cap, rfl⟩

/-- The blocks that the last loops may turn: x's own, and new ones. -/
def XS (x : Value) (B : Nat) (b : Nat) : Prop := x.ownBlock = some b ∨ B ≤ b

/-- The loop of marks: k marks stored. -/
def MarkAt (x : Value) (n : Nat) (xs : List PD) (w8 : World) (i : Value) (wr : World) : Prop :=
  ∃ k : Nat, k ≤ n ∧ i = .int .i64 k ∧ wr.ownsRow 0 25 3 x n (psCells (List.replicate k markP ++ xs.drop k)) ∧ Keeps (XS x w8.heap.size) w8 wr

theorem MarkAt.start {x : Value} {n : Nat} {xs : List PD} {w : World} (h : w.ownsRow 0 25 3 x n (psCells xs)) : MarkAt x n xs w (.int .i64 0) w := ⟨0, Nat.zero_le _, rfl, by simpa using h, Keeps.refl _ _⟩
theorem MarkAt.more {g n cap k : Nat} {xs : List PD} {w8 wr : World} (hx : xs.length = n) (hk : k < n) (h : wr.ownsRow 0 25 3 (.slice (some ⟨g, 0, none⟩) n cap) n (psCells (List.replicate k markP ++ xs.drop k))) (hK : Keeps (XS (.slice (some ⟨g, 0, none⟩) n cap) w8.heap.size) w8 wr) :
    MarkAt (.slice (some ⟨g, 0, none⟩) n cap) n xs w8 (.int .i64 ((k : Int) + 1)) (((wr.setCell ⟨g, k * 3, none⟩ (.bool false)).setCell ⟨g, k * 3 + 1, none⟩ (.int .i64 0)).setCell ⟨g, k * 3 + 2, none⟩ (.string ⟨#[109, 97, 114, 107]⟩)) := by
  refine ⟨k + 1, hk, by simp, ?_, Keeps.store3 hK (fun _ => .inl rfl) _ _ _ _ _ _⟩
  have q := Row.store (W := wr) (g := g) (n := n) (cap := cap) (xs := List.replicate k markP ++ xs.drop k) h (i := k) (by simp; omega) markP
  rw [marks_set (by omega)] at q
  exact q
theorem MarkAt.done {x : Value} {n : Nat} {xs : List PD} {wr : World} (hx : xs.length = n) (h : wr.ownsRow 0 25 3 x n (psCells (List.replicate n markP ++ xs.drop n))) : wr.ownsRow 0 25 3 x n (psCells (List.replicate n markP)) := by
  rwa [List.drop_eq_nil_of_le (Nat.le_of_eq hx), List.append_nil] at h

/-- The loop that grows x: j parts behind it. -/
def GrowAt (x : Value) (n : Nat) (w8 : World) (gv : Value) (wr : World) : Prop :=
  ∃ (j : Nat) (a : Option Addr) (c : Nat), j ≤ 70 ∧ gv = .slice a (n + j) c ∧ wr.ownsRow 0 25 3 gv (n + j) (psCells (List.replicate n markP ++ List.replicate j grownP)) ∧ (∃ g, Parts wr x g 0 (List.replicate n markP)) ∧ Keeps (XS x w8.heap.size) w8 wr ∧ (∀ b, gv.ownBlock = some b → XS x w8.heap.size b)

theorem own_marks {W : World} {v : Value} {n : Nat} {xs : List PD} (h : W.ownsRow 0 25 3 v n (psCells xs)) (hl : n ≤ 4194304) : ∃ g, Parts W v g 0 xs := by
  have hx : xs.length = n := by have := h.1; rw [psCells_length] at this; omega
  subst hx
  obtain ⟨g, hg, _⟩ := NewParts.parts (B := 0) ⟨h, fun _ _ => Nat.zero_le _⟩ hl
  exact ⟨g, hg⟩
theorem GrowAt.start {x : Value} {n : Nat} {w8 wr : World} (hn : n ≤ 4194304) (h : wr.ownsRow 0 25 3 x n (psCells (List.replicate n markP))) (hK : Keeps (XS x w8.heap.size) w8 wr) : GrowAt x n w8 x wr := by
  obtain ⟨a, c, rfl⟩ := slice_of_own h
  exact ⟨0, a, c, Nat.zero_le _, rfl, by simpa using h, own_marks h hn, hK, fun b hb => .inl hb⟩
theorem GrowAt.more {x gv v' : Value} {n j : Nat} {w8 wr w2 w' : World} (hn : n ≤ 4194000) (hj : j < 70) (hp : ∃ g, Parts wr x g 0 (List.replicate n markP)) (hK : Keeps (XS x w8.heap.size) w8 wr) (hb : ∀ b, gv.ownBlock = some b → XS x w8.heap.size b) (k2 : Qt wr w2)
    (hown : w'.ownsRow 0 25 3 v' (n + j + 1) (psCells (List.replicate n markP ++ List.replicate j grownP) ++ grownP.list))
    (hor : (v'.ownBlock = gv.ownBlock ∧ w2.grownBy w' gv.ownBlock) ∨ (∃ g, v'.ownBlock = some g ∧ w2.heap.size ≤ g ∧ w2.grownBy w' none)) : GrowAt x n w8 v' w' := by
  have hK2 : Keeps (XS x w8.heap.size) w8 w2 := Keeps.trans hK k2 (fun _ _ e => e.elim)
  have hs2 := hK2.size
  rw [← psCells_one, ← psCells_append, List.append_assoc, ← List.replicate_succ'] at hown
  obtain ⟨a, c, hv⟩ := slice_of_own hown
  obtain ⟨g, hp⟩ := hp
  have hp2 := hp.qt k2
  have hP : Parts w' x g 0 (List.replicate n markP) := by
    rcases hor with ⟨h1, h2⟩ | ⟨g', h1, h2, h3⟩
    · by_cases hg : gv.ownBlock = some g ∧ n ≠ 0
      · obtain ⟨hg, hn0⟩ := hg
        rw [hg] at h1
        obtain ⟨a', cx, hx, ha⟩ := hp.val
        have ha := ha (by intro e; have := congrArg List.length e; simp at this; exact hn0 this)
        subst ha
        rw [hx, List.length_replicate]
        rcases hown.2 with ⟨_, h0⟩ | ⟨gq, cap, cur, e2, _⟩
        · omega
        · rw [e2] at h1 hown
          have h1' : some gq = some g := h1
          injection h1' with h1'
          subst h1'
          have q := Row.parts (W := w') (g := gq) (n := n + j + 1) (cap := cap) (xs := List.replicate n markP ++ List.replicate (j + 1) grownP) hown (by omega) (k := n) (by omega) cx
          rwa [List.take_left' (by simp)] at q
      · have hkk : Keeps (fun k => some k = gv.ownBlock) w2 w' := Keeps.grown (Keeps.refl _ _) h2 (fun _ _ e => e)
        refine hp2.kept hkk (fun hne e => hg ⟨e.symm, ?_⟩)
        rintro rfl; exact hne rfl
    · exact hp2.kept (S := fun _ => False) (Keeps.grown (Keeps.refl _ _) h3 (fun _ _ e => by cases e)) (fun _ e => e)
  rcases hor with ⟨h1, h2⟩ | ⟨g', h1, h2, h3⟩
  · exact ⟨j + 1, a, c, hj, hv, hown, ⟨g, hP⟩, Keeps.grown hK2 h2 (fun k _ e => hb k e.symm), fun b hb' => hb b (h1 ▸ hb')⟩
  · refine ⟨j + 1, a, c, hj, hv, hown, ⟨g, hP⟩, Keeps.grown hK2 h3 (fun k _ e => by cases e), fun b hb' => ?_⟩
    rw [h1] at hb'
    injection hb' with hb'
    exact .inr (by omega)

/-- The loop of numbers: k numbers stored into the room. -/
def NumsAt (g n cap : Nat) (xs : List PD) (w : World) (i : Value) (wr : World) : Prop :=
  ∃ k : Nat, k ≤ n ∧ i = .int .i64 k ∧ Row wr g (n + 2) cap (numsP k ++ xs.drop k) ∧ Since w.heap.size w wr
theorem NumsAt.more {g n cap k : Nat} {xs : List PD} {w wr w2 : World} (hx : xs.length = n + 2) (hg : w.heap.size ≤ g) (hk : k < n) (h : Row wr g (n + 2) cap (numsP k ++ xs.drop k)) (hS : Since w.heap.size w wr) (k2 : Qt wr w2) :
    NumsAt g n cap xs w (.int .i64 ((k : Int) + 1)) (((w2.setCell ⟨g, k * 3, none⟩ (.bool true)).setCell ⟨g, k * 3 + 1, none⟩ (.int .i64 k)).setCell ⟨g, k * 3 + 2, none⟩ (.string ⟨#[]⟩)) := by
  refine ⟨k + 1, hk, by simp, ?_, Keeps.store3 (Since.step hS k2 (fun _ e => e.elim)) (fun _ => hg) _ _ _ _ _ _⟩
  have q := Row.store (Row.kept h k2 (fun e => e)) (i := k) (by rw [List.length_append, numsP_length, List.length_drop]; omega) (numP k)
  rw [nums_set (by omega)] at q
  exact q
theorem Row.there {W : World} {g n cap i : Nat} {xs : List PD} (h : Row W g n cap xs) (hi : i < xs.length) : W.there g (i * 3) 3 := by
  obtain ⟨⟨c0, c1, c2⟩, hf⟩ := h.cell (List.getElem?_eq_getElem hi)
  intro j hj
  refine ⟨?_, hf _⟩
  have hj' : j = 0 ∨ j = 1 ∨ j = 2 := by omega
  rcases hj' with rfl | rfl | rfl
  · rw [Nat.add_zero, c0]; rfl
  · rw [c1]; rfl
  · rw [c2]; rfl
theorem NumsAt.start {g n cap : Nat} {xs : List PD} {w wr : World} (h : Row wr g (n + 2) cap xs) (hS : Since w.heap.size w wr) : NumsAt g n cap xs w (.int .i64 0) wr := ⟨0, Nat.zero_le _, rfl, by simpa [numsP] using h, hS⟩
theorem neq_self (p : PD) (w : World) : (binOp .neq 25 (.agg #[.bool p.b, .int .i64 p.n, .string p.s]) (.agg #[.bool p.b, .int .i64 p.n, .string p.s])).run Tryd.prog w = .ok (.bool false) w := by
  have := run_neq_part p p w
  simpa using this
def lenOf : Value → Nat
  | .slice _ n _ => n
  | _ => 0
end Go.Proofs.YtfhfbpjhjigbnaaDoor
