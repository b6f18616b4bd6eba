/-
  What a table is to its callers: the contracts of package table, whatever a table is made of.
  The contract of remitlaw11.lives: the fixed fact.
  The contract of remitlaw11.lasts: is there just the last row of each key?
-/
import Derived.Test.YtadocleollndfaaP04
import Derived.LoopTactic
namespace Go.Proofs.Ytadocleollndfaa
open Go.RowKit Go.WideShapes
set_option maxRecDepth 100000

abbrev ptrV (b : Nat) : Value := .pointer (some ⟨b, 0, none⟩)
/-- What rests of it and came with a step: S2 of S or new, A2 of A or new. -/
structure Grew (w w' : World) (S A S2 A2 : Nat → Prop) : Prop where
  own : ∀ k, S2 k → S k ∨ w.heap.size ≤ k
  all : ∀ k, A2 k → A k ∨ w.heap.size ≤ k
  keeps : Keeps S w w'
/-- THE CONTRACTS. T W b l S A: the table in block b has the rows l; its calls may turn the blocks S alone; it rests on the blocks A. -/
structure TabH where
  T : World → Nat → List Tb.R → (Nat → Prop) → (Nat → Prop) → Prop
  sub : ∀ {W b l S A}, T W b l S A → ∀ k, S k → A k
  lt : ∀ {W b l S A}, T W b l S A → ∀ k, A k → k < W.heap.size
  sorted : ∀ {W b l S A}, T W b l S A → Tb.Sorted l
  kept : ∀ {W W' b l S A} {K : Nat → Prop}, T W b l S A → Keeps K W W' → (∀ k, A k → ¬ K k) → T W' b l S A
  of : ∀ {W v g o rows}, RowsIn W v g o rows → Tb.bytes rows ≤ 9223372036854775807 → (∀ r ∈ rows, r.1.length ≤ 281474976710656 ∧ r.2.length ≤ 281474976710656) → rows.length ≤ 1048576 →
    Calls Try.prog 6 #[v] W fun e W' => ∃ b S A, e = .returned (ptrV b) ∧ T W' b (Tb.ofL rows) S A ∧ (∀ k, A k → W.heap.size ≤ k) ∧ Qt W W'
  len : ∀ {W b l S A}, T W b l S A → Calls Try.prog 13 #[ptrV b] W fun e W' => e = .returned (.int .i64 (l.length : Int)) ∧ Qt W W'
  bytes : ∀ {W b l S A}, T W b l S A → Calls Try.prog 15 #[ptrV b] W fun e W' => e = .returned (.int .i64 (Tb.bytes l : Int)) ∧ Qt W W'
  get : ∀ {W b l S A}, T W b l S A → ∀ k : ByteArray, Calls Try.prog 14 #[ptrV b, .string k] W fun e W' => e = .returned (.tuple #[strV ((Tb.get l k.data.toList).getD []), .bool (Tb.get l k.data.toList).isSome]) ∧ Qt W W'
  del : ∀ {W b l S A}, T W b l S A → ∀ k : ByteArray, Calls Try.prog 25 #[ptrV b, .string k] W fun e W' => e = .returned (.bool (Tb.get l k.data.toList).isSome) ∧ ∃ S2 A2, T W' b (Tb.del l k.data.toList) S2 A2 ∧ Grew W W' S A S2 A2
  rows : ∀ {W b l S A}, T W b l S A → Calls Try.prog 12 #[ptrV b] W fun e W' => ∃ v, e = .returned v ∧ W'.ownsRow 0 36 2 v l.length (rowsC l) ∧ (∀ g, v.ownBlock = some g → W.heap.size ≤ g) ∧ ∃ S2 A2, T W' b l S2 A2 ∧ (∀ g, v.ownBlock = some g → ¬ A2 g) ∧ Grew W W' S A S2 A2
  range : ∀ {W b l S A}, T W b l S A → ∀ lo hi : ByteArray, Calls Try.prog 9 #[ptrV b, .string lo, .string hi] W fun e W' => ∃ fv X S2 A2, e = .returned fv ∧ IterV X W' fv (Tb.rangeL l lo.data.toList hi.data.toList) ∧ T W' b l S2 A2 ∧ (∀ k, X k → (A k ∨ W.heap.size ≤ k) ∧ ¬ S2 k) ∧ Grew W W' S A S2 A2
  «from» : ∀ {W b l S A}, T W b l S A → ∀ lo : ByteArray, Calls Try.prog 8 #[ptrV b, .string lo] W fun e W' => ∃ fv X S2 A2, e = .returned fv ∧ IterV X W' fv (Tb.fromL l lo.data.toList) ∧ T W' b l S2 A2 ∧ (∀ k, X k → (A k ∨ W.heap.size ≤ k) ∧ ¬ S2 k) ∧ Grew W W' S A S2 A2
  back : ∀ {W b l S A}, T W b l S A → ∀ lo hi : ByteArray, Calls Try.prog 10 #[ptrV b, .string lo, .string hi] W fun e W' => ∃ fv X S2 A2, e = .returned fv ∧ IterV X W' fv (Tb.rangeL l lo.data.toList hi.data.toList).reverse ∧ T W' b l S2 A2 ∧ (∀ k, X k → (A k ∨ W.heap.size ≤ k) ∧ ¬ S2 k) ∧ Grew W W' S A S2 A2
  clone : ∀ {W b l S A}, T W b l S A → Calls Try.prog 24 #[ptrV b] W fun e W' => ∃ c S1 A1 S2 A2, e = .returned (ptrV c) ∧ T W' b l S1 A1 ∧ T W' c l S2 A2 ∧ Grew W W' S A S1 A1 ∧ (∀ k, S2 k → W.heap.size ≤ k) ∧ (∀ k, A2 k → A k ∨ W.heap.size ≤ k) ∧ (∀ k, S2 k → ¬ A1 k) ∧ (∀ k, S1 k → ¬ A2 k)
section
variable {H : TabH} {w w' w2 : World} {b c : Nat} {l m : List Tb.R} {S A S2 A2 S3 A3 : Nat → Prop}
theorem Grew.refl : Grew w w S A S A := ⟨fun _ h => .inl h, fun _ h => .inl h, Keeps.refl _ _⟩
theorem tabH_qt (h : H.T w b l S A) (q : Qt w w') : H.T w' b l S A := H.kept h q (fun _ _ e => e)
/-- A table made since w0, apart from the blocks P. -/
def TK (H : TabH) (P : Nat → Prop) (w0 w : World) (b : Nat) (l : List Tb.R) : Prop := ∃ S A, H.T w b l S A ∧ (∀ k, A k → w0.heap.size ≤ k ∧ ¬ P k) ∧ Qt w0 w
/-- What its calls may turn. -/
abbrev OutT (w0 : World) (P : Nat → Prop) (k : Nat) : Prop := w0.heap.size ≤ k ∧ ¬ P k
section
variable {P P2 : Nat → Prop} {w0 : World}
theorem TK.qt0 (h : TK H P w0 w b l) : Qt w0 w := by obtain ⟨_, _, _, _, h⟩ := h; exact h
theorem TK.sorted (h : TK H P w0 w b l) : Tb.Sorted l := by obtain ⟨_, _, h, _⟩ := h; exact H.sorted h
theorem TK.qt (h : TK H P w0 w b l) (q : Qt w w') : TK H P w0 w' b l := by
  obtain ⟨S, A, h1, h2, h3⟩ := h
  exact ⟨S, A, tabH_qt h1 q, h2, Qt.trans h3 q⟩
theorem TK.turn (h : TK H P w0 w b l) (hP : ∀ k, P k → w0.heap.size ≤ k) (K : Keeps P w w') : TK H P w0 w' b l := by
  obtain ⟨S, A, h1, h2, h3⟩ := h
  have hz := h3.size
  exact ⟨S, A, H.kept h1 K (fun k hk => (h2 k hk).2), h2, Keeps.trans h3 K (fun i hi e => by have := hP i e; omega)⟩
theorem TK.more (h : TK H P w0 w b l) (hP : ∀ k, P2 k → P k ∨ w.heap.size ≤ k) : TK H P2 w0 w b l := by
  obtain ⟨S, A, h1, h2, h3⟩ := h
  refine ⟨S, A, h1, fun k hk => ⟨(h2 k hk).1, fun m => ?_⟩, h3⟩
  rcases hP k m with r | r
  · exact (h2 k hk).2 r
  · have := H.lt h1 k hk; omega
theorem TK.step (hP : ∀ k, P k → k < w.heap.size) (hA : ∀ k, A k → w0.heap.size ≤ k ∧ ¬ P k) (hs : ∀ k, S k → A k) (q : Qt w0 w) (h : H.T w' b m S2 A2) (G : Grew w w' S A S2 A2) : TK H P w0 w' b m ∧ Keeps (OutT w0 P) w w' := by
  have hz := q.size
  refine ⟨⟨S2, A2, h, fun k hk => ?_, Keeps.trans q G.keeps (fun i hi e => by have := (hA i (hs i e)).1; omega)⟩, G.keeps.mono (fun k _ e => hA k (hs k e))⟩
  rcases G.all k hk with e | e
  · exact hA k e
  · exact ⟨by omega, fun m => by have := hP k m; omega⟩
theorem tk_of {v : Value} {g o : Nat} {rows : List Tb.R} (H : TabH) (q : Qt w0 w) (h : RowsIn w v g o rows) (hb : Tb.bytes rows ≤ 9223372036854775807) (ht : ∀ r ∈ rows, r.1.length ≤ 281474976710656 ∧ r.2.length ≤ 281474976710656) (hn : rows.length ≤ 1048576) :
    Calls Try.prog 6 #[v] w fun e w' => ∃ b, e = .returned (ptrV b) ∧ TK H (fun k => k < w.heap.size) w0 w' b (Tb.ofL rows) ∧ Qt w w' :=
  (H.of h hb ht hn).mono fun e w' ⟨b, S, A, he, h1, h2, h3⟩ => ⟨b, he, ⟨S, A, h1, fun k hk => ⟨by have := h2 k hk; have := q.size; omega, by have := h2 k hk; omega⟩, Qt.trans q h3⟩, h3⟩
theorem tk_len (h : TK H P w0 w b l) : Calls Try.prog 13 #[ptrV b] w fun e w' => e = .returned (.int .i64 (l.length : Int)) ∧ Qt w w' := by
  obtain ⟨S, A, h1, _, _⟩ := h
  exact H.len h1
theorem tk_bytes (h : TK H P w0 w b l) : Calls Try.prog 15 #[ptrV b] w fun e w' => e = .returned (.int .i64 (Tb.bytes l : Int)) ∧ Qt w w' := by
  obtain ⟨S, A, h1, _, _⟩ := h
  exact H.bytes h1
theorem tk_get (h : TK H P w0 w b l) (k : ByteArray) : Calls Try.prog 14 #[ptrV b, .string k] w fun e w' => e = .returned (.tuple #[strV ((Tb.get l k.data.toList).getD []), .bool (Tb.get l k.data.toList).isSome]) ∧ Qt w w' := by
  obtain ⟨S, A, h1, _, _⟩ := h
  exact H.get h1 k
theorem tk_rows (hP : ∀ k, P k → k < w.heap.size) (h : TK H P w0 w b l) : Calls Try.prog 12 #[ptrV b] w fun e w' => ∃ v, e = .returned v ∧ w'.ownsRow 0 36 2 v l.length (rowsC l) ∧ (∀ g, v.ownBlock = some g → w.heap.size ≤ g) ∧ TK H (fun k => P k ∨ v.ownBlock = some k) w0 w' b l ∧ Keeps (OutT w0 P) w w' := by
  obtain ⟨S, A, h1, h2, h3⟩ := h
  refine (H.rows h1).mono ?_
  rintro e w' ⟨v, he, ho, hn, S2, A2, t2, hv, G⟩
  obtain ⟨⟨S3, A3, t3, a3, q3⟩, k1⟩ := TK.step hP h2 (H.sub h1) h3 t2 G
  have z3 := h3.size
  refine ⟨v, he, ho, hn, ⟨S2, A2, t2, fun k hk => ?_, q3⟩, k1⟩
  rcases G.all k hk with r | r
  · exact ⟨(h2 k r).1, fun m => by
      rcases m with m | m
      · exact (h2 k r).2 m
      · exact hv k m hk⟩
  · exact ⟨by omega, fun m => by
      rcases m with m | m
      · have := hP k m; omega
      · exact hv k m hk⟩
/-- What Range, From, Back hand out. -/
def IterP (H : TabH) (P : Nat → Prop) (w0 w : World) (b : Nat) (l xs : List Tb.R) (e : Ending) (w' : World) : Prop := ∃ fv X, e = .returned fv ∧ IterV X w' fv xs ∧ TK H P w0 w' b l ∧ Keeps (OutT w0 P) w w'
theorem tk_from (hP : ∀ k, P k → k < w.heap.size) (h : TK H P w0 w b l) (lo : ByteArray) : Calls Try.prog 8 #[ptrV b, .string lo] w (IterP H P w0 w b l (Tb.fromL l lo.data.toList)) := by
  obtain ⟨S, A, h1, h2, h3⟩ := h
  refine (H.from h1 lo).mono ?_
  rintro e w' ⟨fv, X, S2, A2, he, hi, t2, _, G⟩
  obtain ⟨k0, k1⟩ := TK.step hP h2 (H.sub h1) h3 t2 G
  exact ⟨fv, X, he, hi, k0, k1⟩
theorem tk_range (hP : ∀ k, P k → k < w.heap.size) (h : TK H P w0 w b l) (lo hi : ByteArray) : Calls Try.prog 9 #[ptrV b, .string lo, .string hi] w (IterP H P w0 w b l (Tb.rangeL l lo.data.toList hi.data.toList)) := by
  obtain ⟨S, A, h1, h2, h3⟩ := h
  refine (H.range h1 lo hi).mono ?_
  rintro e w' ⟨fv, X, S2, A2, he, hi, t2, _, G⟩
  obtain ⟨k0, k1⟩ := TK.step hP h2 (H.sub h1) h3 t2 G
  exact ⟨fv, X, he, hi, k0, k1⟩
theorem tk_back (hP : ∀ k, P k → k < w.heap.size) (h : TK H P w0 w b l) (lo hi : ByteArray) : Calls Try.prog 10 #[ptrV b, .string lo, .string hi] w (IterP H P w0 w b l (Tb.rangeL l lo.data.toList hi.data.toList).reverse) := by
  obtain ⟨S, A, h1, h2, h3⟩ := h
  refine (H.back h1 lo hi).mono ?_
  rintro e w' ⟨fv, X, S2, A2, he, hi, t2, _, G⟩
  obtain ⟨k0, k1⟩ := TK.step hP h2 (H.sub h1) h3 t2 G
  exact ⟨fv, X, he, hi, k0, k1⟩
/-- Two tables, the second one's calls leave the first. -/
def TK2 (H : TabH) (P : Nat → Prop) (w0 w : World) (b c : Nat) (l m : List Tb.R) : Prop :=
  ∃ S1 A1 S2 A2, H.T w b l S1 A1 ∧ H.T w c m S2 A2 ∧ (∀ k, A1 k → w0.heap.size ≤ k ∧ ¬ P k) ∧ (∀ k, A2 k → w0.heap.size ≤ k ∧ ¬ P k) ∧ (∀ k, S2 k → ¬ A1 k) ∧ Qt w0 w
theorem TK2.fst (h : TK2 H P w0 w b c l m) : TK H P w0 w b l := by
  obtain ⟨S1, A1, S2, A2, h1, h2, a1, a2, _, q⟩ := h
  exact ⟨S1, A1, h1, a1, q⟩
theorem TK2.snd (h : TK2 H P w0 w b c l m) : TK H P w0 w c m := by
  obtain ⟨S1, A1, S2, A2, h1, h2, a1, a2, _, q⟩ := h
  exact ⟨S2, A2, h2, a2, q⟩
theorem TK2.qt (h : TK2 H P w0 w b c l m) (q : Qt w w') : TK2 H P w0 w' b c l m := by
  obtain ⟨S1, A1, S2, A2, h1, h2, a1, a2, d, q0⟩ := h
  exact ⟨S1, A1, S2, A2, tabH_qt h1 q, tabH_qt h2 q, a1, a2, d, Qt.trans q0 q⟩
theorem tk_clone (hP : ∀ k, P k → k < w.heap.size) (h : TK H P w0 w b l) : Calls Try.prog 24 #[ptrV b] w fun e w' => ∃ c, e = .returned (ptrV c) ∧ TK2 H P w0 w' b c l l ∧ Keeps (OutT w0 P) w w' := by
  obtain ⟨S, A, h1, h2, h3⟩ := h
  refine (H.clone h1).mono ?_
  rintro e w' ⟨c, S1, A1, S2, A2, he, t1, t2, G, n2, a2, d, _⟩
  obtain ⟨⟨_, _, _, _, q⟩, k1⟩ := TK.step hP h2 (H.sub h1) h3 t1 G
  have z3 := h3.size
  refine ⟨c, he, ⟨S1, A1, S2, A2, t1, t2, fun k hk => ?_, fun k hk => ?_, d, q⟩, k1⟩
  · rcases G.all k hk with r | r
    · exact h2 k r
    · exact ⟨by omega, fun m => by have := hP k m; omega⟩
  · rcases a2 k hk with r | r
    · exact h2 k r
    · exact ⟨by omega, fun m => by have := hP k m; omega⟩
theorem tk2_del (hP : ∀ k, P k → k < w.heap.size) (h : TK2 H P w0 w b c l m) (k : ByteArray) : Calls Try.prog 25 #[ptrV c, .string k] w fun e w' => e = .returned (.bool (Tb.get m k.data.toList).isSome) ∧ TK2 H P w0 w' b c l (Tb.del m k.data.toList) ∧ Keeps (OutT w0 P) w w' := by
  obtain ⟨S1, A1, S2, A2, h1, h2, a1, a2, d, q⟩ := h
  refine (H.del h2 k).mono ?_
  rintro e w' ⟨he, S3, A3, t3, G⟩
  obtain ⟨⟨_, _, _, _, q2⟩, k1⟩ := TK.step hP a2 (H.sub h2) q t3 G
  have z3 := q.size
  refine ⟨he, ⟨S1, A1, S3, A3, H.kept h1 G.keeps (fun x hx e => d x e hx), t3, a1, fun x hx => ?_, fun x hx => ?_, q2⟩, k1⟩
  · rcases G.all x hx with r | r
    · exact a2 x r
    · exact ⟨by omega, fun m => by have := hP x m; omega⟩
  · rcases G.own x hx with r | r
    · exact d x r
    · intro hx1
      have := H.lt h1 x hx1
      omega
end
end
end Go.Proofs.Ytadocleollndfaa
namespace Go.Proofs.Ytadocleollndfaa
open Go.RowKit Go.WideShapes
set_option maxRecDepth 100000

def lit3 : List Tb.R := [([98], [49]), ([97], [50]), ([98], [51])]
theorem lit3_of : Tb.ofL lit3 = [([97], [50]), ([98], [51])] := by decide
theorem lit3_rows (w : World) : RowsIn (w.alloc (.cells #[.string ⟨#[98]⟩, .string ⟨#[49]⟩, .string ⟨#[97]⟩, .string ⟨#[50]⟩, .string ⟨#[98]⟩, .string ⟨#[51]⟩] 36)) (.slice (some ⟨w.heap.size, 0, none⟩) 3 3) w.heap.size 0 lit3 := by
  refine ⟨⟨_, 3, rfl, fun _ => rfl⟩, by decide, fun k o hk j u hj => ?_⟩
  rw [cell_of_row _ _ _ _ _ _ (heap_alloc_new w _)]
  obtain ⟨hk1, rfl⟩ := List.getElem?_eq_some_iff.1 hk
  have hk1 : k < 3 := hk1
  obtain ⟨hj1, _⟩ := List.getElem?_eq_some_iff.1 hj
  have hj1 : j < 2 := hj1
  rw [← hj]
  match k, hk1, j, hj1 with
  | 0, _, 0, _ => rfl
  | 0, _, 1, _ => rfl
  | 1, _, 0, _ => rfl
  | 1, _, 1, _ => rfl
  | 2, _, 0, _ => rfl
  | 2, _, 1, _ => rfl
/-- The cells of rows of the caller's own. -/
theorem ownR_cell {w : World} {a : Option Addr} {n c : Nat} {l : List Tb.R} (h : w.ownsRow 0 36 2 (.slice a n c) l.length (rowsC l)) {k : Nat} {r : Tb.R} (hk : l[k]? = some r) : ∃ g, a = some ⟨g, 0, none⟩ ∧ w.cell? ⟨g, k * 2, none⟩ = some (strV r.1) ∧ w.cell? ⟨g, k * 2 + 1, none⟩ = some (strV r.2) := by
  rcases h.2 with ⟨_, h0⟩ | ⟨g, cap, cur, e, _⟩
  · have := (List.getElem?_eq_some_iff.1 hk).1
    omega
  · injection e with e1 e2 e3
    subst e1
    refine ⟨g, rfl, ?_, ?_⟩
    · have hc := (World.ownsRowF_of h).cells (g := g) rfl _ _ (rowsC_get hk (j := 0) rfl)
      rwa [add_plain, Nat.zero_add] at hc
    · have hc := (World.ownsRowF_of h).cells (g := g) rfl _ _ (rowsC_get hk (j := 1) rfl)
      rwa [add_plain, Nat.zero_add] at hc
theorem ownR_shape {w : World} {v : Value} {l : List Tb.R} (h : w.ownsRow 0 36 2 v l.length (rowsC l)) : ∃ a c, v = .slice a l.length c := by
  rcases h.2 with ⟨e, h0⟩ | ⟨g, cap, cur, e, _⟩
  · exact ⟨none, 0, by rw [e, h0]⟩
  · exact ⟨_, _, e⟩

set_option maxHeartbeats 1600000 in
theorem lives11_any (H : TabH) (w : World) : Calls Try.prog 5 #[] w fun e w' => e = .returned (.bool true) ∧ Qt w w' := by
  obtain ⟨w1, hw1⟩ : ∃ W, w.alloc (.cells #[.string ⟨#[98]⟩, .string ⟨#[49]⟩, .string ⟨#[97]⟩, .string ⟨#[50]⟩, .string ⟨#[98]⟩, .string ⟨#[51]⟩] 36) = W := ⟨_, rfl⟩
  have q1 : Qt w w1 := hw1 ▸ (Qt.refl w).alloc _
  have OF := tk_of H q1 (hw1 ▸ lit3_rows w) (by decide) (by decide) (by decide)
  rw [lit3_of] at OF
  have Q1 := Lib.hid q1
  clear q1
  go_enter Try.func5, Try.ntmps5
  go_wp2_with fail
  refine OF.mono ?_
  rintro e w2 ⟨b, rfl, t2, q2⟩
  have RW := tk_rows (fun k h => Nat.lt_of_lt_of_le h q2.size) t2
  clear OF hw1
  go_wp2_with fail
  refine RW.mono ?_
  rintro e w3 ⟨v, rfl, ho, hn, t3, k3⟩
  obtain ⟨a, c, rfl⟩ := ownR_shape ho
  obtain ⟨g, rfl, x1, x2⟩ := ownR_cell ho (k := 0) rfl
  obtain ⟨g', e, y1, y2⟩ := ownR_cell ho (k := 1) rfl
  injection e with e
  injection e with e
  subst e
  have x1 : w3.cell? ⟨g, 0, none⟩ = some (.string ⟨#[97]⟩) := x1
  have y2 : w3.cell? ⟨g, 3, none⟩ = some (.string ⟨#[51]⟩) := y2
  have LN := tk_len t3
  have T3 := Lib.hid t3
  clear t2 q2 RW ho hn k3 t3 x2 y1
  go_wp2_with fail
  refine LN.mono ?_
  rintro e w4 ⟨rfl, q4⟩
  have T4 := Lib.hid (T3.out.qt q4)
  have BY := tk_bytes T4.out
  rw [show ((Tb.bytes [([97], [50]), ([98], [51])] : Nat) : Int) = 4 from rfl] at BY
  have x1 := q4.cellv x1
  have y2 := q4.cellv y2
  clear q4 LN
  go_wp2_with fail
  refine BY.mono ?_
  rintro e w5 ⟨rfl, q5⟩
  have T5 := Lib.hid (T4.out.qt q5)
  have x1 := q5.cellv x1
  have y2 := q5.cellv y2
  clear q5 BY
  have FIN := Lib.hid T5.out.qt0
  go_wp2
  go_ret
  exact ⟨rfl, FIN.out⟩
end Go.Proofs.Ytadocleollndfaa
namespace Go.Proofs.Ytadocleollndfaa
open Go.RowKit Go.WideShapes
set_option maxRecDepth 100000

/-- What the loop keeps: the rows from j on are taken out. -/
def LsAt (H : TabH) (P : Nat → Prop) (w0 w : World) (b c : Nat) (rows : List Tb.R) (iv : Value) (wr : World) : Prop :=
  ∃ j : Nat, j ≤ rows.length ∧ iv = .int .i64 ((j : Int) - 1) ∧ TK2 H P w0 wr b c (Tb.ofL rows) (Tb.left rows j) ∧ Keeps (OutT w0 P) w wr
theorem ls_meas {j : Nat} : (intOf (.int .i64 ((j : Int) - 1)) + 1).toNat < (intOf (.int .i64 (j : Int)) + 1).toNat := by simp [intOf]
theorem sjT_in {k n : Nat} (h : k < n) : (0 : Int) ≤ (k : Int) ∧ (k : Int) < (n : Int) := by omega
theorem outT_size {w0 w w' : World} {P : Nat → Prop} (hP : ∀ k, P k → k < w.heap.size) (K : Keeps (OutT w0 P) w w') : ∀ k, P k → k < w'.heap.size := fun k hk => Nat.lt_of_lt_of_le (hP k hk) K.size
theorem outT_trans {w0 w1 w2 w3 : World} {P : Nat → Prop} (K : Keeps (OutT w0 P) w1 w2) (L : Keeps (OutT w0 P) w2 w3) : Keeps (OutT w0 P) w1 w3 := Keeps.trans K L (fun _ _ e => e)
theorem outT_qt {w0 w1 w2 w3 : World} {P : Nat → Prop} (K : Keeps (OutT w0 P) w1 w2) (L : Qt w2 w3) : Keeps (OutT w0 P) w1 w3 := Keeps.trans K L (fun _ _ e => e.elim)

set_option maxHeartbeats 3200000 in
theorem lasts_any (H : TabH) {P : Nat → Prop} {w0 w : World} {b g o : Nat} {v : Value} {rows : List Tb.R} (hP : ∀ k, P k → k < w.heap.size) (h : TK H P w0 w b (Tb.ofL rows)) (hr : RowsIn w0 v g o rows) :
    Calls Try.prog 16 #[ptrV b, v] w fun e w' => e = .returned (.bool true) ∧ TK H P w0 w' b (Tb.ofL rows) ∧ Keeps (OutT w0 P) w w' := by
  have CL := tk_clone hP h
  have HR := Lib.hid hr
  have HLE := Lib.hid hr.le
  obtain ⟨a, cap, rfl, ha⟩ := hr.val
  have HP := Lib.hid hP
  clear hr ha hP h
  have hlen : wrap64 ((rows.length : Int) - 1) = (rows.length : Int) - 1 := by have := HLE.out; unfold wrap64; omega
  go_enter Try.func16, Try.ntmps16
  go_wp2_with fail
  refine CL.mono ?_
  rintro e w1 ⟨c, rfl, t1, k1⟩
  have START := Lib.hid (show LsAt H P w0 w b c rows (.int .i64 ((rows.length : Int) - 1)) w1 from ⟨rows.length, Nat.le_refl _, rfl, by rw [Tb.left_start]; exact t1, k1⟩)
  clear CL t1 k1
  go_wp2
  rw [hlen]
  clear hlen
  go_loopw [6] (fun iv wr => LsAt H P w0 w b c rows iv wr) (fun iv _ => (intOf iv + 1).toNat)
  case atStart => exact START.out
  case round =>
    obtain ⟨j, hj, rfl, ht, hk⟩ := hrel
    cases j with
    | succ j =>
      obtain ⟨r, c0, hrj, e0⟩ := HR.out.elem (k := j) hj
      injection e0 with e0 q1 q2
      clear q1 q2
      subst e0
      rw [show (((j + 1 : Nat) : Int) - 1) = (j : Int) by omega]
      obtain ⟨k0, k1⟩ := sjT_in hj
      have zge : decide (0 ≤ (j : Int)) = true := decide_eq_true k0
      have hw1 : wrap64 ((j : Int) - 1) = (j : Int) - 1 := by have := HLE.out; unfold wrap64; omega
      obtain ⟨x1, x2⟩ := HR.out.cell hrj
      have x1 := ht.fst.qt0.cellv x1
      have x2 := ht.fst.qt0.cellv x2
      obtain ⟨K, hK, hKl⟩ : ∃ K : ByteArray, strV r.1 = .string K ∧ K.data.toList = r.1 := ⟨⟨r.1.toArray⟩, rfl, rfl⟩
      obtain ⟨V, hV, hVl⟩ : ∃ V : ByteArray, strV r.2 = .string V ∧ V.data.toList = r.2 := ⟨⟨r.2.toArray⟩, rfl, rfl⟩
      rw [hK] at x1
      rw [hV] at x2
      obtain ⟨lr1, wv, lr2⟩ := Tb.left_read hrj
      have G1 := tk_get ht.snd K
      rw [hKl] at G1
      have HT := Lib.hid ht
      have HK := Lib.hid hk
      have HJ := Lib.hid hj
      have STEP := Lib.hid (fun (W : World) (h : TK2 H P w0 W b c (Tb.ofL rows) (Tb.left rows (j + 1))) (hp : ∀ k, P k → k < W.heap.size) => (show Calls Try.prog 25 #[ptrV c, .string K] W fun e w' => (∃ B, e = .returned (.bool B)) ∧ TK2 H P w0 w' b c (Tb.ofL rows) (Tb.left rows j) ∧ Keeps (OutT w0 P) W w' from
        (tk2_del hp h K).mono fun e w' ⟨h1, h2, h3⟩ => ⟨⟨_, h1⟩, by rw [hKl, Tb.left_step hrj] at h2; exact h2, h3⟩))
      have GT := Lib.hid (fun (W : World) (h : TK H P w0 W b (Tb.ofL rows)) => (show Calls Try.prog 14 #[ptrV b, .string K] W fun e w' => e = .returned (.tuple #[strV wv, .bool true]) ∧ Qt W w' from by
        have h2 := tk_get h K
        rw [hKl, lr2] at h2
        exact h2))
      have HPW := Lib.hid (outT_size HP.out hk)
      cases hg : Tb.get (Tb.left rows (j + 1)) r.1 with
      | some u =>
        obtain ⟨e1, e2⟩ := lr1 u hg
        rw [e2] at lr2
        injection lr2 with lr2
        subst lr2
        rw [hg] at G1
        simp only [Option.getD_some, Option.isSome_some] at G1
        rw [e1, hV] at G1
        rw [e1, hV] at GT
        have n1 : (V.toList != V.toList) = false := bne_self_eq_false _
        have n2 : (V.toList == V.toList) = true := beq_self_eq_true _
        clear lr1 e1 e2 hg hK hKl hV hVl hrj ht hk hj
        go_wp2_with fail
        refine G1.mono ?_
        rintro e w2 ⟨rfl, q2⟩
        have T2 := Lib.hid (HT.out.qt q2)
        have K2 := Lib.hid (outT_qt HK.out q2)
        have P2 := Lib.hid (outT_size HP.out K2.out)
        have x1 := q2.cellv x1
        have x2 := q2.cellv x2
        have GT2 := GT.out _ T2.out.fst
        clear q2 G1
        go_wp2_with fail
        refine GT2.mono ?_
        rintro e w3 ⟨rfl, q3⟩
        have T3 := Lib.hid (T2.out.qt q3)
        have K3 := Lib.hid (outT_qt K2.out q3)
        have x1 := q3.cellv x1
        have x2 := q3.cellv x2
        have DL := STEP.out _ T3.out (outT_size HP.out K3.out)
        clear q3 GT2
        go_wp2_with fail
        refine DL.mono ?_
        rintro e w4 ⟨⟨B, rfl⟩, t4, k4⟩
        have FN := Lib.hid (show LsAt H P w0 w b c rows (.int .i64 ((j : Int) - 1)) w4 from ⟨j, Nat.le_of_succ_le HJ.out, rfl, t4, outT_trans K3.out k4⟩)
        clear t4 k4 DL x1 x2
        go_wp2
        rw [hw1]
        exact ⟨FN.out, ls_meas⟩
      | none =>
        rw [hg] at G1
        simp only [Option.getD_none, Option.isSome_none] at G1
        have G1 : Calls Try.prog 14 #[ptrV c, .string K] wr fun e w' => e = .returned (.tuple #[.string ⟨#[]⟩, .bool false]) ∧ Qt wr w' := G1
        obtain ⟨U, hU⟩ : ∃ U : ByteArray, strV wv = .string U := ⟨_, rfl⟩
        rw [hU] at GT
        clear lr1 lr2 hg hK hKl hV hVl hrj ht hk hj hU
        go_wp2_with fail
        refine G1.mono ?_
        rintro e w2 ⟨rfl, q2⟩
        have T2 := Lib.hid (HT.out.qt q2)
        have K2 := Lib.hid (outT_qt HK.out q2)
        have x1 := q2.cellv x1
        have x2 := q2.cellv x2
        have GT2 := GT.out _ T2.out.fst
        clear q2 G1
        go_wp2_with fail
        refine GT2.mono ?_
        rintro e w3 ⟨rfl, q3⟩
        have T3 := Lib.hid (T2.out.qt q3)
        have K3 := Lib.hid (outT_qt K2.out q3)
        have x1 := q3.cellv x1
        have x2 := q3.cellv x2
        have DL := STEP.out _ T3.out (outT_size HP.out K3.out)
        clear q3 GT2
        go_wp2_with fail
        refine DL.mono ?_
        rintro e w4 ⟨⟨B, rfl⟩, t4, k4⟩
        have FN := Lib.hid (show LsAt H P w0 w b c rows (.int .i64 ((j : Int) - 1)) w4 from ⟨j, Nat.le_of_succ_le HJ.out, rfl, t4, outT_trans K3.out k4⟩)
        clear t4 k4 DL x1 x2
        go_wp2
        rw [hw1]
        exact ⟨FN.out, ls_meas⟩
    | zero =>
      rw [Tb.left_end] at ht
      have zge : decide (0 ≤ (((0 : Nat) : Int) - 1)) = false := by decide
      have HT := Lib.hid ht
      have HK := Lib.hid hk
      have LC := tk_len ht.snd
      rw [show (([] : List Tb.R).length : Int) = 0 from rfl] at LC
      have ZE : decide (0 < ((Tb.ofL rows).length : Int)) = decide (0 < (rows.length : Int)) := by
        by_cases h : rows = []
        · rw [h]; rfl
        · have h1 : 0 < rows.length := List.length_pos_iff.2 h
          have h2 : 0 < (Tb.ofL rows).length := List.length_pos_iff.2 (fun e => h (Tb.ofL_empty.1 e))
          rw [decide_eq_true (by omega), decide_eq_true (by omega)]
      have LTT := Lib.hid (fun (W : World) (h : TK H P w0 W b (Tb.ofL rows)) => tk_len h)
      generalize ((Tb.ofL rows).length : Int) = n at ZE LTT
      clear ht hk
      go_wp2_with fail
      refine LC.mono ?_
      rintro e w2 ⟨rfl, q2⟩
      have T2 := Lib.hid (HT.out.qt q2)
      have K2 := Lib.hid (outT_qt HK.out q2)
      have BC := tk_bytes T2.out.snd
      rw [show ((Tb.bytes [] : Nat) : Int) = 0 from rfl] at BC
      clear q2 LC
      go_wp2_with fail
      refine BC.mono ?_
      rintro e w3 ⟨rfl, q3⟩
      have T3 := Lib.hid (T2.out.qt q3)
      have K3 := Lib.hid (outT_qt K2.out q3)
      have LT := LTT.out _ T3.out.fst
      clear q3 BC
      go_wp2_with fail
      refine LT.mono ?_
      rintro e w4 ⟨rfl, q4⟩
      have T4 := Lib.hid (T3.out.qt q4)
      have K4 := Lib.hid (outT_qt K3.out q4)
      clear q4 LT
      go_wp2
      go_ret
      exact ⟨rfl, T4.out.fst, K4.out⟩
end Go.Proofs.Ytadocleollndfaa
