/-
  The landed table: Rows, over whatever From hands out.
  The landed table's iterators: a span of keys; what an iterator over a tree may lean on.
-/
import Derived.Test.YtffjleceogablaaDoorP40
import Derived.Test.YtffjleceogablaaDoorP36
import Derived.Laws.MakeOwn
import Derived.Test.YtffjleceogablaaDoorP33
import Derived.Deep.RegionHeld3
import Derived.OrdersIn
import Derived.Laws.Cover1
namespace Go.Proofs.YtffjleceogablaaDoor
open Go.RowKit Go.Shelf Go.WideShapes
attribute [local go_sem] Oper.semAt_some
set_option maxRecDepth 100000

/-- What Range, From, Back hand out over a table that stays as it was. -/
def IterP11 (W : World) (b : Nat) (A : Nat → Prop) (l : List Tb.R) (e : Ending) (w' : World) : Prop := ∃ fv X, e = .returned fv ∧ IterV X w' fv l ∧ (∀ k, X k → (A k ∨ W.heap.size ≤ k) ∧ k ≠ b) ∧ Qt W w'
set_option maxHeartbeats 4000000 in
theorem rows11_any {W : World} {b : Nat} {l : List Tb.R} {A : Nat → Prop} (h : Tbl W b l A) (FM : ∀ w, Qt W w → Calls Tryd.prog 50 #[ptrV b, .string ⟨#[]⟩] w (IterP11 w b A l)) :
    Calls Tryd.prog 26 #[ptrV b] W fun e w' => ∃ v, e = .returned v ∧ NewR W w' v l := by
  refine (callsIn_wide (n := 5)).1 ?_
  obtain ⟨i0, hi, hz0, hz1, hz2'⟩ := info_parts infoRow
  have LN := len11_any h
  have hl := h.len
  have hmk : ∀ w : World, (Instr.makeSlice 45 (.int .i64 0) (.int .i64 (l.length : Int))).run Tryd.prog w = .ok (.slice (some ⟨w.heap.size, 0, none⟩) 0 l.length) (w.alloc (.cells (madeCells (Value.agg #[.string ⟨#[]⟩, .string ⟨#[]⟩]).cells (l.length * 2)) 64)) := fun w => by
    have h := run_make (P := Tryd.prog) w 45 64 i0 _ Tryd.underlying45 hi hz0 .i64 .i64 0 (l.length : Int) (by omega) (by omega) (by rw [hz2']; omega) (by omega)
    rw [hz1] at h
    simpa using h
  have HH := Lib.hid h
  clear h
  refine callsIn_of_wp_marks Tryd.func26 rfl trivial ?_ rfl
  simp only [Tryd.ntmps26, List.size_toArray, List.length_cons, List.length_nil, Nat.reduceAdd, Nat.reduceSub, Array.replicate_succ, Array.replicate_zero, List.push_toArray, List.append_toArray, List.nil_append, List.cons_append]
  refine wpIn_wide.2 ?_
  go_wp2_with fail
  refine LN.mono ?_
  rintro e w1 ⟨rfl, rfl⟩
  go_wp2_with fail
  obtain ⟨W0, hW0⟩ : ∃ W, (w1.alloc (.cells (madeCells #[Value.string ⟨#[]⟩, Value.string ⟨#[]⟩] (l.length * 2)) 64)).alloc (.cells #[.slice (some ⟨w1.heap.size, 0, none⟩) 0 l.length] 45) = W := ⟨_, rfl⟩
  have Q0 : Qt w1 W0 := hW0 ▸ ((Qt.refl w1).alloc _).alloc _
  have hs0 : W0.heap.size = w1.heap.size + 2 := by rw [← hW0]; simp
  have b4 : Boxed W0 (w1.heap.size + 1) 45 (.slice (some ⟨w1.heap.size, 0, none⟩) 0 l.length) := by
    have h := Boxed.new (w1.alloc (.cells (madeCells #[Value.string ⟨#[]⟩, Value.string ⟨#[]⟩] (l.length * 2)) 64)) 45 (.slice (some ⟨w1.heap.size, 0, none⟩) 0 l.length)
    rw [World.size_alloc] at h
    exact hW0 ▸ h
  have r4 : W0.ownsRow w1.heap.size 64 2 (.slice (some ⟨w1.heap.size, 0, none⟩) 0 l.length) 0 [] :=
    hW0 ▸ (World.ownsRow_made (e := 64) (size := 2) (base := w1.heap.size) w1 (madeCells #[Value.string ⟨#[]⟩, Value.string ⟨#[]⟩] (l.length * 2)) l.length (Nat.le_refl _) (by unfold maxLen; omega) (by rw [size_madeCells])).alloc _
  rw [hW0]
  clear hW0 LN hmk
  refine (FM W0 Q0).mono ?_
  rintro e w2 ⟨fv, X, rfl, ⟨hX, gf, lb, rfl, hen, hseq⟩, hXA, q2⟩
  have hz2 := q2.size
  have b4 := boxR_qt b4 q2
  have r4 := ownsRow_kept r4 q2 (fun _ _ e => e)
  have Q2 := Qt.trans Q0 q2
  have hlt := HH.out.lt
  have HOW : ∀ k, BoxOw (w1.heap.size + 1) w2 k → k < w2.heap.size ∧ ¬ X k := by
    have hne : ∀ k, w1.heap.size ≤ k → k < w1.heap.size + 2 → ¬ X k := fun k h1 h2 hx => by
      rcases (hXA k hx).1 with h | h
      · have := hlt k h; omega
      · omega
    rintro k (e | ⟨u, hu, e⟩)
    · exact ⟨by omega, hne k (by omega) (by omega)⟩
    · rw [b4.cell] at hu
      injection hu with hu
      subst hu
      injection e with e
      simp only at e
      exact ⟨by omega, hne k (by omega) (by omega)⟩
  have HX := Lib.hid hX
  clear FM HH hXA hlt Q0 q2
  have hne : ∀ W, (binOp .eql 91 (.func (.func gf) #[] lb) .nilFunc).run Tryd.prog W = .ok (.bool false) W := func_nilR gf lb
  go_wp2_with fail
  refine (wpIn_wide (n := 5)).1 ?_
  refine' wpIn_rangeFunc_ownG rfl (by omega) (gf := gf) (lb := lb) rfl trivial hen (hseq 4 (by omega) w2 (Keeps.refl _ _) w2.heap.size _ (boxOw (B := w1.heap.size + 1) (by omega)) (Nat.le_refl _) HOW) KpO.trans (KpO.put (boxOw (by omega))) (Below.refl _ _) (fun _ => rfl)
    (fun pre W => (∃ v, Boxed W (w1.heap.size + 1) 45 v ∧ W.ownsRow w1.heap.size 64 2 v pre.length (rowsC pre) ∧ True) ∧ Below w1.heap.size w2 W)
    (fun _ _ _ => False)
    (OwnFrom.and (Own.from (holdsRow_own w1.heap.size (w1.heap.size + 1) 45 64 2 (fun pre => pre.length) (fun pre => rowsC pre) (fun _ _ => True)) _) (ownFrom_below (by omega) (by omega)))
    (fun _ _ _ _ _ hs _ _ => hs)
    ⟨⟨_, b4, r4, trivial⟩, Below.refl _ _⟩ _ ?assign ?body ?done ?stop
  case assign =>
    intro l x W K hK
    unfold encR
    gi_wp2
    exact hK
  case body =>
    rintro L pre x W ⟨⟨v, hv, hrow, _⟩, hB⟩ hlt
    have hc := hv.cell
    have hf := hv.frozen
    obtain ⟨va, vc, rfl⟩ : ∃ a c, v = .slice a pre.length c := by
      rcases hrow.2 with ⟨e, h0⟩ | ⟨g, cap, cur, e, _⟩
      · exact ⟨none, 0, by rw [e, h0]⟩
      · exact ⟨_, _, e⟩
    have hb1 : pre.length + 1 ≤ maxLen := by unfold maxLen; omega
    have hb2 : (pre.length + 1) * 32 ≤ 140737488355328 := by omega
    have hBz := hB.size
    have hb3 : ∀ o : Obj, w1.heap.size ≤ (W.alloc o).heap.size := by intro o; simp; omega
    obtain ⟨s1, hs1⟩ : ∃ s : ByteArray, strV x.1 = .string s := ⟨_, rfl⟩
    obtain ⟨s2, hs2⟩ : ∃ s : ByteArray, strV x.2 = .string s := ⟨_, rfl⟩
    have HXX := Lib.hid (show rowsC (pre ++ [x]) = rowsC pre ++ [.string s1, .string s2] by rw [rowsC_append, rowsC_one, hs1, hs2])
    have HB := Lib.hid hB
    rw [hs1, hs2]
    clear hseq hen r4 b4 Q2 hs1 hs2 hlt hX HOW
    have HV := Lib.hid hv
    gi_wp2_with (gi_at_builtin; refine wpListIn_append_own_at _ rfl _ _ 45 rfl w1.heap.size 64 i0 (.agg #[.string ⟨#[]⟩, .string ⟨#[]⟩]) 2 32 Tryd.underlying45 hi hz0 hz1 hz2' rfl (by decide) _ _ _ rfl (hrow.alloc _) ⟨W.heap.size, 0, none⟩ 1 1 [.string s1, .string s2] rfl rfl (news2 _ _ _ _) (by intro y hy; simp at hy; rcases hy with rfl | rfl <;> rfl) hb1 hb2 (hb3 _) ?_; intro v' w3 hown' hgrow _ hnew; obtain ⟨g', cap', rfl⟩ := ownsRow_succ hown'; obtain ⟨hv1, hv2, hr2, hk2, hb2'⟩ := hv.appended (by decide) hrow (by omega) (by omega) hown' hgrow; have hc1 := hv1.cell; have hf1 := hv1.frozen)
    refine ⟨hk2.from _, boxOw_step HV.out hv2 (Keeps.setCell (Keeps.grown ((Keeps.refl _ W).alloc _) hgrow (fun k _ e => .inr e.symm)) (fun _ => .inl rfl) _) (fun x hx => ?_), ⟨_, hv2, ?_, trivial⟩, HB.out.trans hb2'⟩
    · have hx2 := hown'.lt x hx
      rcases hnew with e | e
      · exact .inl (e ▸ hx)
      · rw [e] at hx
        injection hx with hx
        subst hx
        exact .inr ⟨by simp, by rw [World.size_setCell]; exact hx2.2⟩
    rw [HXX.out, List.length_append, List.length_singleton]
    exact hr2
  case done =>
    rintro D ys W hD rfl ⟨⟨v, hv, hrow, _⟩, hB⟩ hK
    obtain ⟨va, vc, rfl⟩ : ∃ a c, v = .slice a ys.length c := by
      rcases hrow.2 with ⟨e, h0⟩ | ⟨g, cap, cur, e, _⟩
      · exact ⟨none, 0, by rw [e, h0]⟩
      · exact ⟨_, _, e⟩
    have hc := hv.cell
    have row2 : W.ownsRow 0 64 2 (.slice va ys.length vc) ys.length (rowsC ys) := by
      rcases hrow with ⟨h1, h2⟩
      rcases h2 with h2 | ⟨g, cap, cs, e, hle, hh, rest⟩
      · exact ⟨h1, .inl h2⟩
      · exact ⟨h1, .inr ⟨g, cap, cs, e, Nat.zero_le _, hh, rest⟩⟩
    have row3 := ownsRow_putObj row2 (.deferred none) hK rfl
    have new3 : ∀ g, (Value.slice va ys.length vc).ownBlock = some g → w1.heap.size ≤ g := by
      intro g hg
      rcases hrow.2 with ⟨e, _⟩ | ⟨g', cap, cs, e, hle, _⟩
      · rw [e] at hg
        cases hg
      · rw [e] at hg
        injection hg with hg
        have hg : g' = g := hg
        omega
    have QW : Qt w1 W := ⟨hB.os.trans Q2.os, hB.tape.trans Q2.tape, hB.output.trans Q2.output, Nat.le_trans Q2.size hB.size, fun k hk e => (hB.block k hk).trans (Q2.block k hk e)⟩
    have Q3 : Qt w1 (W.putObj D (.deferred none)) := Keeps.grown QW (grownBy_putObj' _ _ _) (fun k hk e => by injection e with e; omega)
    have FIN := Lib.hid (show NewR w1 (W.putObj D (.deferred none)) (.slice va ys.length vc) ys from ⟨row3, new3, Q3⟩)
    clear hseq hen hne row3 new3 QW Q3 row2
    go_wp2
    refine ⟨by simp, .inl ⟨_, _, rfl, run_takeDeferred hK, ?_⟩⟩
    exact ⟨_, (results_tmp (t := 2) rfl _ _ _ : _ = Result.ok (.slice va ys.length vc) _), _, rfl, FIN.out⟩
  case stop =>
    rintro D c pre W _ _ h _
    exact h.elim
end Go.Proofs.YtffjleceogablaaDoor
namespace Go.Proofs.YtffjleceogablaaDoor
open Go.RowKit Go.WideShapes
set_option maxRecDepth 100000

abbrev spanV (lo hi : ByteArray) (ends : Bool) : Value := .agg #[.string lo, .string hi, .bool ends]
theorem leq_texts (a b : ByteArray) : (Op.bytesLess a.toList b.toList || a.toList == b.toList) = !Tb.lt b.data.toList a.data.toList := by
  rw [ByteArray.toList_eq, ByteArray.toList_eq]
  show (Tb.lt a.data.toList b.data.toList || a.data.toList == b.data.toList) = _
  generalize a.data.toList = x
  generalize b.data.toList = y
  cases h : Tb.lt x y with
  | true => rw [Tb.lt_asymm h]; rfl
  | false =>
    cases h2 : Tb.lt y x with
    | true => simpa using fun e => Tb.lt_ne h2 e.symm
    | false => simpa using Tb.lt_total h h2
set_option maxHeartbeats 800000 in
theorem begunAt_any (lo hi : ByteArray) (ends : Bool) (k : ByteArray) (W : World) : Calls Tryd.prog 101 #[spanV lo hi ends, .string k] W fun e w' => e = .returned (.bool (!Tb.lt k.data.toList lo.data.toList)) ∧ Qt W w' := by
  have FIN := Lib.hid (show Qt W (W.alloc (.cells #[.string lo, .string hi, .bool ends] 120)) from (Qt.refl W).alloc _)
  go_enter Tryd.func101, Tryd.ntmps101
  go_wp2
  go_ret
  exact ⟨by rw [← leq_texts]; rfl, FIN.out⟩
set_option maxHeartbeats 800000 in
theorem overAt_any (lo hi : ByteArray) (ends : Bool) (k : ByteArray) (W : World) : Calls Tryd.prog 102 #[spanV lo hi ends, .string k] W fun e w' => e = .returned (.bool (ends && !Tb.lt k.data.toList hi.data.toList)) ∧ Qt W w' := by
  have FIN := Lib.hid (show Qt W (W.alloc (.cells #[.string lo, .string hi, .bool ends] 120)) from (Qt.refl W).alloc _)
  cases ends with
  | false =>
    go_enter Tryd.func102, Tryd.ntmps102
    go_wp2
    go_ret
    exact ⟨rfl, FIN.out⟩
  | true =>
    go_enter Tryd.func102, Tryd.ntmps102
    go_wp2
    go_ret
    exact ⟨by rw [Bool.true_and, ← leq_texts]; rfl, FIN.out⟩

/-! ### What an iterator leans on -/
theorem kpo_cell {Ow : World → Nat → Prop} {A B : World} (h : KpO Ow A B) {b i : Nat} {v : Value} (hc : A.cell? ⟨b, i, none⟩ = some v) (hn : ¬ Ow A b) : B.cell? ⟨b, i, none⟩ = some v := by
  have hb : ∃ o : Obj, A.heap[b]? = some o ∧ o.isCells = true := by
    unfold World.cell? at hc
    cases ho : A.heap[b]? with
    | none => simp [ho] at hc
    | some o => exact ⟨o, rfl, by cases o <;> simp_all [Obj.isCells]⟩
  obtain ⟨o, ho, hcs⟩ := hb
  rw [World.cell?_of_block (w := A) (w' := B) (a := ⟨b, i, none⟩) ((h.block b o ho hcs hn).trans ho.symm)]
  exact hc
theorem IsT.kpo {X : Nat → Prop} {Ow : World → Nat → Prop} {W W' : World} (h : KpO Ow W W') (hX : ∀ k, X k → ¬ Ow W k) : ∀ {p : Option Addr} {T : Tb.Tr}, IsT X W p T → IsT X W' p T
  | _, .leaf, ht => ht
  | _, .node _ _ _, ⟨b, pl, pr, hp, hb, c0, c1, c2, c3, c4, hl, hr⟩ => ⟨b, pl, pr, hp, hb, kpo_cell h c0 (hX b hb), kpo_cell h c1 (hX b hb), kpo_cell h c2 (hX b hb), kpo_cell h c3 (hX b hb), kpo_cell h c4 (hX b hb), IsT.kpo h hX hl, IsT.kpo h hX hr⟩
/-- The tree's blocks are there, and no body's own. -/
structure Lv (n0 : Nat) (Ow : World → Nat → Prop) (X : Nat → Prop) (W : World) : Prop where
  base : n0 ≤ W.heap.size
  own : ∀ k, Ow W k → k < W.heap.size
  there : ∀ k, X k → k < W.heap.size
  apart : ∀ k, X k → ¬ Ow W k
section
variable {n0 : Nat} {Ow : World → Nat → Prop} {X : Nat → Prop} {W W' : World}
theorem Lv.kp (h : Lv n0 Ow X W) (k : KpO Ow W W') : Lv n0 Ow X W' := by
  have hz := k.size
  refine ⟨Nat.le_trans h.base hz, fun j hj => ?_, fun j hj => Nat.lt_of_lt_of_le (h.there j hj) hz, fun j hj e => ?_⟩
  · rcases k.own j hj with e | e
    · exact Nat.lt_of_lt_of_le (h.own j e) hz
    · exact e.2
  · rcases k.own j e with e | e
    · exact h.apart j hj e
    · have := h.there j hj; omega
theorem Lv.qt (g : OwnsO n0 Ow) (h : Lv n0 Ow X W) (q : Qt W W') : Lv n0 Ow X W' := h.kp (KpO.qt g h.base q)
/-- A block of one's own besides. -/
theorem Lv.more (g : OwnsO n0 Ow) (h : Lv n0 Ow X W) (q : Qt W W') {b : Nat} (hb : W.heap.size ≤ b) (hb2 : b < W'.heap.size) : Lv n0 Ow (fun k => X k ∨ k = b) W' := by
  have h2 := h.qt g q
  refine ⟨h2.base, h2.own, fun j hj => ?_, fun j hj e => ?_⟩
  · rcases hj with hj | hj
    · exact h2.there j hj
    · omega
  · rcases hj with hj | hj
    · exact h2.apart j hj e
    · subst hj
      rcases (KpO.qt g h.base q).own j e with e | e
      · have := h.own j e; omega
      · have hbl : Below n0 W W' := (Qt.below q).mono h.base
        have := h.own j (g.below hbl ‹_›)
        omega
end
theorem room_none (k : Nat) : Fence.wide.room k := room_wide k
theorem yieldDeep {m : Nat} (m' : Nat) {P : Program} {l : Nat} {args : Array Value} {W : World} {R : Ending → World → Prop} (h : YieldAt Fence.wide m P l args W R) : YieldAt Fence.wide m' P l args W R := by
  obtain ⟨fn, tmps, assign, body, hy, h1, h2⟩ := h
  exact ⟨fn, tmps, assign, body, hy, h1, fun c cs _ => h2 c cs (room_wide _)⟩
/-- What going over a tree's rows L comes to. -/
def RiseP (Ow : World → Nat → Prop) (J Jx : List Tb.R → World → Prop) (pre L : List Tb.R) (W : World) (e : Ending) (W' : World) : Prop :=
  ∃ ok : Bool, e = .returned (.bool ok) ∧ ((ok = true ∧ J (pre ++ L) W' ∧ KpO Ow W W') ∨ (ok = false ∧ ∃ q, q <+: L ∧ Jx (pre ++ q) W'))
/-! ### A region's orders that come to one end -/
theorem by_key {T G : Prop} (h : T → G) (key : T) : G := h key
theorem wpAnyIn_listed {F : Fence} {n : Nat} {P : Program} {md : Region.Mode} {ops : Array Oper} {Q : Exit → Act → World → Prop} {fuel : Nat} {a b : Array Bool} {act : Act} {w : World} (e : a = b) (h : wpAnyIn F n P md ops Q fuel b act w) : wpAnyIn F n P md ops Q fuel a act w := e ▸ h
section
variable {F : Fence} {n : Nat} {P : Program} {md : Region.Mode} {ops : Array Oper} {Q : Exit → Act → World → Prop} {fuel i : Nat} {listed : Array Bool} {a : Act} {w : World} {oi : Oper} {v : Value}
theorem wpAnyIn_takeD (d : Option Tmp) (hro : F.round = none) (hi : ops[i]? = some oi) (hd : oi.dst = d) (hs : Region.noSelect ops = true) (hf : Region.free md ops listed i = true) (hr : (Region.ready md ops listed).contains i = true)
    (hQ : ∀ c a w, Q (.panic c) (a.put oi.dst v) w → Q (.panic c) a w) (hy : YieldsFenced P ops oi v a)
    (h : wpAnyIn F n P md ops Q fuel (listed.setIfInBounds i true) (a.put d v) w) : wpAnyIn F n P md ops Q (fuel + 1) listed a w :=
  wpAnyIn_take hro hi hs hf hr hQ hy (hd ▸ h)
end
end Go.Proofs.YtffjleceogablaaDoor
