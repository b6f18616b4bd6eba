/-
  The landed table: Rows, over whatever From hands out.
  The landed table's iterators, as function values: rising, falling; From, Range, Back.
  The landed table keeps the contracts that the laws ask of a table.
-/
import Derived.Test.YtadocleollndfaaP06
import Derived.Test.YtadocleollndfaaP15
import Derived.Laws.MakeOwn
import Derived.Test.YtadocleollndfaaP17
import Derived.Test.YtadocleollndfaaP18
namespace Go.Proofs.Ytadocleollndfaa
open Go.RowKit Go.Shelf Go.WideShapes
attribute [local go_sem] Oper.semAt_some
set_option maxRecDepth 100000

/-- What Range, From, Back hand out over a table that stays as it was. -/
def IterP11 (W : World) (b : Nat) (A : Nat → Prop) (l : List Tb.R) (e : Ending) (w' : World) : Prop := ∃ fv X, e = .returned fv ∧ IterV X w' fv l ∧ (∀ k, X k → (A k ∨ W.heap.size ≤ k) ∧ k ≠ b) ∧ Qt W w'
set_option maxHeartbeats 4000000 in
theorem rows11_any {W : World} {b : Nat} {l : List Tb.R} {A : Nat → Prop} (h : Tbl W b l A) (FM : ∀ w, Qt W w → Calls Try.prog 8 #[ptrV b, .string ⟨#[]⟩] w (IterP11 w b A l)) :
    Calls Try.prog 12 #[ptrV b] W fun e w' => ∃ v, e = .returned v ∧ NewR W w' v l := by
  refine (callsIn_wide (n := 5)).1 ?_
  obtain ⟨i0, hi, hz0, hz1, hz2'⟩ := info_parts infoRow
  have LN := len11_any h
  have hl := h.len
  have hmk : ∀ w : World, (Instr.makeSlice 22 (.int .i64 0) (.int .i64 (l.length : Int))).run Try.prog w = .ok (.slice (some ⟨w.heap.size, 0, none⟩) 0 l.length) (w.alloc (.cells (madeCells (Value.agg #[.string ⟨#[]⟩, .string ⟨#[]⟩]).cells (l.length * 2)) 36)) := fun w => by
    have h := run_make (P := Try.prog) w 22 36 i0 _ Try.underlying22 hi hz0 .i64 .i64 0 (l.length : Int) (by omega) (by omega) (by rw [hz2']; omega) (by omega)
    rw [hz1] at h
    simpa using h
  have HH := Lib.hid h
  clear h
  refine callsIn_of_wp_marks Try.func12 rfl trivial ?_ rfl
  simp only [Try.ntmps12, List.size_toArray, List.length_cons, List.length_nil, Nat.reduceAdd, Nat.reduceSub, Array.replicate_succ, Array.replicate_zero, List.push_toArray, List.append_toArray, List.nil_append, List.cons_append]
  refine wpIn_wide.2 ?_
  go_wp2_with fail
  refine LN.mono ?_
  rintro e w1 ⟨rfl, rfl⟩
  go_wp2_with fail
  obtain ⟨W0, hW0⟩ : ∃ W, (w1.alloc (.cells (madeCells #[Value.string ⟨#[]⟩, Value.string ⟨#[]⟩] (l.length * 2)) 36)).alloc (.cells #[.slice (some ⟨w1.heap.size, 0, none⟩) 0 l.length] 22) = W := ⟨_, rfl⟩
  have Q0 : Qt w1 W0 := hW0 ▸ ((Qt.refl w1).alloc _).alloc _
  have hs0 : W0.heap.size = w1.heap.size + 2 := by rw [← hW0]; simp
  have b4 : Boxed W0 (w1.heap.size + 1) 22 (.slice (some ⟨w1.heap.size, 0, none⟩) 0 l.length) := by
    have h := Boxed.new (w1.alloc (.cells (madeCells #[Value.string ⟨#[]⟩, Value.string ⟨#[]⟩] (l.length * 2)) 36)) 22 (.slice (some ⟨w1.heap.size, 0, none⟩) 0 l.length)
    rw [World.size_alloc] at h
    exact hW0 ▸ h
  have r4 : W0.ownsRow w1.heap.size 36 2 (.slice (some ⟨w1.heap.size, 0, none⟩) 0 l.length) 0 [] :=
    hW0 ▸ (World.ownsRow_made (e := 36) (size := 2) (base := w1.heap.size) w1 (madeCells #[Value.string ⟨#[]⟩, Value.string ⟨#[]⟩] (l.length * 2)) l.length (Nat.le_refl _) (by unfold maxLen; omega) (by rw [size_madeCells])).alloc _
  rw [hW0]
  clear hW0 LN hmk
  refine (FM W0 Q0).mono ?_
  rintro e w2 ⟨fv, X, rfl, ⟨hX, gf, lb, rfl, hen, hseq⟩, hXA, q2⟩
  have hz2 := q2.size
  have b4 := boxR_qt b4 q2
  have r4 := ownsRow_kept r4 q2 (fun _ _ e => e)
  have Q2 := Qt.trans Q0 q2
  have hlt := HH.out.lt
  have HOW : ∀ k, BoxOw (w1.heap.size + 1) w2 k → k < w2.heap.size ∧ ¬ X k := by
    have hne : ∀ k, w1.heap.size ≤ k → k < w1.heap.size + 2 → ¬ X k := fun k h1 h2 hx => by
      rcases (hXA k hx).1 with h | h
      · have := hlt k h; omega
      · omega
    rintro k (e | ⟨u, hu, e⟩)
    · exact ⟨by omega, hne k (by omega) (by omega)⟩
    · rw [b4.cell] at hu
      injection hu with hu
      subst hu
      injection e with e
      simp only at e
      exact ⟨by omega, hne k (by omega) (by omega)⟩
  have HX := Lib.hid hX
  clear FM HH hXA hlt Q0 q2
  have hne : ∀ W, (binOp .eql 29 (.func (.func gf) #[] lb) .nilFunc).run Try.prog W = .ok (.bool false) W := func_nilR gf lb
  go_wp2_with fail
  refine (wpIn_wide (n := 5)).1 ?_
  refine' wpIn_rangeFunc_ownG rfl (by omega) (gf := gf) (lb := lb) rfl trivial hen (hseq 4 (by omega) w2 (Keeps.refl _ _) w2.heap.size _ (boxOw (B := w1.heap.size + 1) (by omega)) (Nat.le_refl _) HOW) KpO.trans (KpO.put (boxOw (by omega))) (Below.refl _ _) (fun _ => rfl)
    (fun pre W => (∃ v, Boxed W (w1.heap.size + 1) 22 v ∧ W.ownsRow w1.heap.size 36 2 v pre.length (rowsC pre) ∧ True) ∧ Below w1.heap.size w2 W)
    (fun _ _ _ => False)
    (OwnFrom.and (Own.from (holdsRow_own w1.heap.size (w1.heap.size + 1) 22 36 2 (fun pre => pre.length) (fun pre => rowsC pre) (fun _ _ => True)) _) (ownFrom_below (by omega) (by omega)))
    (fun _ _ _ _ _ hs _ _ => hs)
    ⟨⟨_, b4, r4, trivial⟩, Below.refl _ _⟩ _ ?assign ?body ?done ?stop
  case assign =>
    intro l x W K hK
    unfold encR
    gi_wp2
    exact hK
  case body =>
    rintro L pre x W ⟨⟨v, hv, hrow, _⟩, hB⟩ hlt
    have hc := hv.cell
    have hf := hv.frozen
    obtain ⟨va, vc, rfl⟩ : ∃ a c, v = .slice a pre.length c := by
      rcases hrow.2 with ⟨e, h0⟩ | ⟨g, cap, cur, e, _⟩
      · exact ⟨none, 0, by rw [e, h0]⟩
      · exact ⟨_, _, e⟩
    have hb1 : pre.length + 1 ≤ maxLen := by unfold maxLen; omega
    have hb2 : (pre.length + 1) * 32 ≤ 140737488355328 := by omega
    have hBz := hB.size
    have hb3 : ∀ o : Obj, w1.heap.size ≤ (W.alloc o).heap.size := by intro o; simp; omega
    obtain ⟨s1, hs1⟩ : ∃ s : ByteArray, strV x.1 = .string s := ⟨_, rfl⟩
    obtain ⟨s2, hs2⟩ : ∃ s : ByteArray, strV x.2 = .string s := ⟨_, rfl⟩
    have HXX := Lib.hid (show rowsC (pre ++ [x]) = rowsC pre ++ [.string s1, .string s2] by rw [rowsC_append, rowsC_one, hs1, hs2])
    have HB := Lib.hid hB
    rw [hs1, hs2]
    clear hseq hen r4 b4 Q2 hs1 hs2 hlt hX HOW
    have HV := Lib.hid hv
    gi_wp2_with (gi_at_builtin; refine wpListIn_append_own_at _ rfl _ _ 22 rfl w1.heap.size 36 i0 (.agg #[.string ⟨#[]⟩, .string ⟨#[]⟩]) 2 32 Try.underlying22 hi hz0 hz1 hz2' rfl (by decide) _ _ _ rfl (hrow.alloc _) ⟨W.heap.size, 0, none⟩ 1 1 [.string s1, .string s2] rfl rfl (news2 _ _ _ _) (by intro y hy; simp at hy; rcases hy with rfl | rfl <;> rfl) hb1 hb2 (hb3 _) ?_; intro v' w3 hown' hgrow _ hnew; obtain ⟨g', cap', rfl⟩ := ownsRow_succ hown'; obtain ⟨hv1, hv2, hr2, hk2, hb2'⟩ := hv.appended (by decide) hrow (by omega) (by omega) hown' hgrow; have hc1 := hv1.cell; have hf1 := hv1.frozen)
    refine ⟨hk2.from _, boxOw_step HV.out hv2 (Keeps.setCell (Keeps.grown ((Keeps.refl _ W).alloc _) hgrow (fun k _ e => .inr e.symm)) (fun _ => .inl rfl) _) (fun x hx => ?_), ⟨_, hv2, ?_, trivial⟩, HB.out.trans hb2'⟩
    · have hx2 := hown'.lt x hx
      rcases hnew with e | e
      · exact .inl (e ▸ hx)
      · rw [e] at hx
        injection hx with hx
        subst hx
        exact .inr ⟨by simp, by rw [World.size_setCell]; exact hx2.2⟩
    rw [HXX.out, List.length_append, List.length_singleton]
    exact hr2
  case done =>
    rintro D ys W hD rfl ⟨⟨v, hv, hrow, _⟩, hB⟩ hK
    obtain ⟨va, vc, rfl⟩ : ∃ a c, v = .slice a ys.length c := by
      rcases hrow.2 with ⟨e, h0⟩ | ⟨g, cap, cur, e, _⟩
      · exact ⟨none, 0, by rw [e, h0]⟩
      · exact ⟨_, _, e⟩
    have hc := hv.cell
    have row2 : W.ownsRow 0 36 2 (.slice va ys.length vc) ys.length (rowsC ys) := by
      rcases hrow with ⟨h1, h2⟩
      rcases h2 with h2 | ⟨g, cap, cs, e, hle, hh, rest⟩
      · exact ⟨h1, .inl h2⟩
      · exact ⟨h1, .inr ⟨g, cap, cs, e, Nat.zero_le _, hh, rest⟩⟩
    have row3 := ownsRow_putObj row2 (.deferred none) hK rfl
    have new3 : ∀ g, (Value.slice va ys.length vc).ownBlock = some g → w1.heap.size ≤ g := by
      intro g hg
      rcases hrow.2 with ⟨e, _⟩ | ⟨g', cap, cs, e, hle, _⟩
      · rw [e] at hg
        cases hg
      · rw [e] at hg
        injection hg with hg
        have hg : g' = g := hg
        omega
    have QW : Qt w1 W := ⟨hB.os.trans Q2.os, hB.tape.trans Q2.tape, hB.output.trans Q2.output, Nat.le_trans Q2.size hB.size, fun k hk e => (hB.block k hk).trans (Q2.block k hk e)⟩
    have Q3 : Qt w1 (W.putObj D (.deferred none)) := Keeps.grown QW (grownBy_putObj' _ _ _) (fun k hk e => by injection e with e; omega)
    have FIN := Lib.hid (show NewR w1 (W.putObj D (.deferred none)) (.slice va ys.length vc) ys from ⟨row3, new3, Q3⟩)
    clear hseq hen hne row3 new3 QW Q3 row2
    go_wp2
    refine ⟨by simp, .inl ⟨_, _, rfl, run_takeDeferred hK, ?_⟩⟩
    exact ⟨_, (results_tmp (t := 2) rfl _ _ _ : _ = Result.ok (.slice va ys.length vc) _), _, rfl, FIN.out⟩
  case stop =>
    rintro D c pre W _ _ h _
    exact h.elim
end Go.Proofs.Ytadocleollndfaa
namespace Go.Proofs.Ytadocleollndfaa
open Go.RowKit Go.WideShapes
set_option maxRecDepth 100000

/-- An iterator's end: all rows have come, or a round has said no more. -/
def SeqP (J Jx : List Tb.R → World → Prop) (L : List Tb.R) (e : Ending) (W' : World) : Prop := (∃ v, e = .returned v) ∧ ((∃ ys, ys = L ∧ J ys W') ∨ (∃ pre, pre <+: L ∧ Jx pre W'))
theorem SeqP.of {Ow : World → Nat → Prop} {J Jx : List Tb.R → World → Prop} {L : List Tb.R} {W W' : World} {v : Value} {ok : Bool} (h : (ok = true ∧ J ([] ++ L) W' ∧ KpO Ow W W') ∨ (ok = false ∧ ∃ q, q <+: L ∧ Jx ([] ++ q) W')) : SeqP J Jx L (.returned v) W' := by
  refine ⟨⟨_, rfl⟩, ?_⟩
  rcases h with ⟨_, j, _⟩ | ⟨_, q, hq, jx⟩
  · exact .inl ⟨_, rfl, by simpa using j⟩
  · exact .inr ⟨q, hq, by simpa using jx⟩
theorem grown_qt {A B : World} (q : Qt A B) : A.grownBy B none := ⟨q.os, q.tape, q.output, q.size, fun k hk _ => q.block k hk (fun e => e)⟩
theorem box_cell {W : World} {B : Nat} {t : TypeId} {v : Value} (h : Boxed W B t v) : W.cell? ⟨B, 0, none⟩ = some v := h.cell

/-! ### rising -/
set_option maxHeartbeats 800000 in
theorem rising1_any {Ow : World → Nat → Prop} {J Jx : List Tb.R → World → Prop} {L : List Tb.R} {W : World} {p : Option Addr} {bn bs lp : Nat} {lo hi : ByteArray} {ends : Bool} (cn : W.cell? ⟨bn, 0, none⟩ = some (.pointer p))
    (s0 : W.cell? ⟨bs, 0, none⟩ = some (.string lo)) (s1 : W.cell? ⟨bs, 1, none⟩ = some (.string hi)) (s2 : W.cell? ⟨bs, 2, none⟩ = some (.bool ends))
    (RI : Calls Try.prog 30 #[.pointer p, spanV lo hi ends, .func (.yield lp) #[] #[]] W (RiseP Ow J Jx [] L W)) :
    Calls Try.prog 29 #[.func (.yield lp) #[] #[], ptrV bn, ptrV bs] W (SeqP J Jx L) := by
  go_enter Try.func29, Try.ntmps29
  go_wp2_with fail
  refine RI.mono ?_
  rintro e w1 ⟨ok, rfl, h⟩
  have FIN := Lib.hid (fun v => SeqP.of (v := v) h)
  clear h RI cn s0 s1 s2
  go_wp2
  go_end0
  exact FIN.out _
set_option maxHeartbeats 1600000 in
theorem rising_any {X : Nat → Prop} {W : World} {p : Option Addr} {T : Tb.Tr} (lo hi : ByteArray) (ends : Bool) (h : IsT X W p T) (hX : ∀ k, X k → k < W.heap.size) (hs : Tb.Sorted T.list) :
    Calls Try.prog 20 #[.pointer p, spanV lo hi ends] W fun e W' => ∃ fv, e = .returned fv ∧ IterV (fun k => X k ∨ (W.heap.size ≤ k ∧ k < W'.heap.size)) W' fv (Tb.sel lo.data.toList hi.data.toList ends T.list) ∧ Qt W W' := by
  obtain ⟨W1, hW1⟩ : ∃ W1, (W.alloc (.cells #[.pointer p] 47)).alloc (.cells #[.string lo, .string hi, .bool ends] 52) = W1 := ⟨_, rfl⟩
  have q1 : Qt W W1 := hW1 ▸ ((Qt.refl W).alloc _).alloc _
  have hz : W1.heap.size = W.heap.size + 2 := by rw [← hW1]; simp
  have cn : W1.cell? ⟨W.heap.size, 0, none⟩ = some (.pointer p) := hW1 ▸ box_cell ((Boxed.new W 47 (.pointer p)).alloc _)
  have hbs : W1.heap[W.heap.size + 1]? = some (.cells #[.string lo, .string hi, .bool ends] 52 (0, 0)) := by
    have h := heap_alloc_new (W.alloc (.cells #[.pointer p] 47)) (.cells #[.string lo, .string hi, .bool ends] 52)
    rw [World.size_alloc] at h
    exact hW1 ▸ h
  have s0 : W1.cell? ⟨W.heap.size + 1, 0, none⟩ = some (.string lo) := by rw [cell_of_row _ _ _ _ _ _ hbs]; rfl
  have s1 : W1.cell? ⟨W.heap.size + 1, 1, none⟩ = some (.string hi) := by rw [cell_of_row _ _ _ _ _ _ hbs]; rfl
  have s2 : W1.cell? ⟨W.heap.size + 1, 2, none⟩ = some (.bool ends) := by rw [cell_of_row _ _ _ _ _ _ hbs]; rfl
  have IT := Lib.hid (show IterV (fun k => X k ∨ (W.heap.size ≤ k ∧ k < W1.heap.size)) W1 (.func (.func 29) #[] #[ptrV W.heap.size, ptrV (W.heap.size + 1)]) (Tb.sel lo.data.toList hi.data.toList ends T.list) from by
    refine ⟨fun k hk => ?_, 29, _, rfl, fun args w => enters_of Try.func29 (by kernel_rfl) rfl args w, fun n hn w K n0 Ow g h0 hO => ?_⟩
    · rcases hk with hk | hk
      · have := hX k hk; omega
      · exact hk.2
    · intro lp J Jx w2 hB aJ aJx hY j0
      have q2 : Qt w w2 := Qt.of_below hB
      have z2 := q2.size
      have zK := K.size
      have K2 : Keeps (fun k => ¬ (X k ∨ (W.heap.size ≤ k ∧ k < W1.heap.size))) W1 w2 := Keeps.trans K q2 (fun _ _ e => e.elim)
      have nb : ∀ k, W.heap.size ≤ k → k < W1.heap.size → ¬ ¬ (X k ∨ (W.heap.size ≤ k ∧ k < W1.heap.size)) := fun k h1 h2 e => e (.inr ⟨h1, h2⟩)
      have lv : Lv n0 Ow (fun k => X k ∨ (W.heap.size ≤ k ∧ k < W1.heap.size)) w2 := by
        have hb : Below n0 w w2 := hB.mono h0
        refine ⟨Nat.le_trans h0 z2, fun k hk => ?_, fun k hk => ?_, fun k hk e => (hO k (g.below hb e)).2 hk⟩
        · have := (hO k (g.below hb hk)).1; omega
        · rcases hk with hk | hk
          · have := hX k hk; have := q1.size; omega
          · omega
      have it : IsT (fun k => X k ∨ (W.heap.size ≤ k ∧ k < W1.heap.size)) w2 p T := IsT.kept K2 (fun k hk e => e hk) ((h.qt q1).more (fun _ _ hk => .inl hk))
      have RI := rise_any g (fun pre A B hj q => aJ pre A B none hj (grown_qt q) (fun r e => by cases e)) lp _ (fun m pre x w hj hl => yieldDeep m (hY pre x w hj hl)) lo hi ends _ T p [] w2 it hs lv j0 (by simp)
      exact callsIn_wide.2 (rising1_any (K2.cellv cn (nb _ (Nat.le_refl _) (by simp only; omega))) (K2.cellv s0 (nb _ (by simp only; omega) (by simp only; omega))) (K2.cellv s1 (nb _ (by simp only; omega) (by simp only; omega))) (K2.cellv s2 (nb _ (by simp only; omega) (by simp only; omega))) RI))
  have Q1 := Lib.hid q1
  have HW1 := Lib.hid hW1
  clear h hX hs q1 hz cn hbs s0 s1 s2 hW1
  go_enter Try.func20, Try.ntmps20
  go_wp2
  rw [HW1.out]
  go_ret
  exact ⟨_, rfl, IT.out, Q1.out⟩

/-! ### falling -/
set_option maxHeartbeats 800000 in
theorem falling1_any {Ow : World → Nat → Prop} {J Jx : List Tb.R → World → Prop} {L : List Tb.R} {W : World} {p : Option Addr} {bn bs lp : Nat} {lo hi : ByteArray} {ends : Bool} (cn : W.cell? ⟨bn, 0, none⟩ = some (.pointer p))
    (s0 : W.cell? ⟨bs, 0, none⟩ = some (.string lo)) (s1 : W.cell? ⟨bs, 1, none⟩ = some (.string hi)) (s2 : W.cell? ⟨bs, 2, none⟩ = some (.bool ends))
    (RI : Calls Try.prog 32 #[.pointer p, spanV lo hi ends, .func (.yield lp) #[] #[]] W (RiseP Ow J Jx [] L W)) :
    Calls Try.prog 31 #[.func (.yield lp) #[] #[], ptrV bn, ptrV bs] W (SeqP J Jx L) := by
  go_enter Try.func31, Try.ntmps31
  go_wp2_with fail
  refine RI.mono ?_
  rintro e w1 ⟨ok, rfl, h⟩
  have FIN := Lib.hid (fun v => SeqP.of (v := v) h)
  clear h RI cn s0 s1 s2
  go_wp2
  go_end0
  exact FIN.out _
set_option maxHeartbeats 1600000 in
theorem falling_any {X : Nat → Prop} {W : World} {p : Option Addr} {T : Tb.Tr} (lo hi : ByteArray) (ends : Bool) (h : IsT X W p T) (hX : ∀ k, X k → k < W.heap.size) (hs : Tb.Sorted T.list) :
    Calls Try.prog 21 #[.pointer p, spanV lo hi ends] W fun e W' => ∃ fv, e = .returned fv ∧ IterV (fun k => X k ∨ (W.heap.size ≤ k ∧ k < W'.heap.size)) W' fv ((Tb.sel lo.data.toList hi.data.toList ends T.list).reverse) ∧ Qt W W' := by
  obtain ⟨W1, hW1⟩ : ∃ W1, (W.alloc (.cells #[.pointer p] 47)).alloc (.cells #[.string lo, .string hi, .bool ends] 52) = W1 := ⟨_, rfl⟩
  have q1 : Qt W W1 := hW1 ▸ ((Qt.refl W).alloc _).alloc _
  have hz : W1.heap.size = W.heap.size + 2 := by rw [← hW1]; simp
  have cn : W1.cell? ⟨W.heap.size, 0, none⟩ = some (.pointer p) := hW1 ▸ box_cell ((Boxed.new W 47 (.pointer p)).alloc _)
  have hbs : W1.heap[W.heap.size + 1]? = some (.cells #[.string lo, .string hi, .bool ends] 52 (0, 0)) := by
    have h := heap_alloc_new (W.alloc (.cells #[.pointer p] 47)) (.cells #[.string lo, .string hi, .bool ends] 52)
    rw [World.size_alloc] at h
    exact hW1 ▸ h
  have s0 : W1.cell? ⟨W.heap.size + 1, 0, none⟩ = some (.string lo) := by rw [cell_of_row _ _ _ _ _ _ hbs]; rfl
  have s1 : W1.cell? ⟨W.heap.size + 1, 1, none⟩ = some (.string hi) := by rw [cell_of_row _ _ _ _ _ _ hbs]; rfl
  have s2 : W1.cell? ⟨W.heap.size + 1, 2, none⟩ = some (.bool ends) := by rw [cell_of_row _ _ _ _ _ _ hbs]; rfl
  have IT := Lib.hid (show IterV (fun k => X k ∨ (W.heap.size ≤ k ∧ k < W1.heap.size)) W1 (.func (.func 31) #[] #[ptrV W.heap.size, ptrV (W.heap.size + 1)]) ((Tb.sel lo.data.toList hi.data.toList ends T.list).reverse) from by
    refine ⟨fun k hk => ?_, 31, _, rfl, fun args w => enters_of Try.func31 (by kernel_rfl) rfl args w, fun n hn w K n0 Ow g h0 hO => ?_⟩
    · rcases hk with hk | hk
      · have := hX k hk; omega
      · exact hk.2
    · intro lp J Jx w2 hB aJ aJx hY j0
      have q2 : Qt w w2 := Qt.of_below hB
      have z2 := q2.size
      have zK := K.size
      have K2 : Keeps (fun k => ¬ (X k ∨ (W.heap.size ≤ k ∧ k < W1.heap.size))) W1 w2 := Keeps.trans K q2 (fun _ _ e => e.elim)
      have nb : ∀ k, W.heap.size ≤ k → k < W1.heap.size → ¬ ¬ (X k ∨ (W.heap.size ≤ k ∧ k < W1.heap.size)) := fun k h1 h2 e => e (.inr ⟨h1, h2⟩)
      have lv : Lv n0 Ow (fun k => X k ∨ (W.heap.size ≤ k ∧ k < W1.heap.size)) w2 := by
        have hb : Below n0 w w2 := hB.mono h0
        refine ⟨Nat.le_trans h0 z2, fun k hk => ?_, fun k hk => ?_, fun k hk e => (hO k (g.below hb e)).2 hk⟩
        · have := (hO k (g.below hb hk)).1; omega
        · rcases hk with hk | hk
          · have := hX k hk; have := q1.size; omega
          · omega
      have it : IsT (fun k => X k ∨ (W.heap.size ≤ k ∧ k < W1.heap.size)) w2 p T := IsT.kept K2 (fun k hk e => e hk) ((h.qt q1).more (fun _ _ hk => .inl hk))
      have RI := fall_any g (fun pre A B hj q => aJ pre A B none hj (grown_qt q) (fun r e => by cases e)) lp _ (fun m pre x w hj hl => yieldDeep m (hY pre x w hj hl)) lo hi ends _ T p [] w2 it hs lv j0 (by simp)
      exact callsIn_wide.2 (falling1_any (K2.cellv cn (nb _ (Nat.le_refl _) (by simp only; omega))) (K2.cellv s0 (nb _ (by simp only; omega) (by simp only; omega))) (K2.cellv s1 (nb _ (by simp only; omega) (by simp only; omega))) (K2.cellv s2 (nb _ (by simp only; omega) (by simp only; omega))) RI))
  have Q1 := Lib.hid q1
  have HW1 := Lib.hid hW1
  clear h hX hs q1 hz cn hbs s0 s1 s2 hW1
  go_enter Try.func21, Try.ntmps21
  go_wp2
  rw [HW1.out]
  go_ret
  exact ⟨_, rfl, IT.out, Q1.out⟩

/-! ### From, Range, Back -/
section
variable {W : World} {b : Nat} {l : List Tb.R} {A : Nat → Prop}
set_option maxHeartbeats 800000 in
theorem from11_any (h : Tbl W b l A) (lo : ByteArray) : Calls Try.prog 8 #[ptrV b, .string lo] W (IterP11 W b A (Tb.fromL l lo.data.toList)) := by
  obtain ⟨p, T, X, c, e, i, x⟩ := h.is
  have c0 := c.tree
  have RS := rising_any lo ⟨#[]⟩ false i (fun k hk => h.lt k (x k hk).1) (by rw [e]; exact h.sorted)
  rw [e, Tb.sel_from _ _ _] at RS
  have HB := Lib.hid c.lt
  have HX := Lib.hid x
  clear h c e i x
  go_enter Try.func8, Try.ntmps8
  go_wp2_with fail
  refine RS.mono ?_
  rintro e w1 ⟨fv, rfl, it, q⟩
  have FIN := Lib.hid (show IterP11 W b A (Tb.fromL l lo.data.toList) (.returned fv) w1 from ⟨fv, _, rfl, it, fun k hk => by
    rcases hk with hk | hk
    · exact ⟨.inl (HX.out k hk).1, (HX.out k hk).2⟩
    · have := HB.out
      exact ⟨.inr hk.1, by omega⟩, q⟩)
  clear it q RS c0
  go_wp2
  go_ret
  exact FIN.out
set_option maxHeartbeats 800000 in
theorem range11_any (h : Tbl W b l A) (lo hi : ByteArray) : Calls Try.prog 9 #[ptrV b, .string lo, .string hi] W (IterP11 W b A (Tb.rangeL l lo.data.toList hi.data.toList)) := by
  obtain ⟨p, T, X, c, e, i, x⟩ := h.is
  have c0 := c.tree
  have RS := rising_any lo hi true i (fun k hk => h.lt k (x k hk).1) (by rw [e]; exact h.sorted)
  rw [e, Tb.sel_range _ _ _] at RS
  have HB := Lib.hid c.lt
  have HX := Lib.hid x
  clear h c e i x
  go_enter Try.func9, Try.ntmps9
  go_wp2_with fail
  refine RS.mono ?_
  rintro e w1 ⟨fv, rfl, it, q⟩
  have FIN := Lib.hid (show IterP11 W b A (Tb.rangeL l lo.data.toList hi.data.toList) (.returned fv) w1 from ⟨fv, _, rfl, it, fun k hk => by
    rcases hk with hk | hk
    · exact ⟨.inl (HX.out k hk).1, (HX.out k hk).2⟩
    · have := HB.out
      exact ⟨.inr hk.1, by omega⟩, q⟩)
  clear it q RS c0
  go_wp2
  go_ret
  exact FIN.out
set_option maxHeartbeats 800000 in
theorem back11_any (h : Tbl W b l A) (lo hi : ByteArray) : Calls Try.prog 10 #[ptrV b, .string lo, .string hi] W (IterP11 W b A ((Tb.rangeL l lo.data.toList hi.data.toList).reverse)) := by
  obtain ⟨p, T, X, c, e, i, x⟩ := h.is
  have c0 := c.tree
  have RS := falling_any lo hi true i (fun k hk => h.lt k (x k hk).1) (by rw [e]; exact h.sorted)
  rw [e, Tb.sel_range _ _ _] at RS
  have HB := Lib.hid c.lt
  have HX := Lib.hid x
  clear h c e i x
  go_enter Try.func10, Try.ntmps10
  go_wp2_with fail
  refine RS.mono ?_
  rintro e w1 ⟨fv, rfl, it, q⟩
  have FIN := Lib.hid (show IterP11 W b A ((Tb.rangeL l lo.data.toList hi.data.toList).reverse) (.returned fv) w1 from ⟨fv, _, rfl, it, fun k hk => by
    rcases hk with hk | hk
    · exact ⟨.inl (HX.out k hk).1, (HX.out k hk).2⟩
    · have := HB.out
      exact ⟨.inr hk.1, by omega⟩, q⟩)
  clear it q RS c0
  go_wp2
  go_ret
  exact FIN.out
end
end Go.Proofs.Ytadocleollndfaa
namespace Go.Proofs.Ytadocleollndfaa
open Go.RowKit Go.WideShapes
set_option maxRecDepth 100000

def TbT (W : World) (b : Nat) (l : List Tb.R) (S A : Nat → Prop) : Prop := (∀ k, S k ↔ k = b) ∧ Tbl W b l A
section
variable {W W' : World} {b : Nat} {l m : List Tb.R} {S A A2 : Nat → Prop}
theorem TbT.of (h : Tbl W b l A) : TbT W b l (fun k => k = b) A := ⟨fun _ => Iff.rfl, h⟩
theorem TbT.own (h : TbT W b l S A) : S b := (h.1 b).2 rfl
theorem grew_one (h : TbT W b l S A) (K : Keeps (fun k => k = b) W W') (ha : ∀ k, A2 k → A k ∨ W.heap.size ≤ k) : Grew W W' S A (fun k => k = b) A2 :=
  ⟨fun k e => .inl ((h.1 k).2 e), ha, K.mono (fun k _ e => (h.1 k).2 e)⟩
theorem grew_same (h : TbT W b l S A) (q : Qt W W') : Grew W W' S A (fun k => k = b) A := grew_one h (q.mono (fun _ _ e => e.elim)) (fun _ hk => .inl hk)
theorem iter_tab (h : TbT W b l S A) {e : Ending} (i : IterP11 W b A m e W') : ∃ fv X S2 A2, e = .returned fv ∧ IterV X W' fv m ∧ TbT W' b l S2 A2 ∧ (∀ k, X k → (A k ∨ W.heap.size ≤ k) ∧ ¬ S2 k) ∧ Grew W W' S A S2 A2 := by
  obtain ⟨fv, X, e, it, hx, q⟩ := i
  exact ⟨fv, X, fun k => k = b, A, e, it, TbT.of (h.2.qt q), hx, grew_same h q⟩
end
noncomputable def tabH : TabH where
  T := TbT
  sub h k hk := by rw [(h.1 k).1 hk]; exact h.2.own
  lt h := h.2.lt
  sorted h := h.2.sorted
  kept h K hK := ⟨h.1, h.2.kept K hK⟩
  of hr hb ht hn := (of11_any _ hr hb ht hn).mono fun _ _ ⟨b, A, e, t, n, q⟩ => ⟨b, _, A, e, TbT.of t, n, q⟩
  len h := (len11_any h.2).mono fun _ _ ⟨e, w⟩ => ⟨e, w ▸ Qt.refl _⟩
  bytes h := (bytes11_any h.2).mono fun _ _ ⟨e, w⟩ => ⟨e, w ▸ Qt.refl _⟩
  get h k := (get11_any h.2 k).mono fun _ _ ⟨e, w⟩ => ⟨e, w ▸ Qt.refl _⟩
  del h k := (del11_any h.2 k).mono fun _ _ ⟨e, A2, t, a, K⟩ => ⟨e, _, A2, TbT.of t, grew_one h K a⟩
  rows {W b l S A} h := by
    refine (rows11_any h.2 (fun w q => ?_)).mono ?_
    · have f := from11_any (h.2.qt q) ⟨#[]⟩
      rwa [show Tb.fromL l (⟨#[]⟩ : ByteArray).data.toList = l from Tb.from_nil l] at f
    · rintro e W' ⟨v, he, n⟩
      exact ⟨v, he, n.own, n.new, _, A, TbT.of (h.2.qt n.qt), fun g hg ha => by have := n.new g hg; have := h.2.lt g ha; omega, grew_same h n.qt⟩
  range h lo hi := (range11_any h.2 lo hi).mono fun _ _ i => iter_tab h i
  «from» h lo := (from11_any h.2 lo).mono fun _ _ i => iter_tab h i
  back h lo hi := (back11_any h.2 lo hi).mono fun _ _ i => iter_tab h i
  clone {W b l S A} h := by
    refine (clone11_any h.2).mono ?_
    rintro e W' ⟨c, he, t, hc, q⟩
    have hb := h.2.lt b h.2.own
    refine ⟨c, _, A, _, _, he, TbT.of (h.2.qt q), TbT.of t, grew_same h q, fun k hk => by subst hk; exact hc, fun k hk => ?_, fun k hk ha => ?_, fun k hk ha => ?_⟩
    · rcases hk with hk | hk
      · exact .inl hk.1
      · exact .inr (by omega)
    · subst hk; have := h.2.lt k ha; omega
    · subst hk
      rcases ha with ha | ha
      · exact ha.2 rfl
      · omega
end Go.Proofs.Ytadocleollndfaa
