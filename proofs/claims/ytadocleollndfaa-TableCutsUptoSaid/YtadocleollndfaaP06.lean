/-
  The contract of remitlaw11.gather: what an iterator tells, collected.
  The contract of remitlaw11.same: are two lists of rows alike?
  A table and rows beside it, as TableCuts and TableOwns hold them.
-/
import Derived.Test.YtadocleollndfaaP04
import Derived.BigQuiet
import Derived.LoopTactic
import Derived.Test.YtadocleollndfaaP05
namespace Go.Proofs.Ytadocleollndfaa
open Go.RowKit Go.Shelf Go.WideShapes
attribute [local go_sem] Oper.semAt_some
set_option maxRecDepth 100000

set_option maxHeartbeats 4000000 in
theorem gather_any (X : Nat → Prop) (fv : Value) (l : List Tb.R) (w : World) (hl : l.length ≤ 50000) (hI : IterV X w fv l) :
    Calls Try.prog 7 #[fv] w fun e w' => ∃ v, e = .returned (.tuple #[v, .bool true]) ∧ NewR w w' v l := by
  refine (callsIn_wide (n := 5)).1 ?_
  obtain ⟨i0, hi, hz0, hz1, hz2⟩ := info_parts infoRow
  obtain ⟨hX, gf, lb, rfl, hen, hseq⟩ := hI
  refine callsIn_of_wp_marks Try.func7 rfl trivial ?_ rfl
  simp only [Try.ntmps7, List.size_toArray, List.length_cons, List.length_nil, Nat.reduceAdd, Nat.reduceSub, Array.replicate_succ, Array.replicate_zero, List.push_toArray, List.append_toArray, List.nil_append, List.cons_append]
  have hne : ∀ W, (binOp .eql 29 (.func (.func gf) #[] lb) .nilFunc).run Try.prog W = .ok (.bool false) W := func_nilR gf lb
  refine wpIn_wide.2 ?_
  go_wp2_with fail
  obtain ⟨W0, hW0⟩ : ∃ W, (((w.alloc (.cells #[.slice none 0 0] 22)).alloc (.cells #[.bool false] 4)).alloc (.cells #[] 36)).alloc (.cells #[.slice (some ⟨w.heap.size + 1 + 1, 0, none⟩) 0 0] 22) = W := ⟨_, rfl⟩
  have Q0 : Qt w W0 := hW0 ▸ ((((Qt.refl w).alloc _).alloc _).alloc _).alloc _
  have hs0 : W0.heap.size = w.heap.size + 4 := by rw [← hW0]; simp
  have b2 : Boxed W0 w.heap.size 22 (.slice none 0 0) := hW0 ▸ (((Boxed.new w 22 (.slice none 0 0)).alloc _).alloc _).alloc _
  have b3 : Boxed W0 (w.heap.size + 1) 4 (.bool false) := by
    have h := Boxed.new (w.alloc (.cells #[.slice none 0 0] 22)) 4 (.bool false)
    rw [World.size_alloc] at h
    exact hW0 ▸ (h.alloc _).alloc _
  have r4 : W0.ownsRow (w.heap.size + 2) 36 2 (.slice (some ⟨w.heap.size + 1 + 1, 0, none⟩) 0 0) 0 [] := by
    have h := row_new0 ((w.alloc (.cells #[.slice none 0 0] 22)).alloc (.cells #[.bool false] 4))
    rw [World.size_alloc, World.size_alloc] at h
    have h2 := h.alloc (.cells #[.slice (some ⟨w.heap.size + 1 + 1, 0, none⟩) 0 0] 22)
    rw [hW0] at h2
    refine ⟨h2.1, ?_⟩
    rcases h2.2 with ⟨e, _⟩ | ⟨g, cap, cur, e, _, rest⟩
    · cases e
    · have e2 := e
      injection e with e _ _
      injection e with e
      injection e with e
      exact .inr ⟨g, cap, cur, e2, by omega, rest⟩
  have b4 : Boxed W0 (w.heap.size + 3) 22 (.slice (some ⟨w.heap.size + 1 + 1, 0, none⟩) 0 0) := by
    have h := Boxed.new (((w.alloc (.cells #[.slice none 0 0] 22)).alloc (.cells #[.bool false] 4)).alloc (.cells #[] 36)) 22 (.slice (some ⟨w.heap.size + 1 + 1, 0, none⟩) 0 0)
    rw [World.size_alloc, World.size_alloc, World.size_alloc] at h
    exact hW0 ▸ h
  rw [hW0, show w.heap.size + 1 + 1 + 1 = w.heap.size + 3 from rfl]
  clear hW0
  have C23 := Lib.hid (fun (W : World) (hB : Below (w.heap.size + 2) W0 W) => (show Boxed W w.heap.size 22 (.slice none 0 0) ∧ Boxed W (w.heap.size + 1) 4 (.bool false) from
    ⟨(hB.block _ (by omega)).trans b2, (hB.block _ (by omega)).trans b3⟩))
  have HOW : ∀ k, BoxOw (w.heap.size + 3) W0 k → k < W0.heap.size ∧ ¬ X k := by
    rintro k (e | ⟨u, hu, e⟩)
    · exact ⟨by omega, fun x => by have := hX k x; omega⟩
    · rw [b4.cell] at hu
      injection hu with hu
      subst hu
      injection e with e
      simp only at e
      exact ⟨by omega, fun x => by have := hX k x; omega⟩
  refine (wpIn_wide (n := 5)).1 ?_
  refine' wpIn_rangeFunc_ownG rfl (by omega) (gf := gf) (lb := lb) rfl trivial hen (hseq 4 (by omega) W0 (KpX.of_qt Q0) W0.heap.size _ (boxOw (B := w.heap.size + 3) (by omega)) (Nat.le_refl _) HOW) KpO.trans (KpO.put (boxOw (by omega))) (Below.refl _ _) (fun _ => rfl)
    (fun pre W => (∃ v, Boxed W (w.heap.size + 3) 22 v ∧ W.ownsRow (w.heap.size + 2) 36 2 v pre.length (rowsC pre) ∧ True) ∧ Below (w.heap.size + 2) W0 W)
    (fun _ _ _ => False)
    (OwnFrom.and (Own.from (holdsRow_own (w.heap.size + 2) (w.heap.size + 3) 22 36 2 (fun pre => pre.length) (fun pre => rowsC pre) (fun _ _ => True)) _) (ownFrom_below (by omega) (by omega)))
    (fun _ _ _ _ _ hs _ _ => hs)
    ⟨⟨_, b4, r4, trivial⟩, Below.refl _ _⟩ _ ?assign ?body ?done ?stop
  case assign =>
    intro l x W K hK
    unfold encR
    gi_wp2
    exact hK
  case body =>
    rintro L pre x W ⟨⟨v, hv, hrow, _⟩, hB⟩ hlt
    have hc := hv.cell
    have hf := hv.frozen
    obtain ⟨va, vc, rfl⟩ : ∃ a c, v = .slice a pre.length c := by
      rcases hrow.2 with ⟨e, h0⟩ | ⟨g, cap, cur, e, _⟩
      · exact ⟨none, 0, by rw [e, h0]⟩
      · exact ⟨_, _, e⟩
    have hb1 : pre.length + 1 ≤ maxLen := by unfold maxLen; omega
    have hb2 : (pre.length + 1) * 32 ≤ 140737488355328 := by omega
    have hBz := hB.size
    have z5 : decide (50000 < (pre.length : Int) + 1) = false := decide_eq_false (by omega)
    have z5' : decide (50000 < pre.length + 1) = false := decide_eq_false (by omega)
    have hb3 : ∀ o : Obj, w.heap.size + 2 ≤ (W.alloc o).heap.size := by intro o; simp; omega
    obtain ⟨s1, hs1⟩ : ∃ s : ByteArray, strV x.1 = .string s := ⟨_, rfl⟩
    obtain ⟨s2, hs2⟩ : ∃ s : ByteArray, strV x.2 = .string s := ⟨_, rfl⟩
    have HX := Lib.hid (show rowsC (pre ++ [x]) = rowsC pre ++ [.string s1, .string s2] by rw [rowsC_append, rowsC_one, hs1, hs2])
    have HB := Lib.hid hB
    rw [hs1, hs2]
    clear hseq hen b2 b3 r4 b4 Q0 C23 hs1 hs2 hlt hX HOW
    have HV := Lib.hid hv
    gi_wp2_with (gi_at_builtin; refine wpListIn_append_own_at _ rfl _ _ 22 rfl (w.heap.size + 2) 36 i0 (.agg #[.string ⟨#[]⟩, .string ⟨#[]⟩]) 2 32 Try.underlying22 hi hz0 hz1 hz2 rfl (by decide) _ _ _ rfl (hrow.alloc _) ⟨W.heap.size, 0, none⟩ 1 1 [.string s1, .string s2] rfl rfl (news2 _ _ _ _) (by intro y hy; simp at hy; rcases hy with rfl | rfl <;> rfl) hb1 hb2 (hb3 _) ?_; intro v' w3 hown' hgrow _ hnew; obtain ⟨g', cap', rfl⟩ := ownsRow_succ hown'; obtain ⟨hv1, hv2, hr2, hk2, hb2'⟩ := hv.appended (by decide) hrow (by omega) (by omega) hown' hgrow; have hc1 := hv1.cell; have hf1 := hv1.frozen)
    refine ⟨hk2.from _, boxOw_step HV.out hv2 (Keeps.setCell (Keeps.grown ((Keeps.refl _ W).alloc _) hgrow (fun k _ e => .inr e.symm)) (fun _ => .inl rfl) _) (fun x hx => ?_), ⟨_, hv2, ?_, trivial⟩, HB.out.trans hb2'⟩
    · have hx2 := hown'.lt x hx
      rcases hnew with e | e
      · exact .inl (e ▸ hx)
      · rw [e] at hx
        injection hx with hx
        subst hx
        exact .inr ⟨by simp, by rw [World.size_setCell]; exact hx2.2⟩
    rw [HX.out, List.length_append, List.length_singleton]
    exact hr2
  case done =>
    rintro D ys W hD rfl ⟨⟨v, hv, hrow, _⟩, hB⟩ hK
    obtain ⟨va, vc, rfl⟩ : ∃ a c, v = .slice a ys.length c := by
      rcases hrow.2 with ⟨e, h0⟩ | ⟨g, cap, cur, e, _⟩
      · exact ⟨none, 0, by rw [e, h0]⟩
      · exact ⟨_, _, e⟩
    have hc := hv.cell
    have hf := hv.frozen
    obtain ⟨B8, B9⟩ := C23.out W hB
    have c8 := B8.cell
    have f8 := B8.frozen
    have N8 := boxR_set (x := .slice va ys.length vc) B8
    have B9' := boxR_other (x := .slice va ys.length vc) B9 (show w.heap.size + 1 ≠ w.heap.size by omega)
    have c9 := B9'.cell
    have f9 := B9'.frozen
    have N9 := boxR_set (x := .bool true) B9'
    have N8' := boxR_other (x := .bool true) N8 (show w.heap.size ≠ w.heap.size + 1 by omega)
    have k8 : D ≠ w.heap.size := by omega
    have k9 : D ≠ w.heap.size + 1 := by omega
    obtain ⟨W2, hW2⟩ : ∃ X, (W.setCell ⟨w.heap.size, 0, none⟩ (.slice va ys.length vc)).setCell ⟨w.heap.size + 1, 0, none⟩ (.bool true) = X := ⟨_, rfl⟩
    have K2 : ∀ g, g ≠ w.heap.size → g ≠ w.heap.size + 1 → W2.heap[g]? = W.heap[g]? := fun g h8 h9 => by
      rw [← hW2, heap_setCell_other _ _ _ _ (by simpa using h9), heap_setCell_other _ _ _ _ (by simpa using h8)]
    have hK2 : W2.heap[D]? = some (.deferred (some [])) := (K2 D k8 k9).trans hK
    have P8 := boxR_put (o := .deferred none) (hW2 ▸ N8') k8
    have P9 := boxR_put (o := .deferred none) (hW2 ▸ N9) k9
    have row2 : W2.ownsRow 0 36 2 (.slice va ys.length vc) ys.length (rowsC ys) := by
      rcases hrow with ⟨h1, h2⟩
      rcases h2 with h2 | ⟨g, cap, cs, e, hle, hh, rest⟩
      · exact ⟨h1, .inl h2⟩
      · exact ⟨h1, .inr ⟨g, cap, cs, e, Nat.zero_le _, (K2 g (by omega) (by omega)).trans hh, rest⟩⟩
    have row3 := ownsRow_putObj row2 (.deferred none) hK2 rfl
    have new3 : ∀ g, (Value.slice va ys.length vc).ownBlock = some g → w.heap.size ≤ g := by
      intro g hg
      rcases hrow.2 with ⟨e, _⟩ | ⟨g', cap, cs, e, hle, _⟩
      · rw [e] at hg
        cases hg
      · rw [e] at hg
        injection hg with hg
        have hg : g' = g := hg
        omega
    have QW : Qt w W := ⟨hB.os.trans Q0.os, hB.tape.trans Q0.tape, hB.output.trans Q0.output, Nat.le_trans Q0.size hB.size, fun k hk e => (hB.block k (by omega)).trans (Q0.block k hk e)⟩
    have Q2 : Qt w W2 := hW2 ▸ Keeps.setCell (Keeps.setCell QW (fun h => absurd h (by simp)) _) (fun h => absurd h (by simp)) _
    have Q3 : Qt w (W2.putObj D (.deferred none)) := Keeps.grown Q2 (grownBy_putObj' _ _ _) (fun k hk e => by injection e with e; omega)
    clear hseq hen hne
    go_wp2
    refine ⟨by simp, .inl ⟨_, _, rfl, run_takeDeferred hK2, ?_⟩⟩
    exact ⟨_, resultsR_cell2 (p := 2) (q := 3) (by kernel_rfl) _ Try.prog _ rfl rfl (isAggRows _) (isAggBool _) P8.cell P9.cell, _, rfl, ⟨row3, new3, Q3⟩⟩
  case stop =>
    rintro D c pre W _ _ h _
    exact h.elim
end Go.Proofs.Ytadocleollndfaa
namespace Go.Proofs.Ytadocleollndfaa
open Go.RowKit Go.WideShapes
set_option maxRecDepth 100000

theorem same_rowsL {l m : List Tb.R} (hl : l.length = m.length) (h : ∀ j, j < l.length → l[j]? = m[j]?) : l = m := by
  apply List.ext_getElem?
  intro j
  rcases Nat.lt_or_ge j l.length with k | k
  · exact h j k
  · rw [List.getElem?_eq_none k, List.getElem?_eq_none (by omega)]
def SameRAt (w : World) (l m : List Tb.R) (iv : Value) (wr : World) : Prop := ∃ k, k ≤ l.length ∧ iv = .int .i64 k ∧ (∀ j, j < k → l[j]? = m[j]?) ∧ Qt w wr

set_option maxHeartbeats 1600000 in
theorem same11_any (a b : Value) (g1 o1 g2 o2 : Nat) (l m : List Tb.R) (w : World) (hl : RowsIn w a g1 o1 l) (hm : RowsIn w b g2 o2 m) :
    Calls Try.prog 11 #[a, b] w fun e w' => e = .returned (.bool (decide (l = m))) ∧ Qt w w' := by
  obtain ⟨aa, ac, rfl, haa⟩ := hl.val
  obtain ⟨ba, bc, rfl, hba⟩ := hm.val
  by_cases hlen : l.length = m.length
  · have zl : ((l.length : Int) != (m.length : Int)) = false := by rw [bne_eq_false_iff_eq]; omega
    have HLN := Lib.hid hlen
    have HLB := Lib.hid hl.le
    have HA := Lib.hid hl
    have HB := Lib.hid hm
    have START := Lib.hid (show SameRAt w l m (.int .i64 0) w from ⟨0, Nat.zero_le _, rfl, fun j hj => absurd hj (Nat.not_lt_zero j), Qt.refl _⟩)
    clear hl hm hlen haa hba
    go_enter Try.func11, Try.ntmps11
    go_wp2
    go_loopw [13] (fun iv wr => SameRAt w l m iv wr) (fun iv _ => l.length - (intOf iv).toNat)
    case atStart => exact START.out
    case round =>
      obtain ⟨k, hk, rfl, heq, q⟩ := hrel
      have HQ := Lib.hid q
      have HEQ := Lib.hid heq
      have hkb : (k : Int) ≤ 140737488355328 := by have := HLB.out; omega
      by_cases hlt : k < l.length
      · have zlt : decide ((k : Int) < (l.length : Int)) = true := decide_eq_true (by omega)
        have zlt' : decide (k < l.length) = true := decide_eq_true hlt
        have hltm : k < m.length := by rw [← HLN.out]; exact hlt
        obtain ⟨t, ct, ht, e1⟩ := HA.out.elem hlt
        obtain ⟨u, cu, hu, e2⟩ := HB.out.elem hltm
        injection e1 with e1 q1 q2
        injection e2 with e2 q3 q4
        clear q1 q2 q3 q4
        subst e1 e2
        obtain ⟨t1, t2⟩ := HA.out.cell ht
        obtain ⟨u1, u2⟩ := HB.out.cell hu
        have c1 := q.cellv t1
        have c2 := q.cellv t2
        have d1 := q.cellv u1
        have d2 := q.cellv u2
        have k0 : (0 : Int) ≤ (k : Int) := by omega
        have k1 : (k : Int) < (l.length : Int) := by omega
        have k2 : (k : Int) < (m.length : Int) := by omega
        have HLT := Lib.hid hlt
        have HME := Lib.hid (show l.length - (intOf (.int .i64 ((k : Int) + 1))).toNat < l.length - (intOf (.int .i64 (k : Int))).toNat by simp [intOf]; omega)
        by_cases he : t = u
        · have n1 : ∀ W, (binOp .neq 36 (.agg #[strV t.1, strV t.2]) (.agg #[strV u.1, strV u.2])).run Try.prog W = .ok (.bool false) W := fun W => by rw [run_neq_row t u W, decide_eq_true he]; rfl
          have FN := Lib.hid (fun (W : World) (q2 : Qt w W) => (show SameRAt w l m (.int .i64 ((k : Int) + 1)) W from ⟨k + 1, HLT.out, by push_cast; rfl, fun j hj => by
            rcases Nat.lt_or_ge j k with h | h
            · exact HEQ.out j h
            · obtain rfl : j = k := by omega
              rw [ht, hu, he], q2⟩))
          clear t1 t2 u1 u2 ht hu he heq q hk hlt hltm
          go_wp2
          go_quiet (fail)
          have FN2 := Lib.hid (FN.out _ (Keeps.drewN HQ.out nq))
          go_wp2
          exact ⟨FN2.out, HME.out⟩
        · have n1 : ∀ W, (binOp .neq 36 (.agg #[strV t.1, strV t.2]) (.agg #[strV u.1, strV u.2])).run Try.prog W = .ok (.bool true) W := fun W => by rw [run_neq_row t u W, decide_eq_false he]; rfl
          have FIN := Lib.hid (show decide (l = m) = false from decide_eq_false (fun e => he (by rw [e, hu] at ht; exact (Option.some.inj ht).symm)))
          clear t1 t2 u1 u2 ht hu he heq q hk hlt hltm
          go_wp2
          go_quiet (fail)
          have QN := Lib.hid (Keeps.drewN HQ.out nq)
          go_wp2
          go_ret
          exact ⟨by rw [FIN.out]; rfl, QN.out⟩
      · obtain rfl : k = l.length := by omega
        have zlt : decide ((l.length : Int) < (l.length : Int)) = false := decide_eq_false (by omega)
        have FIN := Lib.hid (show decide (l = m) = true from decide_eq_true (same_rowsL HLN.out heq))
        clear heq q hk hlt
        go_wp2
        go_ret
        exact ⟨by rw [FIN.out]; rfl, HQ.out⟩
  · have zl : ((l.length : Int) != (m.length : Int)) = true := by rw [bne_iff_ne]; omega
    have FIN := Lib.hid (show decide (l = m) = false from decide_eq_false (fun e => hlen (by rw [e])))
    clear hl hm hlen haa hba
    go_enter Try.func11, Try.ntmps11
    go_wp2
    go_ret
    exact ⟨by rw [FIN.out]; rfl, Qt.refl _⟩
theorem same11_yes {a b : Value} {g1 o1 g2 o2 : Nat} {l : List Tb.R} {w : World} (hl : RowsIn w a g1 o1 l) (hm : RowsIn w b g2 o2 l) :
    Calls Try.prog 11 #[a, b] w fun e w' => e = .returned (.bool true) ∧ Qt w w' :=
  (same11_any a b g1 o1 g2 o2 l l w hl hm).mono fun _ _ h => by
    rw [decide_eq_true rfl] at h
    exact h
end Go.Proofs.Ytadocleollndfaa
namespace Go.Proofs.Ytadocleollndfaa
open Go.RowKit Go.WideShapes
set_option maxRecDepth 100000

/-- Rows in memory that no call on the table turns. -/
def RowsP (W : World) (P : Nat → Prop) (v : Value) (xs : List Tb.R) : Prop := ∃ g, RowsIn W v g 0 xs ∧ (xs ≠ [] → P g)
/-- The table in block b has the rows l; beside it lie the rows rs. -/
def St (H : TabH) (w0 W : World) (b : Nat) (l : List Tb.R) (rs : List (Value × List Tb.R)) : Prop :=
  ∃ P, TK H P w0 W b l ∧ (∀ k, P k → k < W.heap.size) ∧ ∀ x ∈ rs, RowsP W P x.1 x.2
section
variable {H : TabH} {w0 w w' W W' : World} {b : Nat} {l xs : List Tb.R} {rs : List (Value × List Tb.R)} {P P2 : Nat → Prop} {v : Value}
theorem RowsP.turn {K : Nat → Prop} (h : RowsP W P v xs) (q : Keeps K W W') (hK : ∀ k, P k → ¬ K k) : RowsP W' P v xs := by
  obtain ⟨g, h1, h2⟩ := h
  exact ⟨g, h1.kept q (fun hne => hK g (h2 hne)), h2⟩
theorem RowsP.more (h : RowsP W P v xs) (hP : ∀ k, P k → P2 k) : RowsP W P2 v xs := by
  obtain ⟨g, h1, h2⟩ := h
  exact ⟨g, h1, fun hne => hP g (h2 hne)⟩
theorem St.qt (h : St H w0 W b l rs) (q : Qt W W') : St H w0 W' b l rs := by
  obtain ⟨P, h1, h2, h3⟩ := h
  exact ⟨P, h1.qt q, fun k hk => Nat.lt_of_lt_of_le (h2 k hk) q.size, fun x hx => (h3 x hx).turn q (fun _ _ e => e)⟩
theorem St.qt0 (h : St H w0 W b l rs) : Qt w0 W := by obtain ⟨P, h1, _⟩ := h; exact h1.qt0
theorem St.sorted (h : St H w0 W b l rs) : Tb.Sorted l := by obtain ⟨P, h1, _⟩ := h; exact h1.sorted
theorem St.rows (h : St H w0 W b l rs) {x : Value × List Tb.R} (hx : x ∈ rs) : ∃ g, RowsIn W x.1 g 0 x.2 := by
  obtain ⟨P, _, _, h3⟩ := h
  obtain ⟨g, h4, _⟩ := h3 x hx
  exact ⟨g, h4⟩
theorem St.call (h3 : ∀ x ∈ rs, RowsP W P x.1 x.2) (hP : ∀ k, P k → k < W.heap.size) (t : TK H P w0 W' b l) (K : Keeps (OutT w0 P) W W') : St H w0 W' b l rs :=
  ⟨P, t, fun k hk => Nat.lt_of_lt_of_le (hP k hk) K.size, fun x hx => (h3 x hx).turn K (fun _ hk e => e.2 hk)⟩
theorem st_of {g o : Nat} {rows : List Tb.R} (H : TabH) (q : Qt w0 w) (h : RowsIn w v g o rows) (hb : Tb.bytes rows ≤ 9223372036854775807) (ht : ∀ r ∈ rows, r.1.length ≤ 281474976710656 ∧ r.2.length ≤ 281474976710656) (hn : rows.length ≤ 1048576) :
    Calls Try.prog 6 #[v] w fun e w' => ∃ b, e = .returned (ptrV b) ∧ St H w0 w' b (Tb.ofL rows) [] ∧ Qt w w' := by
  refine (tk_of H q h hb ht hn).mono ?_
  rintro e w' ⟨b, he, t, q'⟩
  exact ⟨b, he, ⟨_, t, fun k hk => Nat.lt_of_lt_of_le hk q'.size, fun x hx => by simp at hx⟩, q'⟩
theorem st_len (h : St H w0 W b l rs) : Calls Try.prog 13 #[ptrV b] W fun e w' => e = .returned (.int .i64 (l.length : Int)) ∧ Qt W w' := by
  obtain ⟨P, h1, _⟩ := h
  exact tk_len h1
theorem st_bytes (h : St H w0 W b l rs) : Calls Try.prog 15 #[ptrV b] W fun e w' => e = .returned (.int .i64 (Tb.bytes l : Int)) ∧ Qt W w' := by
  obtain ⟨P, h1, _⟩ := h
  exact tk_bytes h1
theorem st_get (h : St H w0 W b l rs) (k : ByteArray) : Calls Try.prog 14 #[ptrV b, .string k] W fun e w' => e = .returned (.tuple #[strV ((Tb.get l k.data.toList).getD []), .bool (Tb.get l k.data.toList).isSome]) ∧ Qt W w' := by
  obtain ⟨P, h1, _⟩ := h
  exact tk_get h1 k
/-- What Range, From, Back hand out, over all that lies. -/
def IterS (H : TabH) (w0 : World) (b : Nat) (l : List Tb.R) (rs : List (Value × List Tb.R)) (xs : List Tb.R) (e : Ending) (w' : World) : Prop := ∃ fv X, e = .returned fv ∧ IterV X w' fv xs ∧ St H w0 w' b l rs
theorem iterS_of (hP : ∀ k, P k → k < W.heap.size) (h3 : ∀ x ∈ rs, RowsP W P x.1 x.2) {e : Ending} (h : IterP H P w0 W b l xs e W') : IterS H w0 b l rs xs e W' := by
  obtain ⟨fv, X, he, hi, t, K⟩ := h
  exact ⟨fv, X, he, hi, St.call h3 hP t K⟩
theorem st_from (h : St H w0 W b l rs) (lo : ByteArray) : Calls Try.prog 8 #[ptrV b, .string lo] W (IterS H w0 b l rs (Tb.fromL l lo.data.toList)) := by
  obtain ⟨P, h1, h2, h3⟩ := h
  exact (tk_from h2 h1 lo).mono fun e w' h => iterS_of h2 h3 h
theorem st_range (h : St H w0 W b l rs) (lo hi : ByteArray) : Calls Try.prog 9 #[ptrV b, .string lo, .string hi] W (IterS H w0 b l rs (Tb.rangeL l lo.data.toList hi.data.toList)) := by
  obtain ⟨P, h1, h2, h3⟩ := h
  exact (tk_range h2 h1 lo hi).mono fun e w' h => iterS_of h2 h3 h
theorem st_back (h : St H w0 W b l rs) (lo hi : ByteArray) : Calls Try.prog 10 #[ptrV b, .string lo, .string hi] W (IterS H w0 b l rs (Tb.rangeL l lo.data.toList hi.data.toList).reverse) := by
  obtain ⟨P, h1, h2, h3⟩ := h
  exact (tk_back h2 h1 lo hi).mono fun e w' h => iterS_of h2 h3 h
/-- Rows of one's own, made since, lie beside it too. -/
theorem St.add (h : St H w0 W b l rs) (q : Qt W W') (ho : W'.ownsRow 0 36 2 v xs.length (rowsC xs)) (hn : ∀ g, v.ownBlock = some g → W.heap.size ≤ g) (hl : xs.length ≤ 17592186044416) : St H w0 W' b l (rs ++ [(v, xs)]) := by
  obtain ⟨P, h1, h2, h3⟩ := h
  have hz := q.size
  refine ⟨fun k => P k ∨ (W.heap.size ≤ k ∧ k < W'.heap.size), (h1.more (fun k e => ?_)).qt q, fun k e => ?_, fun x hx => ?_⟩
  · rcases e with e | e
    · exact .inl e
    · exact .inr e.1
  · rcases e with e | e
    · have := h2 k e; omega
    · exact e.2
  · rcases List.mem_append.1 hx with hx | hx
    · exact ((h3 x hx).turn q (fun _ _ e => e)).more (fun _ e => .inl e)
    · rw [List.mem_singleton.1 hx]
      obtain ⟨g, r1, r2⟩ := ownR_rows ho hl
      refine ⟨g, r1, fun hne => .inr ?_⟩
      obtain ⟨r, xs', rfl⟩ := List.exists_cons_of_ne_nil hne
      rcases ho.2 with ⟨_, h0⟩ | ⟨g', cap, cur, e, _, hb, _⟩
      · simp at h0
      · have e1 : v.ownBlock = some g' := by rw [e]; rfl
        have e2 := r2 g' e1
        subst e2
        exact ⟨hn _ e1, lt_of_block hb⟩
theorem st_gather {X : Nat → Prop} {fv : Value} (h : St H w0 W b l rs) (hi : IterV X W fv xs) (hl : xs.length ≤ 50000) :
    Calls Try.prog 7 #[fv] W fun e w' => ∃ v, e = .returned (.tuple #[v, .bool true]) ∧ (∃ a c, v = .slice a xs.length c) ∧ St H w0 w' b l (rs ++ [(v, xs)]) := by
  refine (gather_any X fv xs W hl hi).mono ?_
  rintro e w' ⟨v, he, N⟩
  exact ⟨v, he, ownR_shape N.own, h.add N.qt N.own N.new (by omega)⟩
theorem st_rows (h : St H w0 W b l rs) (hl : l.length ≤ 17592186044416) : Calls Try.prog 12 #[ptrV b] W fun e w' => ∃ v, e = .returned v ∧ (∃ a c, v = .slice a l.length c) ∧ St H w0 w' b l (rs ++ [(v, l)]) := by
  obtain ⟨P, h1, h2, h3⟩ := h
  refine (tk_rows h2 h1).mono ?_
  rintro e w' ⟨v, he, ho, hn, t, K⟩
  refine ⟨v, he, ownR_shape ho, ⟨_, t, fun k hk => ?_, fun x hx => ?_⟩⟩
  · rcases hk with hk | hk
    · exact Nat.lt_of_lt_of_le (h2 k hk) K.size
    · exact ownsRow_lt ho hk
  · rcases List.mem_append.1 hx with hx | hx
    · exact ((h3 x hx).turn K (fun k hk e => e.2 hk)).more (fun _ e => .inl e)
    · rw [List.mem_singleton.1 hx]
      obtain ⟨g, r1, r2⟩ := ownR_rows ho hl
      refine ⟨g, r1, fun hne => .inr ?_⟩
      obtain ⟨r, xs', rfl⟩ := List.exists_cons_of_ne_nil hne
      rcases ho.2 with ⟨_, h0⟩ | ⟨g', cap, cur, e, _, hb, _⟩
      · simp at h0
      · have e1 : v.ownBlock = some g' := by rw [e]; rfl
        have e2 := r2 g' e1
        subst e2
        exact e1
theorem st_lasts {g o : Nat} {rows : List Tb.R} (h : St H w0 W b (Tb.ofL rows) rs) (hr : RowsIn w0 v g o rows) : Calls Try.prog 16 #[ptrV b, v] W fun e w' => e = .returned (.bool true) ∧ St H w0 w' b (Tb.ofL rows) rs := by
  obtain ⟨P, h1, h2, h3⟩ := h
  refine (lasts_any H h2 h1 hr).mono ?_
  rintro e w' ⟨he, t, K⟩
  exact ⟨he, St.call h3 h2 t K⟩
end
end Go.Proofs.Ytadocleollndfaa
