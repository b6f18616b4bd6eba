/-
  The document's own batch: the contract of Rows.
  An iterator over rows, and what remitlaw11.gather collects of it.
-/
import Derived.Test.YtffjleceogablaaDoorP39
import Derived.RangeFuncBox
import Derived.RangeFuncLeaves
import Derived.RangeFuncNested
import Derived.Shelf.Abstract
import Derived.WalkKit
import Derived.OwnWalkIn
import Derived.TacticsInMore
import Derived.LoopNIn
import Derived.LoopIn
import Derived.Maps.AppendAt
import Derived.Maps.OwnIn
import Derived.Test.YtffjleceogablaaDoorP06
namespace Go.Proofs.YtffjleceogablaaDoor
open Go.RowKit Go.WideShapes
set_option maxRecDepth 100000

theorem NewG.since {α : Type} {f : α → List Value} {n : Nat} {E : TypeId} {w W y : World} {v : Value} {l : List α} (q : Qt w W) (h : NewG f n E W y v l) : NewG f n E w y v l :=
  ⟨h.own, fun g e => Nat.le_trans q.size (h.new g e), Qt.trans q h.qt⟩
def RwAt (w : World) (rows : List Tb.R) (ov iv : Value) (wr : World) : Prop := ∃ i : Nat, i ≤ rows.length ∧ iv = .int .i64 i ∧ NewG rowC 2 64 w wr ov (Tb.ofL (rows.take i))
theorem op_in (W : World) (op : Bt.O) : OpsIn (W.alloc (.cells (opC op).toArray 29)) (.slice (some ⟨W.heap.size, 0, none⟩) 1 1) W.heap.size 0 [op] := by
  refine ⟨⟨_, 1, rfl, fun _ => rfl⟩, by simp, fun k o hk j u hj => ?_⟩
  have h0 : k = 0 := by have := (List.getElem?_eq_some_iff.1 hk).1; simp at this; exact this
  subst h0
  have e : op = o := by simpa using hk
  subst e
  have := newsG W (opC op) 29 j u hj
  rw [add_plain, Nat.zero_add] at this
  rw [Nat.zero_mul, Nat.zero_add]
  first | exact this | (rw [Nat.zero_add]; exact this)
set_option maxHeartbeats 1600000 in
theorem rrows12_any {v : Value} {g o : Nat} {rows : List Tb.R} (w : World) (hr : RowsIn w v g o rows) (hb : (rows.length + 1) * 32 ≤ 140737488355328) :
    Calls Tryd.prog 24 #[v] w fun e w' => ∃ v', e = .returned v' ∧ NewG rowC 2 64 w w' v' (Tb.ofL rows) := by
  have HR := Lib.hid hr
  have HB := Lib.hid hb
  obtain ⟨a, cap, rfl, ha⟩ := hr.val
  clear hr ha hb
  have START := Lib.hid (show RwAt w rows (.slice (some ⟨w.heap.size, 0, none⟩) 0 0) (.int .i64 0) (w.alloc (.cells #[] 64)) from ⟨0, Nat.zero_le _, rfl, ⟨row_new0G w, fun g e => by injection e with e; subst e; exact Nat.le_refl _, (Qt.refl w).alloc _⟩⟩)
  go_enter Tryd.func24, Tryd.ntmps24
  go_wp2
  go_loopw [3, 9] (fun ov iv wr => RwAt w rows ov iv wr) (fun _ iv _ => rows.length - (intOf iv).toNat)
  case atStart => exact START.out
  case round =>
    obtain ⟨i, hi, rfl, NG⟩ := hrel
    have HN := Lib.hid NG
    clear NG START
    by_cases hlt : i < rows.length
    · have zlt : decide ((i : Int) < (rows.length : Int)) = true := decide_eq_true (by omega)
      have zlt' : decide (i < rows.length) = true := decide_eq_true hlt
      obtain ⟨r, c1, hop, e0⟩ := HR.out.elem hlt
      injection e0 with e0 q1 q2
      clear q1 q2
      subst e0
      obtain ⟨x1, x2⟩ := RowsIn.cell (recs_turn HR.out HN.out.qt) hop
      obtain ⟨K, hK⟩ : ∃ K : ByteArray, strV r.1 = .string K := ⟨_, rfl⟩
      obtain ⟨V, hV⟩ : ∃ V : ByteArray, strV r.2 = .string V := ⟨_, rfl⟩
      have k0 : (0 : Int) ≤ (i : Int) := by omega
      have k1 : (i : Int) < (rows.length : Int) := by omega
      have hml : (Tb.ofL (rows.take i)).length ≤ i := by have := Tb.ofL_length (rows.take i); rw [List.length_take] at this; omega
      have hms := Tb.ofL_sorted (rows.take i)
      have hdo : Tb.ofL (rows.take (i + 1)) = Bt.apply (Tb.ofL (rows.take i)) [⟨false, r.1, r.2⟩] := by
        rw [List.take_add_one, hop]
        exact Tb.ofL_snoc (rows.take i) r
      generalize hm : Tb.ofL (rows.take i) = m at *
      clear hm
      have HML := Lib.hid hml
      have HDO := Lib.hid hdo
      have HLT := Lib.hid hlt
      obtain ⟨oa, oc, hov⟩ := ownG_shape HN.out.own
      subst hov
      obtain ⟨W2, hW2⟩ : ∃ W, wr.alloc (.cells #[.string K, .string V] 64) = W := ⟨_, rfl⟩
      obtain ⟨W3, hW3⟩ : ∃ W, W2.alloc (.cells #[.bool false, .string K, .string V] 29) = W := ⟨_, rfl⟩
      have q3 : Qt wr W3 := hW3 ▸ hW2 ▸ ((Qt.refl wr).alloc _).alloc _
      have N3 := Lib.hid (HN.out.quiet q3)
      obtain ⟨gm, RM, nx⟩ := ownG_in rowC_len N3.out.own (by have := HML.out; have := HB.out; omega)
      clear nx
      have OI := op_in W2 ⟨false, r.1, r.2⟩
      rw [show opC ⟨false, r.1, r.2⟩ = [.bool false, .string K, .string V] by rw [← hK, ← hV]; rfl] at OI
      have PL := rapply12_any W3 RM (hW3 ▸ OI) hms (by have := HML.out; have := HB.out; simp; omega)
      rw [hK] at x1
      rw [hV] at x2
      have hwi : wrap64 ((i : Int) + 1) = (i : Int) + 1 := by have := HB.out; have := HLT.out; unfold wrap64; omega
      have HM := Lib.hid (show rows.length - (intOf (.int .i64 ((i : Int) + 1))).toNat < rows.length - (intOf (.int .i64 (i : Int))).toNat by have := HLT.out; simp [intOf]; omega)
      have HW2 := Lib.hid hW2
      have HW3 := Lib.hid hW3
      clear hW2 hW3 hop hml hms hdo hlt hi RM OI q3
      go_wp2_with fail
      rw [show wr.heap.size + 1 = W2.heap.size by rw [← HW2.out]; simp, HW2.out, HW3.out]
      refine PL.mono ?_
      rintro e w4 ⟨v4, rfl, N4⟩
      have FN := Lib.hid (show RwAt w rows v4 (.int .i64 ((i : Int) + 1)) w4 from ⟨i + 1, HLT.out, by push_cast; rfl, by rw [HDO.out]; exact NewG.since N3.out.qt N4⟩)
      clear PL N4
      go_wp2
      rw [hwi]
      exact ⟨FN.out, HM.out⟩
    · obtain rfl : i = rows.length := by omega
      have zlt : decide ((rows.length : Int) < (rows.length : Int)) = false := decide_eq_false (by omega)
      have zlt' : decide (rows.length < rows.length) = false := decide_eq_false (by omega)
      rw [List.take_length] at HN
      clear hi hlt
      go_wp2
      go_ret
      exact ⟨_, rfl, HN.out⟩
end Go.Proofs.YtffjleceogablaaDoor
namespace Go.Proofs.YtffjleceogablaaDoor
open Go.RowKit Go.Shelf Go.WideShapes
attribute [local go_sem] Oper.semAt_some
set_option maxRecDepth 100000

def encR (r : Tb.R) : Array Value := #[strV r.1, strV r.2]
/-- What a round that goes on keeps: the iterator's own blocks. -/
def KpX (X : Nat → Prop) (A B : World) : Prop := Keeps (fun k => ¬ X k) A B
/-- What a loop's body calls its own is told by what lies below n0. -/
structure OwnsO (n0 : Nat) (Ow : World → Nat → Prop) : Prop where
  below : ∀ {A B : World} {k : Nat}, Below n0 A B → Ow B k → Ow A k
/-- What a round that goes on keeps: all cells but the body's own; what it takes for its own besides is new. -/
structure KpO (Ow : World → Nat → Prop) (A B : World) : Prop where
  size : A.heap.size ≤ B.heap.size
  block : ∀ k o, A.heap[k]? = some o → o.isCells = true → ¬ Ow A k → B.heap[k]? = some o
  own : ∀ k, Ow B k → Ow A k ∨ (A.heap.size ≤ k ∧ k < B.heap.size)
/-- A function over just these rows, in every world in which the blocks X lie as they lay, for every body that leaves what isn't its own. -/
def IterV (X : Nat → Prop) (w : World) (fv : Value) (l : List Tb.R) : Prop :=
  (∀ k, X k → k < w.heap.size) ∧ ∃ gf lb, fv = .func (.func gf) #[] lb ∧ (∀ args W, (callFunc gf args).run Tryd.prog W = .ok (.enter gf args) W) ∧
    ∀ n, 1 ≤ n → ∀ W, Keeps (fun k => ¬ X k) w W → ∀ (n0 : Nat) (Ow : World → Nat → Prop), OwnsO n0 Ow → n0 ≤ W.heap.size → (∀ k, Ow W k → k < W.heap.size ∧ ¬ X k) →
      SeqStopsK Fence.wide n Tryd.prog gf lb encR (KpO Ow) (fun ys => ys = l) (fun pre => pre <+: l) l.length W
section
variable {Ow : World → Nat → Prop} {n0 : Nat}
theorem lt_of_heap {W : World} {k : Nat} {o : Obj} (h : W.heap[k]? = some o) : k < W.heap.size := (Array.getElem?_eq_some_iff.1 h).1
theorem KpO.refl (W : World) : KpO Ow W W := ⟨Nat.le_refl _, fun _ _ h _ _ => h, fun _ h => .inl h⟩
theorem KpO.trans {A B C : World} (h : KpO Ow A B) (k : KpO Ow B C) : KpO Ow A C :=
  ⟨Nat.le_trans h.size k.size, fun j o hj hc hn => k.block j o (h.block j o hj hc hn) hc (fun e => by
    rcases h.own j e with e | e
    · exact hn e
    · have := lt_of_heap hj; omega), fun j hj => by
    have h1 := h.size
    have h2 := k.size
    rcases k.own j hj with e | e
    · rcases h.own j e with e | e
      · exact .inl e
      · exact .inr ⟨e.1, by omega⟩
    · exact .inr ⟨by omega, e.2⟩⟩
theorem KpO.put (g : OwnsO n0 Ow) (W : World) (l : Nat) (o o' : Obj) (hl : n0 ≤ l) (h : W.heap[l]? = some o) (hc : o.isCells = false) (_ : o.isWalk = false) : KpO Ow W (W.putObj l o') := by
  have hb : Below n0 W (W.putObj l o') := (Below.refl n0 W).grown (grownBy_putObj' W l o') (by have := lt_of_heap h; omega) (fun _ e => by cases e; omega)
  refine ⟨hb.size, fun k x hk hx _ => ?_, fun k hk => .inl (g.below hb hk)⟩
  have hne : k ≠ l := by
    rintro rfl
    rw [h] at hk
    injection hk with hk
    rw [hk, hx] at hc
    cases hc
  rw [World.putObj_heap_other hne]
  exact hk
theorem KpO.qt (g : OwnsO n0 Ow) {A B : World} (hn : n0 ≤ A.heap.size) (q : Keeps (fun _ => False) A B) : KpO Ow A B :=
  ⟨q.size, fun k _ hk _ _ => (q.block k (lt_of_heap hk) (fun e => e)).trans hk, fun _ hk => .inl (g.below ((Keeps.below q (Nat.le_refl _) (fun _ _ e => e)).mono hn) hk)⟩
/-- The body's own: a box, and the row that the slice in it shows. -/
def BoxOw (B : Nat) (W : World) (k : Nat) : Prop := k = B ∨ ∃ v, W.cell? ⟨B, 0, none⟩ = some v ∧ v.ownBlock = some k
theorem boxOw {B : Nat} (hB : B < n0) : OwnsO n0 (BoxOw B) := ⟨fun hb h => by
  rcases h with h | ⟨v, h, e⟩
  · exact .inl h
  · exact .inr ⟨v, by rw [← hb.cell (p := ⟨B, 0, none⟩) hB]; exact h, e⟩⟩
theorem boxOw_step {W W' : World} {B : Nat} {t : TypeId} {v v' : Value} (h : Boxed W B t v) (h' : Boxed W' B t v') (K : Keeps (fun k => k = B ∨ v.ownBlock = some k) W W') (hv : ∀ x, v'.ownBlock = some x → v.ownBlock = some x ∨ (W.heap.size ≤ x ∧ x < W'.heap.size)) : KpO (BoxOw B) W W' := by
  refine ⟨K.size, fun k _ hk _ hn => (K.block k (lt_of_heap hk) (fun e => hn ?_)).trans hk, fun k hk => ?_⟩
  · rcases e with e | e
    · exact .inl e
    · exact .inr ⟨v, h.cell, e⟩
  · rcases hk with hk | ⟨u, hu, e⟩
    · exact .inl (.inl hk)
    · rw [h'.cell] at hu
      injection hu with hu
      subst hu
      rcases hv k e with e | e
      · exact .inl (.inr ⟨v, h.cell, e⟩)
      · exact .inr e
end
theorem KpX.trans {X : Nat → Prop} {A B C : World} (h : KpX X A B) (k : KpX X B C) : KpX X A C := Keeps.trans h k (fun _ _ e => e)
theorem KpX.put {X : Nat → Prop} {w : World} {B : Nat} (hX : ∀ k, X k → k < B) (hw : B ≤ w.heap.size) (W : World) (l : Nat) (o o' : Obj) (hl : w.heap.size ≤ l) (_ : W.heap[l]? = some o) (_ : o.isCells = false) (_ : o.isWalk = false) : KpX X W (W.putObj l o') :=
  Keeps.grown (Keeps.refl _ W) (grownBy_putObj' _ _ _) (fun k _ e hk => by injection e with e; have := hX k hk; omega)
theorem KpX.of_qt {X : Nat → Prop} {A B : World} (h : Keeps (fun _ => False) A B) : KpX X A B := Keeps.mono h (fun _ _ e => e.elim)
theorem KpX.of_below {X : Nat → Prop} {B : Nat} {A C : World} (hX : ∀ k, X k → k < B) (h : Below B A C) : KpX X A C := (Keeps.of_below h).mono (fun k _ e hk => by have := hX k hk; omega)
theorem IterV.turn {X : Nat → Prop} {w w' : World} {fv : Value} {l : List Tb.R} (h : IterV X w fv l) (K : Keeps (fun k => ¬ X k) w w') : IterV X w' fv l := by
  obtain ⟨hX, gf, lb, e, h1, h2⟩ := h
  exact ⟨fun k hk => Nat.lt_of_lt_of_le (hX k hk) K.size, gf, lb, e, h1, fun n hn W q n0 Ow g h0 h3 => h2 n hn W (KpX.trans K q) n0 Ow g h0 h3⟩
theorem eqIn_func_nilR (d : Nat) (gf : FuncId) (lb : Array Value) (W : World) : (Op.equalIn (d + 1) 91 (.func (.func gf) #[] lb) .nilFunc).run Tryd.prog W = .ok false W := by
  simp [Op.equalIn, run_underlying Tryd.underlying91]
theorem func_nilR (gf : FuncId) (lb : Array Value) (W : World) : (binOp .eql 91 (.func (.func gf) #[] lb) .nilFunc).run Tryd.prog W = .ok (.bool false) W := by
  have h : (Op.equal 91 (.func (.func gf) #[] lb) .nilFunc).run Tryd.prog W = .ok false W := eqIn_func_nilR 9999 gf lb W
  simp only [binOp]
  simp [h]
/-! ### Boxes -/
theorem boxR_other {W : World} {B C : Nat} {t : TypeId} {v x : Value} (h : Boxed W B t v) (hne : B ≠ C) : Boxed (W.setCell ⟨C, 0, none⟩ x) B t v := by
  unfold Boxed at h ⊢
  simp only [World.setCell, Array.getElem?_modify]
  rw [if_neg (fun e => hne e.symm)]
  exact h
theorem boxR_set {W : World} {B : Nat} {t : TypeId} {v x : Value} (h : Boxed W B t v) : Boxed (W.setCell ⟨B, 0, none⟩ x) B t x := by
  unfold Boxed at h ⊢
  simp only [World.setCell, Array.getElem?_modify, h, if_true, Option.map_some]
  rfl
theorem boxR_qt {W W' : World} {B : Nat} {t : TypeId} {v : Value} (h : Boxed W B t v) (q : Qt W W') : Boxed W' B t v := (q.block B h.lt (fun e => e)).trans h
theorem boxR_put {W : World} {B D : Nat} {t : TypeId} {v : Value} {o : Obj} (h : Boxed W B t v) (hne : D ≠ B) : Boxed (W.putObj D o) B t v := by
  unfold Boxed at h ⊢
  rw [World.putObj_heap_other (fun e => hne e.symm)]
  exact h
theorem isAggRows (w : World) : (isAgg 45).run Tryd.prog w = .ok false w := run_isAgg_plain Tryd.underlying45 rfl w
theorem isAggBool (w : World) : (isAgg 4).run Tryd.prog w = .ok false w := run_isAgg_plain Tryd.underlying4 rfl w
theorem resultsR_cell2 {fn : Func} {p q : Tmp} {t u : TypeId} (h : fn.results = #[.cell p t, .cell q u]) (tmps : Array Value) (P : Program) (w : World) {a b : Addr} {x y : Value}
    (hp : tmps.getD p undef = .pointer (some a)) (hq : tmps.getD q undef = .pointer (some b)) (ht : (isAgg t).run P w = .ok false w) (hu : (isAgg u).run P w = .ok false w)
    (hx : w.cell? a = some x) (hy : w.cell? b = some y) : (results fn tmps).run P w = .ok (.tuple #[x, y]) w := by
  have hp' : tmps[p]?.getD undef = .pointer (some a) := by simpa using hp
  have hq' : tmps[q]?.getD undef = .pointer (some b) := by simpa using hq
  simp [results, h, hp', hq', asAddr, loadVar, Sem.run_bind, ht, hu, hx, hy, Result.andThen]
theorem news2 (W : World) (x y : Value) (t : TypeId) : ∀ (j : Nat) (u : Value), [x, y][j]? = some u → (W.alloc (.cells #[x, y] t)).cell? ((⟨W.heap.size, 0, none⟩ : Addr).add j) = some u := by
  intro j u h
  rw [add_plain, Nat.zero_add, cell_of_row _ _ _ _ _ _ (heap_alloc_new W (.cells #[x, y] t)), ← h]
  simp
theorem row_new0 (W : World) : (W.alloc (.cells #[] 64)).ownsRow 0 64 2 (.slice (some ⟨W.heap.size, 0, none⟩) 0 0) 0 [] :=
  ⟨rfl, .inr ⟨W.heap.size, 0, #[], rfl, Nat.zero_le _, heap_alloc_new W _, Nat.le_refl _, by decide, rfl, rfl⟩⟩
end Go.Proofs.YtffjleceogablaaDoor
