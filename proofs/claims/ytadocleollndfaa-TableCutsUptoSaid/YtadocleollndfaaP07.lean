/-
  Append of a list that came in (nil or not), of elements of any number of cells.
  For TableCuts: rows appended; what its loops keep.
  The document's own table: the contracts of place, Delete.
-/
import Derived.Test.YtadocleollndfaaP03
import Derived.Test.YtadocleollndfaaP06
import Derived.BigFrame
import Derived.Laws.Cover1
import Derived.LoopTactic
namespace Go.Proofs.Ytadocleollndfaa
open Go.RowKit Go.WideShapes
set_option maxRecDepth 100000

section
variable {P : Program} (w : World)
/-- Nothing is appended from nil. -/
theorem run_append_none (t ty e : TypeId) (i : TypeInfo) (ht : P.underlying t = some (.slice e)) (hi : P.info? e = some i) (v : Value) (n : Nat) (xs : List Value) (size : Nat) (hown : w.ownsRow 0 e size v n xs) (c : Nat) :
    (Builtin.append_ #[t, t] ty #[v, .slice none 0 c]).run P w = .ok v w := by
  rcases hown.2 with ⟨rfl, rfl⟩ | ⟨g, cap, cur, rfl, _, _, hnc, _⟩
  · simp [Builtin.append_, run_underlying ht, sizeOf, typeInfo, hi, Builtin.lenOf, Builtin.firstCells]
  · simp [Builtin.append_, run_underlying ht, sizeOf, typeInfo, hi, Builtin.lenOf, Builtin.firstCells, loadCells, hnc, storeCells]

/-- APPEND OF A LIST THAT CAME IN (nil or not). -/
theorem wpList_append_rows {ops : Array Oper} {rest : List Oper} {o : Oper} {a : Act} {Q : Exit → Act → World → Prop} (hgd : o.guard = none) (s x : Operand) (t : TypeId)
    (ho : o.op = .call { callee := .builtin .append, args := #[s, x], argTypes := #[t, t] })
    (e : TypeId) (i : TypeInfo) (z : Value) (size bytes : Nat) (ht : P.underlying t = some (.slice e)) (hi : P.info? e = some i) (hz : i.zero = some z)
    (hsize : i.size = size) (hby : i.bytes = bytes) (hzs : z.cells.size = size) (hsz : 0 < size)
    (v : Value) (n : Nat) (xs : List Value) (hs : a.eval s = v) (hown : w.ownsRow 0 e size v n xs)
    (ad : Option Addr) (m c : Nat) (news : List Value) (hx : a.eval x = .slice ad m c) (hl : news.length = m * size) (ha : news ≠ [] → ∃ p, ad = some p ∧ ∀ (j : Nat) u, news[j]? = some u → w.cell? (p.add j) = some u) (h1 : ∀ u ∈ news, u.oneCell' = true)
    (h63 : n + m ≤ maxLen) (hbytes : (n + m) * bytes ≤ 140737488355328)
    (h : ∀ v' w', w'.ownsRow 0 e size v' (n + m) (xs ++ news) → w.grownBy w' v.ownBlock → Later w v.ownBlock v'.ownBlock → wpList P ops Q rest (a.put o.dst v') w') : wpList P ops Q (o :: rest) a w := by
  cases ad with
  | some ad =>
    have hnews : ∀ j u, news[j]? = some u → w.cell? (ad.add j) = some u := fun j u hj => by
      have hne : news ≠ [] := by rintro rfl; simp at hj
      obtain ⟨p, hp, hc⟩ := ha hne
      injection hp with hp
      subst hp
      exact hc j u hj
    exact wpList_append_cells0 w hgd s x t ho e i z size bytes ht hi hz hsize hby hzs hsz v n xs hs hown ad m c news hx hl hnews h1 h63 hbytes (fun v' w' p1 p2 p3 _ => h v' w' p1 p2 p3)
  | none =>
    have hn : news = [] := by
      apply Classical.byContradiction
      intro hne
      obtain ⟨p, hp, _⟩ := ha hne
      cases hp
    subst hn
    have hm : m = 0 := by
      have : m * size = 0 := by simpa using hl.symm
      rcases Nat.mul_eq_zero.1 this with h | h
      · exact h
      · omega
    subst hm
    refine wpList_plain hgd fun K hK => ?_
    have hr := run_append_none (P := P) w t o.type e i ht hi v n xs size hown c
    unfold Oper.wp execOp
    simp only [ho, resolve, invoke, builtin, Sem.run_bind, Sem.run_pure, Result.andThen_ok, List.map_toArray, List.map_cons, List.map_nil, hs, hx, hr]
    exact hK _ _ (h v w (by simpa using hown) ⟨rfl, rfl, rfl, Nat.le_refl _, fun _ _ _ => rfl⟩ (.inl rfl))

end
end Go.Proofs.Ytadocleollndfaa
namespace Go.Proofs.Ytadocleollndfaa
open Go.RowKit Go.WideShapes
set_option maxRecDepth 100000

section
variable {P : Program} (w : World)
/-- Append of a list that came in, behind a guard that says yes. -/
theorem wpList_append_rowsW {ops : Array Oper} {rest : List Oper} {o : Oper} {a : Act} {Q : Exit → Act → World → Prop} (hw : Region.wanted o (yielded ops a.tmps) = true) (s x : Operand) (t : TypeId)
    (ho : o.op = .call { callee := .builtin .append, args := #[s, x], argTypes := #[t, t] })
    (e : TypeId) (i : TypeInfo) (z : Value) (size bytes : Nat) (ht : P.underlying t = some (.slice e)) (hi : P.info? e = some i) (hz : i.zero = some z)
    (hsize : i.size = size) (hby : i.bytes = bytes) (hzs : z.cells.size = size) (hsz : 0 < size)
    (v : Value) (n : Nat) (xs : List Value) (hs : a.eval s = v) (hown : w.ownsRow 0 e size v n xs)
    (ad : Option Addr) (m c : Nat) (news : List Value) (hx : a.eval x = .slice ad m c) (hl : news.length = m * size) (ha : news ≠ [] → ∃ p, ad = some p ∧ ∀ (j : Nat) u, news[j]? = some u → w.cell? (p.add j) = some u) (h1 : ∀ u ∈ news, u.oneCell' = true)
    (h63 : n + m ≤ maxLen) (hbytes : (n + m) * bytes ≤ 140737488355328)
    (h : ∀ v' w', w'.ownsRow 0 e size v' (n + m) (xs ++ news) → w.grownBy w' v.ownBlock → Later w v.ownBlock v'.ownBlock → wpList P ops Q rest (a.put o.dst v') w') : wpList P ops Q (o :: rest) a w := by
  cases ad with
  | some ad =>
    have hnews : ∀ j u, news[j]? = some u → w.cell? (ad.add j) = some u := fun j u hj => by
      have hne : news ≠ [] := by rintro rfl; simp at hj
      obtain ⟨p, hp, hc⟩ := ha hne
      injection hp with hp
      subst hp
      exact hc j u hj
    refine BigFrame.wpList_want hw fun K hK => ?_
    obtain ⟨v', w', hr, p1, p2, p3, _⟩ := run_append_cells0 (P := P) w t o.type e i z size bytes ht hi hz hsize hby hzs hsz v n xs hown ad m c news hl hnews h1 h63 hbytes
    unfold Oper.wp execOp
    simp only [ho, resolve, invoke, builtin, Sem.run_bind, Sem.run_pure, Result.andThen_ok, List.map_toArray, List.map_cons, List.map_nil, hs, hx, hr]
    exact hK _ _ (h v' w' p1 p2 p3)
  | none =>
    have hn : news = [] := by
      apply Classical.byContradiction
      intro hne
      obtain ⟨p, hp, _⟩ := ha hne
      cases hp
    subst hn
    have hm : m = 0 := by
      have : m * size = 0 := by simpa using hl.symm
      rcases Nat.mul_eq_zero.1 this with h | h
      · exact h
      · omega
    subst hm
    refine BigFrame.wpList_want hw fun K hK => ?_
    have hr := run_append_none (P := P) w t o.type e i ht hi v n xs size hown c
    unfold Oper.wp execOp
    simp only [ho, resolve, invoke, builtin, Sem.run_bind, Sem.run_pure, Result.andThen_ok, List.map_toArray, List.map_cons, List.map_nil, hs, hx, hr]
    exact hK _ _ (h v w (by simpa using hown) ⟨rfl, rfl, rfl, Nat.le_refl _, fun _ _ _ => rfl⟩ (.inl rfl))
end
theorem rows_flat {W : World} {v : Value} {g : Nat} {l : List Tb.R} (h : RowsIn W v g 0 l) {j : Nat} {u : Value} (hj : (rowsC l)[j]? = some u) : W.cell? ⟨g, j, none⟩ = some u := by
  have hlt : j < l.length * 2 := by have := (List.getElem?_eq_some_iff.1 hj).1; rwa [rowsC_length] at this
  have hk : l[j / 2]? = some (l[j / 2]'(by omega)) := List.getElem?_eq_getElem (by omega)
  have hc : ∀ i x, (rowC (l[j / 2]'(by omega)))[i]? = some x → j / 2 * 2 + i = j → u = x := fun i x hx e => by
    have := rowsC_get hk hx
    rw [e, hj] at this
    exact Option.some.inj this
  rcases Nat.mod_two_eq_zero_or_one j with hm | hm
  · obtain rfl := hc 0 _ rfl (by omega)
    have := (h.cell hk).1
    rwa [show 0 + j / 2 * 2 = j by omega] at this
  · obtain rfl := hc 1 _ rfl (by omega)
    have := (h.cell hk).2
    rwa [show 0 + j / 2 * 2 + 1 = j by omega] at this
theorem rows_news {W : World} {a : Option Addr} {n c g : Nat} {l : List Tb.R} (h : RowsIn W (.slice a n c) g 0 l) : rowsC l ≠ [] → ∃ p, a = some p ∧ ∀ (j : Nat) (u : Value), (rowsC l)[j]? = some u → W.cell? (p.add j) = some u := by
  intro hne
  have hl : l ≠ [] := by rintro rfl; exact hne rfl
  obtain ⟨a', cap, e, ha⟩ := h.val
  injection e with e1 e2 e3
  refine ⟨⟨g, 0, none⟩, e1.trans (ha hl), fun j u hj => ?_⟩
  rw [add_plain, Nat.zero_add]
  exact rows_flat h hj
/-- The row with rows more, all of one's own since W. -/
theorem own_more {W x y : World} {v v' : Value} {n : Nat} {l k : List Tb.R} {xs : List Value} (hv : ∀ g, v.ownBlock = some g → W.heap.size ≤ g) (q : Qt W x) (hn : n = (l ++ k).length) (hx : xs = rowsC (l ++ k))
    (own : y.ownsRow 0 36 2 v' n xs) (gr : x.grownBy y v.ownBlock) (la : Later x v.ownBlock v'.ownBlock) :
    y.ownsRow 0 36 2 v' (l ++ k).length (rowsC (l ++ k)) ∧ Qt W y ∧ (∀ g, v'.ownBlock = some g → W.heap.size ≤ g) := by
  have hz := q.size
  refine ⟨by rw [← hn, ← hx]; exact own, Keeps.grown q gr (fun j hj e => by have := hv j e.symm; omega), fun g e => ?_⟩
  rcases la with r | ⟨x', r, hx'⟩
  · exact hv g (r ▸ e)
  · rw [r] at e
    injection e with e
    subst e
    omega
theorem row_new0S (W : World) : (W.alloc (.cells #[] 36)).ownsRow 0 36 2 (.slice (some ⟨W.heap.size, 0, none⟩) 0 0) 0 (rowsC []) := row_new0 W

/-- What TableCuts' loops keep. -/
def CtAt (W : World) (n : Nat) (iv : Value) (wr : World) : Prop := ∃ k : Nat, k ≤ n ∧ iv = .int .i64 k ∧ Qt W wr
def CsAt (W : World) (l : List Tb.R) (bv iv : Value) (wr : World) : Prop := ∃ k : Nat, k ≤ l.length ∧ iv = .int .i64 k ∧ bv = .int .i64 (Tb.bytes (l.take k) : Int) ∧ Qt W wr
theorem rev_get {l : List Tb.R} {k : Nat} {r : Tb.R} (h : l[k]? = some r) : l.reverse[l.length - 1 - k]? = some r := by
  have hk := (List.getElem?_eq_some_iff.1 h).1
  rw [List.getElem?_reverse (by omega), show l.length - 1 - (l.length - 1 - k) = k by omega]
  exact h
theorem ct_in {k n : Nat} (h : k < n) : (0 : Int) ≤ (k : Int) ∧ (k : Int) < (n : Int) ∧ (0 : Int) ≤ ((n - 1 - k : Nat) : Int) ∧ ((n - 1 - k : Nat) : Int) < (n : Int) := by omega
theorem ct_lt {k C : Nat} (h : k < C) : decide ((k : Int) < (C : Int)) = true := decide_eq_true (by omega)
theorem ct_w1 {k : Nat} (h : k ≤ 140737488355328) : wrap64 ((k : Int) + 1) = (k : Int) + 1 := by unfold wrap64; omega
theorem ct_w2 {k n : Nat} (h : k < n) (hn : n ≤ 20000) : IntKind.i64.wrap ((n : Int) - 1) = ((n - 1 : Nat) : Int) ∧ IntKind.i64.wrap (((n - 1 : Nat) : Int) - (k : Int)) = ((n - 1 - k : Nat) : Int) := by
  rw [IntKind.wrap_i64, IntKind.wrap_i64]
  constructor <;> omega
theorem ct_prev {j k n : Nat} (hj : k = j + 1) (h : k < n) (hn : n ≤ 20000) : IntKind.i64.wrap ((k : Int) - 1) = (j : Int) ∧ (0 : Int) ≤ (j : Int) ∧ (j : Int) < (n : Int) := by
  rw [IntKind.wrap_i64]
  refine ⟨?_, ?_, ?_⟩ <;> omega
theorem dlenT (K : ByteArray) : K.data.toList.length = K.size := rfl
theorem ct_sum {l : List Tb.R} {k : Nat} {r : Tb.R} {a b : Nat} (h : l[k]? = some r) (h1 : r.1.length = a) (h2 : r.2.length = b) (hb : Tb.bytes l ≤ 9223372036854775807) :
    wrap64 ((a : Int) + (b : Int)) = (a : Int) + (b : Int) ∧ wrap64 ((Tb.bytes (l.take k) : Int) + ((a : Int) + (b : Int))) = (Tb.bytes (l.take (k + 1)) : Int) ∧ a + b ≤ 9223372036854775807 := by
  have e := Tb.bytes_take h
  have t := Tb.take_bytes l (k + 1)
  rw [h1, h2] at e
  unfold wrap64
  refine ⟨?_, ?_, ?_⟩ <;> omega
theorem ct_meas {k n : Nat} (h : k < n) : n - (intOf (.int .i64 ((k : Int) + 1))).toNat < n - (intOf (.int .i64 (k : Int))).toNat := by simp [intOf]; omega
end Go.Proofs.Ytadocleollndfaa
namespace Go.Proofs.Ytadocleollndfaa
open Go.RowKit Go.WideShapes
set_option maxRecDepth 100000

def PlAt (w : World) (l : List Tb.R) (k : Tb.Txt) (iv : Value) (wr : World) : Prop := ∃ i : Nat, i ≤ Tb.place l k ∧ iv = .int .i64 i ∧ Qt w wr
theorem pl_meas {k n : Nat} (h : k < n) : n - (intOf (.int .i64 ((k : Int) + 1))).toNat < n - (intOf (.int .i64 (k : Int))).toNat := by simp [intOf]; omega
theorem pl_w1 {k : Nat} (h : k ≤ 17592186044416) : wrap64 ((k : Int) + 1) = (k : Int) + 1 := by unfold wrap64; omega
set_option maxHeartbeats 1600000 in
theorem refPlace_any {v : Value} {g o : Nat} {l : List Tb.R} (k : ByteArray) (w : World) (hr : RowsIn w v g o l) :
    Calls Try.prog 35 #[.agg #[v], .string k] w fun e w' => e = .returned (.int .i64 (Tb.place l k.data.toList : Int)) ∧ Qt w w' := by
  have HR := Lib.hid hr
  have HLE := Lib.hid hr.le
  obtain ⟨a, cap, rfl, ha⟩ := hr.val
  clear hr ha
  have PB := Lib.hid (Tb.place_le l k.data.toList)
  obtain ⟨w1, hw1⟩ : ∃ W, w.alloc (.cells #[.slice a l.length cap] 42) = W := ⟨_, rfl⟩
  have Q1 := Lib.hid (show Qt w w1 from hw1 ▸ (Qt.refl w).alloc _)
  have c0 : w1.cell? ⟨w.heap.size, 0, none⟩ = some (.slice a l.length cap) := by rw [← hw1, cell_of_row _ _ _ _ _ _ (heap_alloc_new w _)]; rfl
  have START := Lib.hid (show PlAt w1 l k.data.toList (.int .i64 0) w1 from ⟨0, Nat.zero_le _, rfl, Qt.refl _⟩)
  have C0 := Lib.hid c0
  go_enter Try.func35, Try.ntmps35
  go_wp2
  clear hw1 c0
  go_loopw [5] (fun iv wr => PlAt w1 l k.data.toList iv wr) (fun iv _ => l.length - (intOf iv).toNat)
  case atStart => exact START.out
  case round =>
    obtain ⟨i, hi, rfl, q⟩ := hrel
    have c0 := q.cellv C0.out
    have HQ := Lib.hid q
    have HI := Lib.hid hi
    by_cases hlt : i < l.length
    · have zlt : decide ((i : Int) < (l.length : Int)) = true := decide_eq_true (by omega)
      have zlt' : decide (i < l.length) = true := decide_eq_true hlt
      obtain ⟨r, c1, hri, e0⟩ := HR.out.elem hlt
      injection e0 with e0 q1 q2
      clear q1 q2
      subst e0
      obtain ⟨x1, _⟩ := HR.out.cell hri
      have x1 := (Qt.trans Q1.out q).cellv x1
      obtain ⟨K, hK, hKl⟩ : ∃ K : ByteArray, strV r.1 = .string K ∧ K.data.toList = r.1 := ⟨⟨r.1.toArray⟩, rfl, rfl⟩
      rw [hK] at x1
      have k0 : (0 : Int) ≤ (i : Int) := by omega
      have k1 : (i : Int) < (l.length : Int) := by omega
      have hw1 := pl_w1 (k := i) (by have := HLE.out; omega)
      have HM := Lib.hid (pl_meas hlt)
      by_cases hp : i < Tb.place l k.data.toList
      · obtain ⟨r', hr', hlr⟩ := Tb.place_lt hp
        rw [hri] at hr'
        injection hr' with hr'
        subst hr'
        have zk : Op.bytesLess K.toList k.toList = true := by rw [ByteArray.toList_eq, ByteArray.toList_eq, hKl]; exact hlr
        have FN := Lib.hid (show PlAt w1 l k.data.toList (.int .i64 ((i : Int) + 1)) wr from ⟨i + 1, hp, by push_cast; rfl, HQ.out⟩)
        clear hK hKl hri hlr hp hlt hi q
        go_wp2
        first | exact ⟨FN.out, HM.out⟩ | (rw [hw1]; exact ⟨FN.out, HM.out⟩)
      · obtain rfl : i = Tb.place l k.data.toList := by omega
        have zk : Op.bytesLess K.toList k.toList = false := by rw [ByteArray.toList_eq, ByteArray.toList_eq, hKl]; exact Tb.place_at hri
        have FIN := Lib.hid (Qt.trans Q1.out HQ.out)
        clear hK hKl hri hp hlt hi q
        go_wp2
        go_ret
        exact ⟨rfl, FIN.out⟩
    · have hpe : Tb.place l k.data.toList = l.length := by have := PB.out; omega
      obtain rfl : i = l.length := by omega
      have zlt : decide ((l.length : Int) < (l.length : Int)) = false := decide_eq_false (by omega)
      have zlt' : decide (l.length < l.length) = false := decide_eq_false (by omega)
      have FIN := Lib.hid (Qt.trans Q1.out HQ.out)
      have HPE := Lib.hid hpe
      clear hlt hi q hpe
      go_wp2
      go_ret
      exact ⟨by rw [HPE.out]; rfl, FIN.out⟩

/-! ### Delete -/
/-- What the loop keeps: the box out in block B holds the rows that stay. -/
structure DlS (w W0 : World) (B : Nat) (l : List Tb.R) (k : Tb.Txt) (i : Nat) (v : Value) (wr : World) : Prop where
  box : Boxed wr B 42 v
  own : wr.ownsRow 0 36 2 v (Tb.del (l.take i) k).length (rowsC (Tb.del (l.take i) k))
  new : ∀ g, v.ownBlock = some g → B < g
  keep : Keeps (fun x => B ≤ x) W0 wr
def DlAt (w W0 : World) (B : Nat) (l : List Tb.R) (k : Tb.Txt) (bv iv : Value) (wr : World) : Prop :=
  ∃ (i : Nat) (v : Value), i ≤ l.length ∧ iv = .int .i64 i ∧ bv = .bool (Tb.has (l.take i) k) ∧ DlS w W0 B l k i v wr
section
variable {w W0 wr W w7 : World} {B i : Nat} {l : List Tb.R} {k : Tb.Txt} {v v' : Value} {r : Tb.R}
theorem DlS.qt (h : DlS w W0 B l k i v wr) (q : Qt wr W) : DlS w W0 B l k i v W :=
  ⟨boxR_qt h.box q, ownsRow_kept h.own q (fun _ _ e => e), h.new, Keeps.trans h.keep q (fun _ _ e => e.elim)⟩
theorem DlS.skip (h : DlS w W0 B l k i v wr) (hr : l[i]? = some r) (he : r.1 = k) : DlS w W0 B l k (i + 1) v wr := by
  have e : Tb.del (l.take (i + 1)) k = Tb.del (l.take i) k := by rw [List.take_add_one, hr]; show Tb.del (l.take i ++ [r]) k = _; rw [Tb.del_snoc, if_pos he]
  exact ⟨h.box, by rw [e]; exact h.own, h.new, h.keep⟩
theorem DlS.push {o : Obj} (h : DlS w W0 B l k i v wr) (hB : B < wr.heap.size) (hr : l[i]? = some r) (he : r.1 ≠ k)
    (own : w7.ownsRow 0 36 2 v' ((Tb.del (l.take i) k).length + 1) (rowsC (Tb.del (l.take i) k) ++ [strV r.1, strV r.2])) (gr : (wr.alloc o).grownBy w7 v.ownBlock) (la : Later (wr.alloc o) v.ownBlock v'.ownBlock) :
    Boxed w7 B 42 v ∧ DlS w W0 B l k (i + 1) v' (w7.setCell ⟨B, 0, none⟩ v') := by
  have hz : wr.heap.size ≤ (wr.alloc o).heap.size := by simp
  have e : Tb.del (l.take (i + 1)) k = Tb.del (l.take i) k ++ [r] := by rw [List.take_add_one, hr]; show Tb.del (l.take i ++ [r]) k = _; rw [Tb.del_snoc, if_neg he]
  have hn : ∀ g, v'.ownBlock = some g → B < g := fun g eg => by
    rcases la with q | ⟨x, q, hx⟩
    · exact h.new g (q ▸ eg)
    · rw [q] at eg; injection eg with eg; subst eg; omega
  have K7 : Keeps (fun x => v.ownBlock = some x) wr w7 := Keeps.grown ((Keeps.refl _ wr).alloc o) gr (fun j _ ej => ej.symm)
  have b7 : Boxed w7 B 42 v := (K7.block B hB (fun eb => by have := h.new B eb; omega)).trans h.box
  have K8 : Keeps (fun x => x = B) w7 (w7.setCell ⟨B, 0, none⟩ v') := Keeps.setCell (p := ⟨B, 0, none⟩) (Keeps.refl (fun x => x = B) w7) (fun _ => rfl) v'
  refine ⟨b7, boxR_set b7, ?_, hn, Keeps.trans (Keeps.trans h.keep K7 (fun j _ ej => Nat.le_of_lt (h.new j ej))) K8 (fun j _ ej => by omega)⟩
  rw [e, List.length_append, List.length_singleton, rowsC_append, rowsC_one]
  exact ownsRow_kept own K8 (fun g hg eg => by have := hn g hg; omega)
end
theorem resultsT {fn : Func} {p u : Tmp} (h : fn.results = #[.cell p 42, .tmp u]) (tmps : Array Value) (w : World) (g : Nat) (v : Value) (hp : tmps.getD p undef = .pointer (some ⟨g, 0, none⟩)) (hb : Boxed w g 42 v) :
    (results fn tmps).run Try.prog w = .ok (.tuple #[.agg #[v], tmps.getD u undef]) w := by
  have h1 := run_loadVar_row (P := Try.prog) w g 42 42 #[v] (0, 0) _ hb Try.underlying42 rfl (by kernel_rfl)
  rw [results_cell_tmp h, hp]
  simp [asAddr, h1, Result.andThen]
set_option maxHeartbeats 3200000 in
theorem refDelete_any {v : Value} {g o : Nat} {l : List Tb.R} (k : ByteArray) (w : World) (hr : RowsIn w v g o l) (hl : l.length ≤ 1048576) :
    Calls Try.prog 34 #[.agg #[v], .string k] w fun e w' => ∃ v', e = .returned (.tuple #[.agg #[v'], .bool (Tb.has l k.data.toList)]) ∧ NewR w w' v' (Tb.del l k.data.toList) := by
  have HR := Lib.hid hr
  have HL := Lib.hid hl
  obtain ⟨a, cap, rfl, ha⟩ := hr.val
  clear hr ha hl
  obtain ⟨i0, hi0, hz0, hz1, hz2⟩ := info_parts infoRow
  obtain ⟨W0, hW0⟩ : ∃ W, ((w.alloc (.cells #[.slice a l.length cap] 42)).alloc (.cells #[.slice none 0 0] 42)).alloc (.cells #[.slice none 0 0] 42) = W := ⟨_, rfl⟩
  have Q0 := Lib.hid (show Qt w W0 from hW0 ▸ (((Qt.refl w).alloc _).alloc _).alloc _)
  have ZS := Lib.hid (show W0.heap.size = w.heap.size + 3 from by rw [← hW0]; simp)
  have BV := Lib.hid (show Boxed W0 w.heap.size 42 (.slice a l.length cap) from hW0 ▸ ((Boxed.new w 42 (.slice a l.length cap)).alloc _).alloc _)
  have BR := Lib.hid (show Boxed W0 (w.heap.size + 1) 42 (.slice none 0 0) from by
    have h := Boxed.new (w.alloc (.cells #[.slice a l.length cap] 42)) 42 (.slice none 0 0)
    rw [World.size_alloc] at h
    exact hW0 ▸ h.alloc _)
  have BO : Boxed W0 (w.heap.size + 2) 42 (.slice none 0 0) := by
    have h := Boxed.new ((w.alloc (.cells #[.slice a l.length cap] 42)).alloc (.cells #[.slice none 0 0] 42)) 42 (.slice none 0 0)
    rw [World.size_alloc, World.size_alloc] at h
    exact hW0 ▸ h
  have START := Lib.hid (show DlAt w W0 (w.heap.size + 2) l k.data.toList (.bool false) (.int .i64 0) W0 from ⟨0, _, Nat.zero_le _, rfl, rfl, ⟨BO, World.ownsRow_nil W0 0 _ 2, fun g hg => (by cases hg), Keeps.refl _ _⟩⟩)
  have HW0 := Lib.hid hW0
  clear BO hW0
  go_enter Try.func34, Try.ntmps34
  go_wp2
  rw [HW0.out, show w.heap.size + 1 + 1 = w.heap.size + 2 from rfl]
  clear HW0
  go_loopw [7, 14] (fun bv iv wr => DlAt w W0 (w.heap.size + 2) l k.data.toList bv iv wr) (fun _ iv _ => l.length - (intOf iv).toNat)
  case atStart => exact START.out
  case round =>
    obtain ⟨i, v', hi, rfl, rfl, hS⟩ := hrel
    have HS := Lib.hid hS
    have HI := Lib.hid hi
    have QW := Lib.hid (show Qt w wr from Keeps.trans Q0.out hS.keep (fun j hj e => by have := ZS.out; omega))
    by_cases hlt : i < l.length
    · have zlt : decide ((i : Int) < (l.length : Int)) = true := decide_eq_true (by omega)
      have zlt' : decide (i < l.length) = true := decide_eq_true hlt
      obtain ⟨r, c1, hri, e0⟩ := HR.out.elem hlt
      injection e0 with e0 q1 q2
      clear q1 q2
      subst e0
      obtain ⟨x1, x2⟩ := HR.out.cell hri
      have x1 := QW.out.cellv x1
      have x2 := QW.out.cellv x2
      obtain ⟨K, hK, hKl⟩ : ∃ K : ByteArray, strV r.1 = .string K ∧ K.data.toList = r.1 := ⟨⟨r.1.toArray⟩, rfl, rfl⟩
      obtain ⟨V, hV⟩ : ∃ V : ByteArray, strV r.2 = .string V := ⟨⟨r.2.toArray⟩, rfl⟩
      rw [hK] at x1
      rw [hV] at x2
      have k0 : (0 : Int) ≤ (i : Int) := by omega
      have k1 : (i : Int) < (l.length : Int) := by omega
      have hw1 := pl_w1 (k := i) (by have := HL.out; omega)
      have HM := Lib.hid (pl_meas hlt)
      have HT := Lib.hid (show l.take (i + 1) = l.take i ++ [r] by rw [List.take_add_one, hri]; rfl)
      obtain ⟨wb, hwb⟩ : ∃ W, wr.alloc (.cells #[.string K, .string V] 36) = W := ⟨_, rfl⟩
      have qb : Qt wr wb := hwb ▸ (Qt.refl wr).alloc _
      have SB := Lib.hid (hS.qt qb)
      have c1 : wb.cell? ⟨wr.heap.size, 0, none⟩ = some (.string K) := by rw [← hwb, cell_of_row _ _ _ _ _ _ (heap_alloc_new wr _)]; rfl
      have c2 : wb.cell? ⟨wr.heap.size, 1, none⟩ = some (.string V) := by rw [← hwb, cell_of_row _ _ _ _ _ _ (heap_alloc_new wr _)]; rfl
      have ZB := Lib.hid (show w.heap.size + 2 < wb.heap.size from by have := hS.keep.size; have := qb.size; have := ZS.out; omega)
      have HRI := Lib.hid hri
      have HLT := Lib.hid hlt
      by_cases he : r.1 = k.data.toList
      · have zk : (K.toList == k.toList) = true := by rw [beq_iff_eq, ByteArray.toList_eq, ByteArray.toList_eq, hKl]; exact he
        have FN := Lib.hid (show DlAt w W0 (w.heap.size + 2) l k.data.toList (.bool true) (.int .i64 ((i : Int) + 1)) wb from ⟨i + 1, v', HLT.out, by push_cast; rfl, by rw [HT.out, Tb.has_snoc, he]; simp, SB.out.skip HRI.out he⟩)
        clear hK hKl hV hri he hlt hi hS qb
        go_wp2
        first | exact ⟨FN.out, HM.out⟩ | (rw [hw1]; exact ⟨FN.out, HM.out⟩)
      · have zk : (K.toList == k.toList) = false := by rw [beq_eq_false_iff_ne, ByteArray.toList_eq, ByteArray.toList_eq, hKl]; exact he
        have HE := Lib.hid he
        have HKV := Lib.hid (show [strV r.1, strV r.2] = [.string K, .string V] by rw [hK, hV])
        have HH := Lib.hid (show Tb.has (l.take (i + 1)) k.data.toList = Tb.has (l.take i) k.data.toList by rw [HT.out, Tb.has_snoc]; simp [he])
        have c3 := SB.out.box.cell
        have f3 := SB.out.box.frozen
        obtain ⟨va, vc, rfl⟩ := ownR_shape SB.out.own
        have DB := Lib.hid (show (Tb.del (l.take i) k.data.toList).length ≤ 1048576 from by
          have h1 := List.length_filter_le (fun r => r.1 != k.data.toList) (l.take i)
          have h2 := List.length_take_le i l
          have := HL.out
          have := HLT.out
          unfold Tb.del
          omega)
        generalize hn : (Tb.del (l.take i) k.data.toList).length = n at *
        have hb1 : n + 1 ≤ maxLen := by have := DB.out; unfold maxLen; omega
        have hb2 : (n + 1) * 32 ≤ 140737488355328 := by have := DB.out; omega
        have HN := Lib.hid hn
        have OW := Lib.hid (fun o => (show (wb.alloc o).ownsRow 0 36 2 (.slice va n vc) n (rowsC (Tb.del (l.take i) k.data.toList)) from by
          have h := SB.out.own
          rw [HN.out] at h
          exact ownsRow_kept h ((Keeps.refl (fun _ => False) wb).alloc o) (fun _ _ e => e)))
        clear hK hKl hV hri he hlt hi hS qb hn
        go_wp2_with (at_builtin; refine wpList_append_rows _ rfl _ _ 22 rfl 36 i0 (.agg #[.string ⟨#[]⟩, .string ⟨#[]⟩]) 2 32 Try.underlying22 hi0 hz0 hz1 hz2 rfl (by decide) _ n (rowsC (Tb.del (l.take i) k.data.toList)) rfl (OW.out _) (some ⟨wb.heap.size, 0, none⟩) 1 1 [.string K, .string V] rfl rfl (fun _ => ⟨_, rfl, news2 _ _ _ _⟩) (by intro y hy; simp at hy; rcases hy with rfl | rfl <;> rfl) hb1 hb2 ?_)
        intro v2 w7 own7 gr7 la7
        obtain ⟨b7, s7⟩ := DlS.push SB.out ZB.out HRI.out HE.out (by rw [HN.out, HKV.out]; exact own7) gr7 la7
        obtain ⟨g2, c2', rfl⟩ := ownsRow_succ own7
        have c7 := b7.cell
        have f7 := b7.frozen
        have FN := Lib.hid (show DlAt w W0 (w.heap.size + 2) l k.data.toList (.bool (Tb.has (l.take i) k.data.toList)) (.int .i64 ((i : Int) + 1)) _ from ⟨i + 1, _, HLT.out, by push_cast; rfl, by rw [HH.out], s7⟩)
        clear b7 s7 own7 gr7 la7 c3 f3 c1 c2 hb1 hb2
        go_wp2
        first | exact ⟨FN.out, HM.out⟩ | (rw [hw1]; exact ⟨FN.out, HM.out⟩)
    · obtain rfl : i = l.length := by omega
      have zlt : decide ((l.length : Int) < (l.length : Int)) = false := decide_eq_false (by omega)
      have zlt' : decide (l.length < l.length) = false := decide_eq_false (by omega)
      have c3 := hS.box.cell
      have br : Boxed wr (w.heap.size + 1) 42 (.slice none 0 0) := (hS.keep.block _ (by have := ZS.out; omega) (by omega)).trans BR.out
      have cr := br.cell
      have fr := br.frozen
      have BRR := Lib.hid br
      have HTL := Lib.hid (show l.take l.length = l from List.take_length)
      clear hi hS hlt br
      rw [HTL.out]
      obtain ⟨va, vc, rfl⟩ := ownR_shape HS.out.own
      go_wp2
      refine bodyPost_ret (resultsT (p := 4) (u := 5) (by kernel_rfl) _ _ (w.heap.size + 1) _ rfl (boxR_set BRR.out)) rfl ⟨_, rfl, ?_⟩
      have hown := HS.out.own
      have hnew := HS.out.new
      rw [HTL.out] at hown hnew
      exact ⟨ownsRow_kept hown (Keeps.setCell (p := ⟨w.heap.size + 1, 0, none⟩) (Keeps.refl (fun x => x = w.heap.size + 1) wr) (fun _ => rfl) _) (fun g hg e => by have := hnew g hg; omega), fun g hg => by have := hnew g hg; omega, Keeps.setCell (p := ⟨w.heap.size + 1, 0, none⟩) QW.out (fun h => by simp only at h; omega) _⟩
end Go.Proofs.Ytadocleollndfaa
