/-
  Layer 11, plain: a tree of rows: its rows in order, what is put in, taken out and gone over at a node.
  The landed table's tree in memory: a node's cells; how many rows; a new node.
  The landed table's tree: a new node over two trees; turned over where one of them is too heavy.
-/
import Derived.Test.YtadocleollndfaaP01
import Derived.Test.YtadocleollndfaaP04
import Derived.Deep.RegionHeld3
namespace Go.Proofs.Ytadocleollndfaa.Tb
set_option maxRecDepth 100000

inductive Tr where
  | leaf
  | node (l : Tr) (r : R) (t : Tr)
def Tr.list : Tr → List R
  | .leaf => []
  | .node l r t => l.list ++ r :: t.list

section
variable {a b : List R} {r : R} {k v : Txt}
theorem sorted_mid : Sorted (a ++ r :: b) ↔ Sorted a ∧ Sorted b ∧ (∀ x ∈ a, lt x.1 r.1 = true) ∧ (∀ x ∈ b, lt r.1 x.1 = true) := by
  unfold Sorted
  rw [List.pairwise_append, List.pairwise_cons]
  constructor
  · rintro ⟨h1, ⟨h2, h3⟩, h4⟩
    exact ⟨h1, h3, fun x hx => h4 x hx r (by simp), h2⟩
  · rintro ⟨h1, h2, h3, h4⟩
    refine ⟨h1, ⟨h4, h2⟩, fun x hx y hy => ?_⟩
    rcases List.mem_cons.1 hy with rfl | hy
    · exact h3 x hx
    · exact lt_trans (h3 x hx) (h4 y hy)
theorem sorted_left (h : Sorted (a ++ r :: b)) : Sorted a := (sorted_mid.1 h).1
theorem sorted_right (h : Sorted (a ++ r :: b)) : Sorted b := (sorted_mid.1 h).2.1

/-! ### Get -/
theorem get_left (h : Sorted (a ++ r :: b)) (hk : lt k r.1 = true) : get (a ++ r :: b) k = get a k := by
  obtain ⟨h1, h2, h3, h4⟩ := sorted_mid.1 h
  cases e : get a k with
  | some u => exact (get_some h).2 (List.mem_append_left _ ((get_some h1).1 e))
  | none =>
    refine get_none.2 fun x hx => ?_
    rcases List.mem_append.1 hx with hx | hx
    · exact get_none.1 e x hx
    · rcases List.mem_cons.1 hx with rfl | hx
      · exact fun e => lt_ne hk e.symm
      · exact fun e => lt_ne (lt_trans hk (h4 x hx)) e.symm
theorem get_right (h : Sorted (a ++ r :: b)) (hk : lt r.1 k = true) : get (a ++ r :: b) k = get b k := by
  obtain ⟨h1, h2, h3, h4⟩ := sorted_mid.1 h
  cases e : get b k with
  | some u => exact (get_some h).2 (List.mem_append_right _ (List.mem_cons_of_mem _ ((get_some h2).1 e)))
  | none =>
    refine get_none.2 fun x hx => ?_
    rcases List.mem_append.1 hx with hx | hx
    · exact lt_ne (lt_trans (h3 x hx) hk)
    · rcases List.mem_cons.1 hx with rfl | hx
      · exact lt_ne hk
      · exact get_none.1 e x hx
theorem get_mid (h : Sorted (a ++ r :: b)) : get (a ++ r :: b) r.1 = some r.2 := (get_some h).2 (by simp)

/-! ### Put -/
theorem put_left (h : Sorted (a ++ r :: b)) (hk : lt k r.1 = true) : put (a ++ r :: b) k v = put a k v ++ r :: b := by
  obtain ⟨h1, h2, h3, h4⟩ := sorted_mid.1 h
  refine sorted_ext (put_sorted h _ _) (sorted_mid.2 ⟨put_sorted h1 _ _, h2, fun x hx => ?_, h4⟩) fun x => ?_
  · rcases put_mem.1 hx with rfl | ⟨hx, _⟩
    · exact hk
    · exact h3 x hx
  · rw [put_mem, List.mem_append, List.mem_append, put_mem, List.mem_cons]
    constructor
    · rintro (e | ⟨e | e | e, hn⟩)
      · exact .inl (.inl e)
      · exact .inl (.inr ⟨e, hn⟩)
      · exact .inr (.inl e)
      · exact .inr (.inr e)
    · rintro ((e | ⟨e, hn⟩) | e | e)
      · exact .inl e
      · exact .inr ⟨.inl e, hn⟩
      · exact .inr ⟨.inr (.inl e), fun c => lt_ne hk (by rw [e] at c; exact c.symm)⟩
      · exact .inr ⟨.inr (.inr e), fun c => lt_ne (lt_trans hk (h4 x e)) c.symm⟩
theorem put_right (h : Sorted (a ++ r :: b)) (hk : lt r.1 k = true) : put (a ++ r :: b) k v = a ++ r :: put b k v := by
  obtain ⟨h1, h2, h3, h4⟩ := sorted_mid.1 h
  refine sorted_ext (put_sorted h _ _) (sorted_mid.2 ⟨h1, put_sorted h2 _ _, h3, fun x hx => ?_⟩) fun x => ?_
  · rcases put_mem.1 hx with rfl | ⟨hx, _⟩
    · exact hk
    · exact h4 x hx
  · rw [put_mem, List.mem_append, List.mem_append, List.mem_cons, List.mem_cons, put_mem]
    constructor
    · rintro (e | ⟨e | e | e, hn⟩)
      · exact .inr (.inr (.inl e))
      · exact .inl e
      · exact .inr (.inl e)
      · exact .inr (.inr (.inr ⟨e, hn⟩))
    · rintro (e | e | e | ⟨e, hn⟩)
      · exact .inr ⟨.inl e, lt_ne (lt_trans (h3 x e) hk)⟩
      · exact .inr ⟨.inr (.inl e), fun c => lt_ne hk (by rw [e] at c; exact c)⟩
      · exact .inl e
      · exact .inr ⟨.inr (.inr e), hn⟩
theorem put_mid (h : Sorted (a ++ r :: b)) : put (a ++ r :: b) r.1 v = a ++ (r.1, v) :: b := by
  obtain ⟨h1, h2, h3, h4⟩ := sorted_mid.1 h
  refine sorted_ext (put_sorted h _ _) (sorted_mid.2 ⟨h1, h2, h3, h4⟩) fun x => ?_
  rw [put_mem, List.mem_append, List.mem_append, List.mem_cons, List.mem_cons]
  constructor
  · rintro (e | ⟨e | e | e, hn⟩)
    · exact .inr (.inl e)
    · exact .inl e
    · exact absurd (by rw [e]) hn
    · exact .inr (.inr e)
  · rintro (e | e | e)
    · exact .inr ⟨.inl e, lt_ne (h3 x e)⟩
    · exact .inl e
    · exact .inr ⟨.inr (.inr e), fun c => lt_ne (h4 x e) c.symm⟩

/-! ### Delete -/
theorem del_none {l : List R} (h : ∀ x ∈ l, x.1 ≠ k) : del l k = l := List.filter_eq_self.2 (fun x hx => by simpa using h x hx)
theorem del_left (h : Sorted (a ++ r :: b)) (hk : lt k r.1 = true) : del (a ++ r :: b) k = del a k ++ r :: b := by
  obtain ⟨h1, h2, h3, h4⟩ := sorted_mid.1 h
  have e1 : del (r :: b) k = r :: b := del_none fun x hx => by
    rcases List.mem_cons.1 hx with rfl | hx
    · exact fun e => lt_ne hk e.symm
    · exact fun e => lt_ne (lt_trans hk (h4 x hx)) e.symm
  unfold del at *
  rw [List.filter_append, e1]
theorem del_right (h : Sorted (a ++ r :: b)) (hk : lt r.1 k = true) : del (a ++ r :: b) k = a ++ r :: del b k := by
  obtain ⟨h1, h2, h3, h4⟩ := sorted_mid.1 h
  have e1 : del a k = a := del_none fun x hx => lt_ne (lt_trans (h3 x hx) hk)
  unfold del at *
  rw [List.filter_append, e1, List.filter_cons_of_pos (by simpa using lt_ne hk)]
theorem del_mid (h : Sorted (a ++ r :: b)) : del (a ++ r :: b) r.1 = a ++ b := by
  obtain ⟨h1, h2, h3, h4⟩ := sorted_mid.1 h
  have e1 : del a r.1 = a := del_none fun x hx => lt_ne (h3 x hx)
  have e2 : del b r.1 = b := del_none fun x hx => fun e => lt_ne (h4 x hx) e.symm
  unfold del at *
  rw [List.filter_append, e1, List.filter_cons_of_neg (by simp), e2]
theorem del_first (h : Sorted (r :: b)) : del (r :: b) r.1 = b := del_mid (a := []) h

/-! ### Bytes -/
theorem del_sum {l : List R} (h : Sorted l) (hg : get l k = some v) : bytes (del l k) + (k.length + v.length) = bytes l := by
  obtain ⟨a, b, rfl⟩ := List.append_of_mem ((get_some h).1 hg)
  rw [del_mid (r := (k, v)) h, bytes_append, bytes_append, bytes_cons]
  simp only
  omega
theorem del_same {l : List R} (hg : get l k = none) : del l k = l := del_none (get_none.1 hg)
theorem put_sum (l : List R) : bytes (put l k v) = bytes (del l k) + (k.length + v.length) := by
  unfold put
  rw [ins_bytes]
  simp only
  omega
/-- A table's bytes behind Put, reckoned as the call does. -/
theorem put_some {l : List R} {u : Txt} (h : Sorted l) (hg : get l k = some u) : (bytes l : Int) - ((k.length : Int) + u.length) + ((k.length : Int) + v.length) = (bytes (put l k v) : Int) := by
  have h1 := del_sum h hg
  have h2 := put_sum (v := v) (k := k) l
  omega
theorem put_new {l : List R} (hg : get l k = none) : (bytes l : Int) + ((k.length : Int) + v.length) = (bytes (put l k v) : Int) := by
  have h1 := del_same hg
  have h2 := put_sum (v := v) (k := k) l
  rw [h1] at h2
  omega

/-! ### A span of keys -/
def inSpan (lo hi : Txt) (ends : Bool) (r : R) : Bool := !lt r.1 lo && !(ends && !lt r.1 hi)
def sel (lo hi : Txt) (ends : Bool) (l : List R) : List R := l.filter (inSpan lo hi ends)
theorem sel_range (l : List R) (lo hi : Txt) : sel lo hi true l = rangeL l lo hi := by
  unfold sel rangeL fromL
  rw [List.filter_filter]
  refine List.filter_congr fun x _ => ?_
  unfold inSpan
  cases lt x.1 lo <;> cases lt x.1 hi <;> rfl
theorem sel_from (l : List R) (lo hi : Txt) : sel lo hi false l = fromL l lo := by
  unfold sel fromL
  refine List.filter_congr fun x _ => ?_
  unfold inSpan
  cases lt x.1 lo <;> rfl
variable {lo hi : Txt} {ends : Bool}
theorem sel_nil : sel lo hi ends [] = [] := rfl
theorem sel_low (h : Sorted (a ++ r :: b)) (hr : lt r.1 lo = true) : sel lo hi ends (a ++ r :: b) = sel lo hi ends b := by
  obtain ⟨h1, h2, h3, h4⟩ := sorted_mid.1 h
  have e1 : sel lo hi ends a = [] := List.filter_eq_nil_iff.2 fun x hx => by simp [inSpan, lt_trans (h3 x hx) hr]
  unfold sel at *
  rw [List.filter_append, e1, List.filter_cons_of_neg (by simp [inSpan, hr])]
  rfl
theorem sel_high (h : Sorted (a ++ r :: b)) (he : ends = true) (hr : lt r.1 hi = false) : sel lo hi ends (a ++ r :: b) = sel lo hi ends a := by
  obtain ⟨h1, h2, h3, h4⟩ := sorted_mid.1 h
  have e1 : sel lo hi ends b = [] := List.filter_eq_nil_iff.2 fun x hx => by
    have : lt x.1 hi = false := by
      cases e : lt x.1 hi with
      | false => rfl
      | true => rw [lt_trans (h4 x hx) e] at hr; cases hr
    simp [inSpan, this, he]
  unfold sel at *
  rw [List.filter_append, List.filter_cons_of_neg (by simp [inSpan, hr, he]), e1, List.append_nil]
theorem sel_mid (h1 : lt r.1 lo = false) (h2 : (ends && !lt r.1 hi) = false) : sel lo hi ends (a ++ r :: b) = sel lo hi ends a ++ r :: sel lo hi ends b := by
  unfold sel
  rw [List.filter_append, List.filter_cons_of_pos (by unfold inSpan; rw [h1, h2]; rfl)]
end
end Go.Proofs.Ytadocleollndfaa.Tb
namespace Go.Proofs.Ytadocleollndfaa
open Go.RowKit Go.WideShapes
set_option maxRecDepth 100000

/-- The heap holds the tree T at p, in blocks of X. -/
def IsT (X : Nat → Prop) (W : World) : Option Addr → Tb.Tr → Prop
  | p, .leaf => p = none
  | p, .node l r t => ∃ (b : Nat) (pl pr : Option Addr), p = some ⟨b, 0, none⟩ ∧ X b ∧ W.cell? ⟨b, 0, none⟩ = some (strV r.1) ∧ W.cell? ⟨b, 1, none⟩ = some (strV r.2) ∧ W.cell? ⟨b, 2, none⟩ = some (.pointer pl) ∧ W.cell? ⟨b, 3, none⟩ = some (.pointer pr) ∧ W.cell? ⟨b, 4, none⟩ = some (.int .i64 ((l.list.length + (t.list.length + 1) : Nat) : Int)) ∧ IsT X W pl l ∧ IsT X W pr t
theorem IsT.more {X Y : Nat → Prop} {W : World} (h : ∀ k, k < W.heap.size → X k → Y k) : ∀ {p : Option Addr} {T : Tb.Tr}, IsT X W p T → IsT Y W p T
  | _, .leaf, ht => ht
  | _, .node _ _ _, ⟨b, pl, pr, hp, hb, c0, c1, c2, c3, c4, hl, hr⟩ => ⟨b, pl, pr, hp, h b (World.block_lt_of_cell? W _ c0) hb, c0, c1, c2, c3, c4, IsT.more h hl, IsT.more h hr⟩
theorem IsT.kept {X K : Nat → Prop} {W W' : World} (h : Keeps K W W') (hK : ∀ k, X k → ¬ K k) : ∀ {p : Option Addr} {T : Tb.Tr}, IsT X W p T → IsT X W' p T
  | _, .leaf, ht => ht
  | _, .node _ _ _, ⟨b, pl, pr, hp, hb, c0, c1, c2, c3, c4, hl, hr⟩ => ⟨b, pl, pr, hp, hb, h.cellv c0 (hK b hb), h.cellv c1 (hK b hb), h.cellv c2 (hK b hb), h.cellv c3 (hK b hb), h.cellv c4 (hK b hb), IsT.kept h hK hl, IsT.kept h hK hr⟩
theorem IsT.qt {X : Nat → Prop} {W W' : World} (q : Qt W W') {p : Option Addr} {T : Tb.Tr} (h : IsT X W p T) : IsT X W' p T := h.kept q (fun _ _ e => e)
theorem IsT.lt {X : Nat → Prop} {W : World} {p : Option Addr} {T : Tb.Tr} (h : IsT X W p T) : IsT (fun k => X k ∧ k < W.heap.size) W p T := h.more (fun _ hk x => ⟨x, hk⟩)
/-- Nothing is nil, where there is a row. -/
theorem IsT.of_none {X : Nat → Prop} {W : World} : ∀ {T : Tb.Tr}, IsT X W none T → T = .leaf
  | .leaf, _ => rfl
  | .node _ _ _, ⟨_, _, _, e, _⟩ => by cases e
theorem IsT.of_some {X : Nat → Prop} {W : World} {a : Addr} : ∀ {T : Tb.Tr}, IsT X W (some a) T → ∃ (l : Tb.Tr) (r : Tb.R) (t : Tb.Tr) (b : Nat), T = .node l r t ∧ a = ⟨b, 0, none⟩
  | .leaf, e => by cases e
  | .node l r t, ⟨b, _, _, e, _⟩ => ⟨l, r, t, b, rfl, Option.some.inj e⟩

set_option maxHeartbeats 400000 in
theorem count_any {X : Nat → Prop} {W : World} {p : Option Addr} {T : Tb.Tr} (h : IsT X W p T) : Calls Try.prog 22 #[.pointer p] W fun e w' => e = .returned (.int .i64 (T.list.length : Int)) ∧ w' = W := by
  cases T with
  | leaf =>
    obtain rfl : p = none := h
    go_enter Try.func22, Try.ntmps22
    go_wp2
    go_ret
    exact ⟨rfl, rfl⟩
  | node l r t =>
    obtain ⟨b, pl, pr, rfl, _, _, _, _, _, c4, _, _⟩ := h
    rw [show (Tb.Tr.node l r t).list.length = l.list.length + (t.list.length + 1) by rw [Tb.Tr.list, List.length_append, List.length_cons]]
    generalize l.list.length + (t.list.length + 1) = n at *
    go_enter Try.func22, Try.ntmps22
    go_wp2
    go_ret
    exact ⟨rfl, rfl⟩
set_option maxHeartbeats 400000 in
theorem weight_any {X : Nat → Prop} {W : World} {p : Option Addr} {T : Tb.Tr} (h : IsT X W p T) (hb : T.list.length ≤ 17592186044416) : Calls Try.prog 41 #[.pointer p] W fun e w' => e = .returned (.int .i64 ((T.list.length : Int) + 1)) ∧ w' = W := by
  have CN := count_any h
  generalize T.list.length = n at *
  have lo : (0 : Int) ≤ (n : Int) + 1 := by omega
  have hi : (n : Int) + 1 ≤ 9223372036854775807 := by omega
  go_enter Try.func41, Try.ntmps41
  go_wp2_with (go_at_call 22; refine CN.mono ?_; rintro e w' ⟨rfl, rfl⟩)
  go_ret
  exact ⟨rfl, rfl⟩
/-- A node's two cells that a call reads of its receiver. -/
structure NodeR (W : World) (b : Nat) (r : Tb.R) : Prop where
  key : W.cell? ⟨b, 0, none⟩ = some (strV r.1)
  value : W.cell? ⟨b, 1, none⟩ = some (strV r.2)
theorem NodeR.qt {W W' : World} {b : Nat} {r : Tb.R} (h : NodeR W b r) (q : Qt W W') : NodeR W' b r := ⟨q.cellv h.key, q.cellv h.value⟩
end Go.Proofs.Ytadocleollndfaa
namespace Go.Proofs.Ytadocleollndfaa
open Go.RowKit Go.WideShapes
set_option maxRecDepth 100000

theorem node_cells {W W1 : World} {c : Array Value} (h : W1 = W.alloc (.cells c 60)) {k : Nat} {v : Value} (hv : c[k]? = some v) : W1.cell? ⟨W.heap.size, k, none⟩ = some v := by
  rw [h, cell_of_row _ _ _ _ _ _ (heap_alloc_new W _)]
  exact hv
theorem wrapI {x : Int} (h1 : -9223372036854775808 ≤ x) (h2 : x ≤ 9223372036854775807) : IntKind.i64.wrap x = x := by
  rw [IntKind.wrap_i64]
  omega
/-- What a call that makes a tree gives: the rows of T, or the tree itself. -/
def Made (X : Nat → Prop) (W : World) (l : List Tb.R) (e : Ending) (W' : World) : Prop := ∃ (p : Option Addr) (T : Tb.Tr), e = .returned (.pointer p) ∧ T.list = l ∧ IsT X W' p T ∧ Qt W W'

set_option maxHeartbeats 1600000 in
theorem between_any {X : Nat → Prop} {W : World} {nb : Nat} {r : Tb.R} {pl pr : Option Addr} {L R : Tb.Tr} (hn : NodeR W nb r) (hl : IsT X W pl L) (hr : IsT X W pr R) (hb : L.list.length + (R.list.length + 1) ≤ 17592186044416) (hX : ∀ k, W.heap.size ≤ k → X k) :
    Calls Try.prog 44 #[.pointer (some ⟨nb, 0, none⟩), .pointer pl, .pointer pr] W fun e W' => ∃ p, e = .returned (.pointer p) ∧ IsT X W' p (.node L r R) ∧ Qt W W' := by
  have c0 := hn.key
  have c1 := hn.value
  have CN := Lib.hid (fun (n : Nat) => (count_any (hr.qt (Keeps.drewN (Qt.refl W) n))))
  have WT := Lib.hid (fun (n : Nat) => (weight_any (hl.qt (Keeps.drewN (Qt.refl W) n)) (by omega)))
  obtain ⟨K, hK⟩ : ∃ K : ByteArray, strV r.1 = .string K := ⟨_, rfl⟩
  obtain ⟨V, hV⟩ : ∃ V : ByteArray, strV r.2 = .string V := ⟨_, rfl⟩
  rw [hK] at c0
  rw [hV] at c1
  have ws := Lib.hid (show IntKind.i64.wrap ((L.list.length : Int) + 1 + (R.list.length : Int)) = ((L.list.length + (R.list.length + 1) : Nat) : Int) from by rw [wrapI (by omega) (by omega)]; push_cast; omega)
  have HL := Lib.hid hl
  have HR := Lib.hid hr
  have HN := Lib.hid hn
  have HB := Lib.hid hb
  have HX := Lib.hid hX
  clear hl hr hn hb hX
  go_enter Try.func44, Try.ntmps44
  go_wp2_with fail
  go_region_held3 (fun W' => W'.cell? ⟨nb, 0, none⟩ = some (.string K) ∧ W'.cell? ⟨nb, 1, none⟩ = some (.string V))
    (go_keep)
    (first
      | (go_at_call 41; refine (WT.out _).mono ?_; rintro e w' ⟨rfl, rfl⟩)
      | (go_at_call 22; refine (CN.out _).mono ?_; rintro e w' ⟨rfl, rfl⟩))
  rw [ws.out]
  have NC := fun {k : Nat} {v : Value} (hv : (#[Value.string K, Value.string V, Value.pointer pl, Value.pointer pr, Value.int .i64 ((L.list.length + (R.list.length + 1) : Nat) : Int)] : Array Value)[k]? = some v) => node_cells (W := W.drewN 1) rfl hv
  generalize hW1 : (W.drewN 1).alloc (.cells #[Value.string K, Value.string V, Value.pointer pl, Value.pointer pr, Value.int .i64 ((L.list.length + (R.list.length + 1) : Nat) : Int)] 60) = W1 at *
  have Q1 : Qt W W1 := hW1 ▸ (Keeps.drewN (Qt.refl W) 1).alloc _
  have FIN := Lib.hid (show IsT X W1 (some ⟨W.heap.size, 0, none⟩) (.node L r R) from
    ⟨W.heap.size, pl, pr, rfl, HX.out _ (Nat.le_refl _), by rw [hK]; exact NC (k := 0) rfl, by rw [hV]; exact NC (k := 1) rfl, NC (k := 2) rfl, NC (k := 3) rfl, NC (k := 4) rfl, HL.out.qt Q1, HR.out.qt Q1⟩)
  have Q1 := Lib.hid Q1
  clear NC hW1
  go_wp2
  go_ret
  exact ⟨_, rfl, FIN.out, Q1.out⟩
end Go.Proofs.Ytadocleollndfaa
