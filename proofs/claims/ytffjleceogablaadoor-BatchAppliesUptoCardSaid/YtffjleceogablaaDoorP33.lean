/-
  The landed table's tree in memory: a node's cells; how many rows; a new node.
  The landed table's tree: a new node over two trees; turned over where one of them is too heavy.
-/
import Derived.Test.YtffjleceogablaaDoorP32
import Derived.Test.YtffjleceogablaaDoorP06
import Derived.Deep.RegionHeld3
namespace Go.Proofs.YtffjleceogablaaDoor
open Go.RowKit Go.WideShapes
set_option maxRecDepth 100000

/-- The heap holds the tree T at p, in blocks of X. -/
def IsT (X : Nat → Prop) (W : World) : Option Addr → Tb.Tr → Prop
  | p, .leaf => p = none
  | p, .node l r t => ∃ (b : Nat) (pl pr : Option Addr), p = some ⟨b, 0, none⟩ ∧ X b ∧ W.cell? ⟨b, 0, none⟩ = some (strV r.1) ∧ W.cell? ⟨b, 1, none⟩ = some (strV r.2) ∧ W.cell? ⟨b, 2, none⟩ = some (.pointer pl) ∧ W.cell? ⟨b, 3, none⟩ = some (.pointer pr) ∧ W.cell? ⟨b, 4, none⟩ = some (.int .i64 ((l.list.length + (t.list.length + 1) : Nat) : Int)) ∧ IsT X W pl l ∧ IsT X W pr t
theorem IsT.more {X Y : Nat → Prop} {W : World} (h : ∀ k, k < W.heap.size → X k → Y k) : ∀ {p : Option Addr} {T : Tb.Tr}, IsT X W p T → IsT Y W p T
  | _, .leaf, ht => ht
  | _, .node _ _ _, ⟨b, pl, pr, hp, hb, c0, c1, c2, c3, c4, hl, hr⟩ => ⟨b, pl, pr, hp, h b (World.block_lt_of_cell? W _ c0) hb, c0, c1, c2, c3, c4, IsT.more h hl, IsT.more h hr⟩
theorem IsT.kept {X K : Nat → Prop} {W W' : World} (h : Keeps K W W') (hK : ∀ k, X k → ¬ K k) : ∀ {p : Option Addr} {T : Tb.Tr}, IsT X W p T → IsT X W' p T
  | _, .leaf, ht => ht
  | _, .node _ _ _, ⟨b, pl, pr, hp, hb, c0, c1, c2, c3, c4, hl, hr⟩ => ⟨b, pl, pr, hp, hb, h.cellv c0 (hK b hb), h.cellv c1 (hK b hb), h.cellv c2 (hK b hb), h.cellv c3 (hK b hb), h.cellv c4 (hK b hb), IsT.kept h hK hl, IsT.kept h hK hr⟩
theorem IsT.qt {X : Nat → Prop} {W W' : World} (q : Qt W W') {p : Option Addr} {T : Tb.Tr} (h : IsT X W p T) : IsT X W' p T := h.kept q (fun _ _ e => e)
theorem IsT.lt {X : Nat → Prop} {W : World} {p : Option Addr} {T : Tb.Tr} (h : IsT X W p T) : IsT (fun k => X k ∧ k < W.heap.size) W p T := h.more (fun _ hk x => ⟨x, hk⟩)
/-- Nothing is nil, where there is a row. -/
theorem IsT.of_none {X : Nat → Prop} {W : World} : ∀ {T : Tb.Tr}, IsT X W none T → T = .leaf
  | .leaf, _ => rfl
  | .node _ _ _, ⟨_, _, _, e, _⟩ => by cases e
theorem IsT.of_some {X : Nat → Prop} {W : World} {a : Addr} : ∀ {T : Tb.Tr}, IsT X W (some a) T → ∃ (l : Tb.Tr) (r : Tb.R) (t : Tb.Tr) (b : Nat), T = .node l r t ∧ a = ⟨b, 0, none⟩
  | .leaf, e => by cases e
  | .node l r t, ⟨b, _, _, e, _⟩ => ⟨l, r, t, b, rfl, Option.some.inj e⟩

set_option maxHeartbeats 400000 in
theorem count_any {X : Nat → Prop} {W : World} {p : Option Addr} {T : Tb.Tr} (h : IsT X W p T) : Calls Tryd.prog 68 #[.pointer p] W fun e w' => e = .returned (.int .i64 (T.list.length : Int)) ∧ w' = W := by
  cases T with
  | leaf =>
    obtain rfl : p = none := h
    go_enter Tryd.func68, Tryd.ntmps68
    go_wp2
    go_ret
    exact ⟨rfl, rfl⟩
  | node l r t =>
    obtain ⟨b, pl, pr, rfl, _, _, _, _, _, c4, _, _⟩ := h
    rw [show (Tb.Tr.node l r t).list.length = l.list.length + (t.list.length + 1) by rw [Tb.Tr.list, List.length_append, List.length_cons]]
    generalize l.list.length + (t.list.length + 1) = n at *
    go_enter Tryd.func68, Tryd.ntmps68
    go_wp2
    go_ret
    exact ⟨rfl, rfl⟩
set_option maxHeartbeats 400000 in
theorem weight_any {X : Nat → Prop} {W : World} {p : Option Addr} {T : Tb.Tr} (h : IsT X W p T) (hb : T.list.length ≤ 17592186044416) : Calls Tryd.prog 97 #[.pointer p] W fun e w' => e = .returned (.int .i64 ((T.list.length : Int) + 1)) ∧ w' = W := by
  have CN := count_any h
  generalize T.list.length = n at *
  have lo : (0 : Int) ≤ (n : Int) + 1 := by omega
  have hi : (n : Int) + 1 ≤ 9223372036854775807 := by omega
  go_enter Tryd.func97, Tryd.ntmps97
  go_wp2_with (go_at_call 68; refine CN.mono ?_; rintro e w' ⟨rfl, rfl⟩)
  go_ret
  exact ⟨rfl, rfl⟩
/-- A node's two cells that a call reads of its receiver. -/
structure NodeR (W : World) (b : Nat) (r : Tb.R) : Prop where
  key : W.cell? ⟨b, 0, none⟩ = some (strV r.1)
  value : W.cell? ⟨b, 1, none⟩ = some (strV r.2)
theorem NodeR.qt {W W' : World} {b : Nat} {r : Tb.R} (h : NodeR W b r) (q : Qt W W') : NodeR W' b r := ⟨q.cellv h.key, q.cellv h.value⟩
end Go.Proofs.YtffjleceogablaaDoor
namespace Go.Proofs.YtffjleceogablaaDoor
open Go.RowKit Go.WideShapes
set_option maxRecDepth 100000

theorem node_cells {W W1 : World} {c : Array Value} (h : W1 = W.alloc (.cells c 122)) {k : Nat} {v : Value} (hv : c[k]? = some v) : W1.cell? ⟨W.heap.size, k, none⟩ = some v := by
  rw [h, cell_of_row _ _ _ _ _ _ (heap_alloc_new W _)]
  exact hv
theorem wrapI {x : Int} (h1 : -9223372036854775808 ≤ x) (h2 : x ≤ 9223372036854775807) : IntKind.i64.wrap x = x := by
  rw [IntKind.wrap_i64]
  omega
/-- What a call that makes a tree gives: the rows of T, or the tree itself. -/
def Made (X : Nat → Prop) (W : World) (l : List Tb.R) (e : Ending) (W' : World) : Prop := ∃ (p : Option Addr) (T : Tb.Tr), e = .returned (.pointer p) ∧ T.list = l ∧ IsT X W' p T ∧ Qt W W'

set_option maxHeartbeats 1600000 in
theorem between_any {X : Nat → Prop} {W : World} {nb : Nat} {r : Tb.R} {pl pr : Option Addr} {L R : Tb.Tr} (hn : NodeR W nb r) (hl : IsT X W pl L) (hr : IsT X W pr R) (hb : L.list.length + (R.list.length + 1) ≤ 17592186044416) (hX : ∀ k, W.heap.size ≤ k → X k) :
    Calls Tryd.prog 100 #[.pointer (some ⟨nb, 0, none⟩), .pointer pl, .pointer pr] W fun e W' => ∃ p, e = .returned (.pointer p) ∧ IsT X W' p (.node L r R) ∧ Qt W W' := by
  have c0 := hn.key
  have c1 := hn.value
  have CN := Lib.hid (fun (n : Nat) => (count_any (hr.qt (Keeps.drewN (Qt.refl W) n))))
  have WT := Lib.hid (fun (n : Nat) => (weight_any (hl.qt (Keeps.drewN (Qt.refl W) n)) (by omega)))
  obtain ⟨K, hK⟩ : ∃ K : ByteArray, strV r.1 = .string K := ⟨_, rfl⟩
  obtain ⟨V, hV⟩ : ∃ V : ByteArray, strV r.2 = .string V := ⟨_, rfl⟩
  rw [hK] at c0
  rw [hV] at c1
  have ws := Lib.hid (show IntKind.i64.wrap ((L.list.length : Int) + 1 + (R.list.length : Int)) = ((L.list.length + (R.list.length + 1) : Nat) : Int) from by rw [wrapI (by omega) (by omega)]; push_cast; omega)
  have HL := Lib.hid hl
  have HR := Lib.hid hr
  have HN := Lib.hid hn
  have HB := Lib.hid hb
  have HX := Lib.hid hX
  clear hl hr hn hb hX
  go_enter Tryd.func100, Tryd.ntmps100
  go_wp2_with fail
  go_region_held3 (fun W' => W'.cell? ⟨nb, 0, none⟩ = some (.string K) ∧ W'.cell? ⟨nb, 1, none⟩ = some (.string V))
    (go_keep)
    (first
      | (go_at_call 97; refine (WT.out _).mono ?_; rintro e w' ⟨rfl, rfl⟩)
      | (go_at_call 68; refine (CN.out _).mono ?_; rintro e w' ⟨rfl, rfl⟩))
  rw [ws.out]
  have NC := fun {k : Nat} {v : Value} (hv : (#[Value.string K, Value.string V, Value.pointer pl, Value.pointer pr, Value.int .i64 ((L.list.length + (R.list.length + 1) : Nat) : Int)] : Array Value)[k]? = some v) => node_cells (W := W.drewN 1) rfl hv
  generalize hW1 : (W.drewN 1).alloc (.cells #[Value.string K, Value.string V, Value.pointer pl, Value.pointer pr, Value.int .i64 ((L.list.length + (R.list.length + 1) : Nat) : Int)] 122) = W1 at *
  have Q1 : Qt W W1 := hW1 ▸ (Keeps.drewN (Qt.refl W) 1).alloc _
  have FIN := Lib.hid (show IsT X W1 (some ⟨W.heap.size, 0, none⟩) (.node L r R) from
    ⟨W.heap.size, pl, pr, rfl, HX.out _ (Nat.le_refl _), by rw [hK]; exact NC (k := 0) rfl, by rw [hV]; exact NC (k := 1) rfl, NC (k := 2) rfl, NC (k := 3) rfl, NC (k := 4) rfl, HL.out.qt Q1, HR.out.qt Q1⟩)
  have Q1 := Lib.hid Q1
  clear NC hW1
  go_wp2
  go_ret
  exact ⟨_, rfl, FIN.out, Q1.out⟩
end Go.Proofs.YtffjleceogablaaDoor
