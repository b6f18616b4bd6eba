/-
  Ops of one's own, overwritten one after another.
-/
import Derived.Test.YtffjleceogablaaDoorBRow
import Derived.Test.YtffjleceogablaaDoorTPl
namespace Go.Proofs.YtffjleceogablaaDoor
open Go.RowKit Go.WideShapes
set_option maxRecDepth 100000

/-- The ops up to i are f of what they were. -/
def mixO (f : Bt.O → Bt.O) (ops sfx : List Bt.O) (i : Nat) : List Bt.O := (ops.take i).map f ++ ops.drop i ++ sfx
theorem mixO_zero (f : Bt.O → Bt.O) (ops sfx : List Bt.O) : mixO f ops sfx 0 = ops ++ sfx := by simp [mixO]
theorem mixO_all (f : Bt.O → Bt.O) (ops sfx : List Bt.O) : mixO f ops sfx ops.length = ops.map f ++ sfx := by simp [mixO]
theorem mixO_length (f : Bt.O → Bt.O) (ops sfx : List Bt.O) {i : Nat} (h : i ≤ ops.length) : (mixO f ops sfx i).length = ops.length + sfx.length := by simp [mixO]; omega
theorem mixO_get (f : Bt.O → Bt.O) (ops sfx : List Bt.O) {i : Nat} {o : Bt.O} (h : ops[i]? = some o) : (mixO f ops sfx i)[i]? = some o := by
  obtain ⟨hi, he⟩ := List.getElem?_eq_some_iff.1 h
  unfold mixO
  have hl : ((ops.take i).map f).length = i := by simp; omega
  rw [List.append_assoc, List.getElem?_append_right (by omega), hl, Nat.sub_self, List.getElem?_append_left (by simp; omega), List.getElem?_drop, Nat.add_zero]
  exact h
theorem mixO_set (f : Bt.O → Bt.O) (ops sfx : List Bt.O) {i : Nat} {o : Bt.O} (h : ops[i]? = some o) : (mixO f ops sfx i).set i (f o) = mixO f ops sfx (i + 1) := by
  obtain ⟨hi, he⟩ := List.getElem?_eq_some_iff.1 h
  unfold mixO
  have hl : ((ops.take i).map f).length = i := by simp; omega
  rw [List.append_assoc, List.set_append_right _ _ (by omega), hl, Nat.sub_self, List.drop_eq_getElem_cons hi, List.cons_append, List.set_cons_zero, List.take_add_one, h, Option.toList_some, List.map_append]
  simp
theorem set_setO (l : List Bt.O) (i : Nat) (a b : Bt.O) : (l.set i a).set i b = l.set i b := by simp
theorem get_setO {l : List Bt.O} {i : Nat} {o : Bt.O} (h : l[i]? = some o) (a : Bt.O) : (l.set i a)[i]? = some a := by
  rw [List.getElem?_set_self (List.getElem?_eq_some_iff.1 h).1]
def MoAt (f : Bt.O → Bt.O) (W0 : World) (v : Value) (N : Nat) (ops sfx : List Bt.O) (iv : Value) (wr : World) : Prop :=
  ∃ i : Nat, i ≤ ops.length ∧ iv = .int .i64 i ∧ wr.ownsRow 0 29 3 v N (opsC (mixO f ops sfx i)) ∧ Keeps (fun k => v.ownBlock = some k) W0 wr
section
variable {W0 wr : World} {g N c i : Nat} {ops sfx : List Bt.O} {o : Bt.O}
/-- One cell stored. -/
theorem own_set1 {l : List Bt.O} {j : Nat} {u : Value} {x y : Bt.O} (h : wr.ownsRow 0 29 3 (.slice (some ⟨g, 0, none⟩) N c) N (opsC l)) (hi : l[i]? = some x) (hj : j < 3) (e : (opC x).set j u = opC y) :
    (wr.setCell ⟨g, i * 3 + j, none⟩ u).ownsRow 0 29 3 (.slice (some ⟨g, 0, none⟩) N c) N (opsC (l.set i y)) := by
  show (wr.setCell ⟨g, i * 3 + j, none⟩ u).ownsRow 0 29 3 (.slice (some ⟨g, 0, none⟩) N c) N (cellsG opC (l.set i y))
  rw [← cellsG_set opC_len hi hj e]
  exact ownsRow_set h u
theorem mo_more {f : Bt.O → Bt.O} {W : World} (hi : ops[i]? = some o) (h : W.ownsRow 0 29 3 (.slice (some ⟨g, 0, none⟩) N c) N (opsC ((mixO f ops sfx i).set i (f o)))) (K : Keeps (fun k => (Value.slice (some ⟨g, 0, none⟩) N c).ownBlock = some k) W0 W) :
    MoAt f W0 (.slice (some ⟨g, 0, none⟩) N c) N ops sfx (.int .i64 ((i : Int) + 1)) W :=
  ⟨i + 1, (List.getElem?_eq_some_iff.1 hi).1, by simp, by rw [← mixO_set f ops sfx hi]; exact h, K⟩
/-- All three cells. -/
theorem own_set3 {l : List Bt.O} {x y : Bt.O} {a b d : Value} (h : wr.ownsRow 0 29 3 (.slice (some ⟨g, 0, none⟩) N c) N (opsC l)) (hi : l[i]? = some x) (ha : .bool y.del = a) (hb : strV y.key = b) (hd : strV y.val = d) :
    (((wr.setCell ⟨g, i * 3, none⟩ a).setCell ⟨g, i * 3 + 1, none⟩ b).setCell ⟨g, i * 3 + 2, none⟩ d).ownsRow 0 29 3 (.slice (some ⟨g, 0, none⟩) N c) N (opsC (l.set i y)) := by
  subst ha hb hd
  have h1 := own_set1 (j := 0) (y := ⟨y.del, x.key, x.val⟩) (u := .bool y.del) h hi (by decide) rfl
  have h2 := own_set1 (j := 1) (y := ⟨y.del, y.key, x.val⟩) (u := strV y.key) h1 (get_setO hi _) (by decide) rfl
  have h3 := own_set1 (j := 2) (y := y) (u := strV y.val) h2 (get_setO (get_setO hi _) _) (by decide) rfl
  rw [set_setO, set_setO] at h3
  exact h3
theorem keeps3 {a b d : Value} (K : Keeps (fun k => (Value.slice (some ⟨g, 0, none⟩) N c).ownBlock = some k) W0 wr) : Keeps (fun k => (Value.slice (some ⟨g, 0, none⟩) N c).ownBlock = some k) W0 (((wr.setCell ⟨g, i * 3, none⟩ a).setCell ⟨g, i * 3 + 1, none⟩ b).setCell ⟨g, i * 3 + 2, none⟩ d) :=
  Keeps.setCell (p := ⟨g, i * 3 + 2, none⟩) (Keeps.setCell (p := ⟨g, i * 3 + 1, none⟩) (Keeps.setCell (p := ⟨g, i * 3, none⟩) K (fun _ => rfl) _) (fun _ => rfl) _) (fun _ => rfl) _
theorem keeps1 {j : Nat} {a : Value} (K : Keeps (fun k => (Value.slice (some ⟨g, 0, none⟩) N c).ownBlock = some k) W0 wr) : Keeps (fun k => (Value.slice (some ⟨g, 0, none⟩) N c).ownBlock = some k) W0 (wr.setCell ⟨g, i * 3 + j, none⟩ a) :=
  Keeps.setCell (p := ⟨g, i * 3 + j, none⟩) K (fun _ => rfl) _
end
/-- Ops told by an owned row. -/
theorem opsIn_own {W : World} {v : Value} {l : List Bt.O} (h : W.ownsRow 0 29 3 v l.length (opsC l)) (hl : l.length ≤ 17592186044416) : ∃ g, OpsIn W v g 0 l := by
  obtain ⟨g, h1, _⟩ := ownG_in opC_len h hl
  exact ⟨g, h1⟩
namespace Bt
theorem normal_same (x : O) (n : Nat) : normal (List.replicate n x) = if n = 0 then [] else [clean x] := by
  unfold normal codes
  rw [List.map_replicate]
  have h := Tb.ofL_same (code x).1 (code x).2 n
  rw [show ((code x).1, (code x).2) = code x from rfl] at h
  rw [h]
  split
  · rfl
  · show [dec (code x)] = _
    rw [dec_code]
end Bt
end Go.Proofs.YtffjleceogablaaDoor
