/-
  Parts in memory: a part's cells, a list of parts; the frame of a call that only makes new blocks; Text, Number, plain; parts held one against the other.
-/
import Derived.Test.YtfhfbpjhjigbnaaDoorNum
import Derived.Test.YtfhfbpjhjigbnaaDoorOwn2
import Derived.Test.YtfhfbpjhjigbnaaDoorKPlain
import Derived.Test.YtfhfbpjhjigbnaaDoorShelf
import Derived.WideShapes
import Derived.Laws.StructEq
import Derived.Laws.Rows
namespace Go.Proofs.YtfhfbpjhjigbnaaDoor
open Go.RowKit Go.WideShapes
set_option maxRecDepth 100000

/-- Nothing that was there has turned. -/
abbrev Qt (w w' : World) : Prop := Keeps (fun _ => False) w w'
theorem Qt.refl (w : World) : Qt w w := Keeps.refl _ w
theorem Qt.trans {a b c : World} (h : Qt a b) (k : Qt b c) : Qt a c := Keeps.trans h k (fun _ _ e => e)
theorem Qt.of_below {w w' : World} (h : Below w.heap.size w w') : Qt w w' := (Keeps.of_below h).mono (fun i hi e => by omega)
theorem Qt.below {w w' : World} (h : Qt w w') : Below w.heap.size w w' := Keeps.below h (Nat.le_refl _) (fun _ _ e => e)
/-- A step that touches only what is new since B. -/
abbrev Since (B : Nat) (w w' : World) : Prop := Keeps (fun k => B ≤ k) w w'
theorem Since.step {S : Nat → Prop} {B : Nat} {w w1 w2 : World} (h : Since B w w1) (k : Keeps S w1 w2) (hS : ∀ i, S i → B ≤ i) : Since B w w2 := Keeps.trans h k (fun i _ s => hS i s)
theorem Since.qt {w w' : World} (h : Since w.heap.size w w') : Qt w w' := Keeps.mono h (fun i hi e => by omega)
theorem Qt.since {B : Nat} {w w' : World} (h : Qt w w') : Since B w w' := Keeps.mono h (fun _ _ e => e.elim)

theorem OffErrs.of_ge {ad : Nat → Addr} {w : World} (h : Errs ad w) {S : Nat → Prop} (hS : ∀ k, S k → w.heap.size ≤ k) : OffErrs ad S := by
  refine ⟨fun g hg hs => ?_, fun i hi hs => ?_⟩
  · obtain ⟨i, hi⟩ := List.getElem?_of_mem hg
    have h1 : g < w.heap.size := World.block_lt_of_cell? w _ (h.cells i g hi)
    have := hS g hs
    omega
  · obtain ⟨c, t, hb⟩ := h.blk i hi
    have := lt_of_block hb
    have := hS _ hs
    omega

/-- A cell that stays: a global's. -/
theorem Keeps.cellv {S : Nat → Prop} {w w' : World} (h : Keeps S w w') {p : Addr} {v : Value} (hc : w.cell? p = some v) (hn : ¬ S p.block) : w'.cell? p = some v := (h.cell (World.block_lt_of_cell? w _ hc) hn).trans hc
theorem Qt.cellv {w w' : World} (h : Qt w w') {p : Addr} {v : Value} (hc : w.cell? p = some v) : w'.cell? p = some v := Keeps.cellv h hc (fun e => e)

/-! ### Parts -/
/-- A part, as its cells say it. -/
structure PD where
  b : Bool
  n : Int
  s : ByteArray

def PD.list (p : PD) : List Value := [.bool p.b, .int .i64 p.n, .string p.s]
abbrev PD.val (p : PD) : Value := .agg #[.bool p.b, .int .i64 p.n, .string p.s]
def PD.part (p : PD) : K.PartD := if p.b then .num p.n else .txt p.s.data.toList
structure PD.Ok (p : PD) : Prop where
  lo : -9223372036854775808 ≤ p.n
  hi : p.n ≤ 9223372036854775807
  s : p.s.size ≤ 4194304
def PD.plain (p : PD) : PD := if p.b then ⟨true, p.n, ⟨#[]⟩⟩ else ⟨false, 0, p.s⟩
def ofPart : K.PartD → PD
  | .num n => ⟨true, n, ⟨#[]⟩⟩
  | .txt s => ⟨false, 0, ⟨s.toArray⟩⟩

theorem part_ofPart (p : K.PartD) : (ofPart p).part = p := by cases p <;> rfl
theorem plain_ofPart (p : K.PartD) : (ofPart p).plain = ofPart p := by cases p <;> rfl
theorem plain_eq (p : PD) : p.plain = ofPart p.part := by
  obtain ⟨b, n, s⟩ := p
  cases b <;> simp [PD.plain, PD.part, ofPart]
theorem part_plain (p : PD) : p.plain.part = p.part := by rw [plain_eq, part_ofPart]
theorem plain_iff (p q : PD) : p.plain = q.plain ↔ p.part = q.part := by
  constructor
  · intro h; rw [← part_plain p, h, part_plain]
  · intro h; rw [plain_eq, plain_eq, h]
theorem PD.Ok.part {p : PD} (h : p.Ok) : p.part.Ok := by
  obtain ⟨b, n, s⟩ := p
  cases b
  · exact trivial
  · exact ⟨h.lo, h.hi⟩
theorem PD.ext' {p q : PD} (h1 : p.b = q.b) (h2 : p.n = q.n) (h3 : p.s = q.s) : p = q := by cases p; cases q; simp at *; exact ⟨h1, h2, h3⟩
instance : DecidableEq PD := fun p q => if h : p.b = q.b ∧ p.n = q.n ∧ p.s = q.s then .isTrue (PD.ext' h.1 h.2.1 h.2.2) else .isFalse (fun e => h (by subst e; exact ⟨rfl, rfl, rfl⟩))

theorem infoPart : (Tryd.prog.info? 25).map (fun i => (i.zero, i.size, i.bytes)) = some (some (.agg #[.bool false, .int .i64 0, .string ⟨#[]⟩]), 3, 32) := by kernel_rfl

theorem bytes_beq (a b : ByteArray) : (a.toList == b.toList) = decide (a = b) := by
  rw [Bool.eq_iff_iff]
  simp only [beq_iff_eq, decide_eq_true_eq, ByteArray.toList_eq]
  constructor
  · intro h
    obtain ⟨⟨x⟩⟩ := a
    obtain ⟨⟨y⟩⟩ := b
    simp only at h
    rw [h]
  · rintro rfl; rfl

theorem run_equal_part (p q : PD) (w : World) : (Op.equalIn 10000 25 p.val q.val).run Tryd.prog w = .ok (decide (p = q)) w := by
  obtain ⟨b1, n1, s1⟩ := p
  obtain ⟨b2, n2, s2⟩ := q
  have hs : (decide ((⟨b1, n1, s1⟩ : PD) = ⟨b2, n2, s2⟩)) = (decide (b1 = b2) && (decide (n1 = n2) && decide (s1 = s2))) := by
    rw [Bool.eq_iff_iff]
    simp
  have hp : Tryd.prog.stoodInHeld 25 = false := by kernel_rfl
  have ht : Tryd.prog.underlying 25 = some (.struct (Tryd.prog.fieldsOf 25)) := by kernel_rfl
  rw [hs, run_equalIn_struct w 9999 _ _ _ ht hp]
  have e2 := fun (a b : Int) => run_equalIn_int (P := Tryd.prog) w 9998 2 .i64 .i64 a b Tryd.underlying2
  have e4 := fun (a b : Bool) => run_equalIn_bool' (P := Tryd.prog) w 9998 4 a b Tryd.underlying4
  have e9 := fun (a b : ByteArray) => run_equalIn_string (P := Tryd.prog) w 9998 9 a b Tryd.underlying9
  have hf : (Tryd.prog.fieldsOf 25).toList = [{ name := "Number", type := 4, offset := 0, embedded := false, tag := "", pkgPath := "", byteOffset := 0 }, { name := "N", type := 2, offset := 1, embedded := false, tag := "", pkgPath := "", byteOffset := 8 }, { name := "S", type := 9, offset := 2, embedded := false, tag := "", pkgPath := "", byteOffset := 16 }] := by kernel_rfl
  have a2 : ∀ W, (isAgg 2).run Tryd.prog W = .ok false W := Tryd.isAgg2
  have a4 : ∀ W, (isAgg 4).run Tryd.prog W = .ok false W := Tryd.isAgg4
  have a9 : ∀ W, (isAgg 9).run Tryd.prog W = .ok false W := Tryd.isAgg9
  rw [hf]
  simp only [Op.eqFields, part, Sem.run_bind, a2, a4, a9, Result.andThen_ok, Bool.false_eq_true, if_false, Sem.run_pure, ne_eq, String.reduceEq, not_false_eq_true, if_true, List.getElem?_toArray, List.getElem?_cons_zero, List.getElem?_cons_succ, e2, e4, e9, bytes_beq]
  by_cases h1 : b1 = b2
  · subst h1
    by_cases h2 : n1 = n2
    · subst h2
      by_cases h3 : s1 = s2
      · simp [h3, e9, bytes_beq, e2, e4, Sem.run_bind]
      · simp [h3, e9, bytes_beq, e2, e4, Sem.run_bind]
    · simp [h2, e2, e4, Sem.run_bind]
  · simp [h1, e4, Sem.run_bind]

theorem run_neq_part (p q : PD) (w : World) : (binOp .neq 25 p.val q.val).run Tryd.prog w = .ok (.bool (!decide (p = q))) w := by
  rw [run_neq_struct, run_equal_part]; rfl
theorem run_eql_part (p q : PD) (w : World) : (binOp .eql 25 p.val q.val).run Tryd.prog w = .ok (.bool (decide (p = q))) w := by
  rw [run_eql_struct, run_equal_part]; rfl

/-- A []api.Part value: its cells in block g from off on. -/
structure Parts (W : World) (v : Value) (g off : Nat) (ps : List PD) : Prop where
  val : ∃ a cap, v = .slice a ps.length cap ∧ (ps ≠ [] → a = some ⟨g, off, none⟩)
  le : ps.length ≤ 4194304
  cells : ∀ (k : Nat) (p : PD), ps[k]? = some p → W.cell? ⟨g, off + k * 3, none⟩ = some (.bool p.b) ∧ W.cell? ⟨g, off + k * 3 + 1, none⟩ = some (.int .i64 p.n) ∧ W.cell? ⟨g, off + k * 3 + 2, none⟩ = some (.string p.s)

theorem Parts.elem {W : World} {v : Value} {g off : Nat} {ps : List PD} (h : Parts W v g off ps) {k : Nat} (hk : k < ps.length) : ∃ p cap, ps[k]? = some p ∧ v = .slice (some ⟨g, off, none⟩) ps.length cap := by
  obtain ⟨a, cap, rfl, ha⟩ := h.val
  have hne : ps ≠ [] := by rintro rfl; simp at hk
  obtain rfl := ha hne
  exact ⟨ps[k], cap, List.getElem?_eq_getElem hk, rfl⟩
theorem Parts.lt {W : World} {v : Value} {g off : Nat} {ps : List PD} (h : Parts W v g off ps) (hne : ps ≠ []) : g < W.heap.size := by
  obtain ⟨p, r, rfl⟩ := List.exists_cons_of_ne_nil hne
  exact World.block_lt_of_cell? W _ (h.cells 0 p rfl).1
theorem Parts.kept {S : Nat → Prop} {W W' : World} {v : Value} {g off : Nat} {ps : List PD} (h : Parts W v g off ps) (k : Keeps S W W') (hS : ps ≠ [] → ¬ S g) : Parts W' v g off ps := by
  refine ⟨h.val, h.le, fun j p hj => ?_⟩
  have hne : ps ≠ [] := by rintro rfl; simp at hj
  obtain ⟨c0, c1, c2⟩ := h.cells j p hj
  exact ⟨k.cellv c0 (hS hne), k.cellv c1 (hS hne), k.cellv c2 (hS hne)⟩
theorem Parts.qt {W W' : World} {v : Value} {g off : Nat} {ps : List PD} (h : Parts W v g off ps) (k : Qt W W') : Parts W' v g off ps := h.kept k (fun _ e => e)
theorem Parts.since {B : Nat} {W W' : World} {v : Value} {g off : Nat} {ps : List PD} (h : Parts W v g off ps) (hB : W.heap.size ≤ B) (k : Since B W W') : Parts W' v g off ps := h.kept k (fun hne e => by have := h.lt hne; omega)

/-- The cells of a list of parts. -/
def psCells (ps : List PD) : List Value := ps.flatMap PD.list
theorem psCells_length : ∀ ps, (psCells ps).length = ps.length * 3
  | [] => rfl
  | p :: r => by
    have := psCells_length r
    simp only [psCells, List.flatMap_cons, List.length_append, List.length_cons] at this ⊢
    rw [this]
    simp [PD.list]
    omega
theorem psCells_append (a b : List PD) : psCells (a ++ b) = psCells a ++ psCells b := by simp [psCells]
theorem psCells_one (p : PD) : psCells [p] = p.list := by simp [psCells]
theorem psCells_get : ∀ {ps : List PD} {k : Nat} {p : PD} {j : Nat} {u : Value}, ps[k]? = some p → p.list[j]? = some u → (psCells ps)[k * 3 + j]? = some u
  | [], k, o, j, u, h, _ => by simp at h
  | q :: r, 0, o, j, u, h, hu => by
    simp at h
    subst h
    have hj : j < q.list.length := (List.getElem?_eq_some_iff.1 hu).1
    simp only [psCells, List.flatMap_cons, Nat.zero_mul, Nat.zero_add]
    rw [List.getElem?_append_left hj]
    exact hu
  | q :: r, k + 1, o, j, u, h, hu => by
    have hl : q.list.length = 3 := rfl
    have h1 := psCells_get (ps := r) (k := k) (by simpa using h) hu
    simp only [psCells, List.flatMap_cons] at h1 ⊢
    rw [List.getElem?_append_right (by omega), hl, show (k + 1) * 3 + j - 3 = k * 3 + j by omega]
    exact h1

/-- A list of parts in new memory. -/
structure NewParts (B : Nat) (W : World) (v : Value) (ps : List PD) : Prop where
  own : W.ownsRow 0 25 3 v ps.length (psCells ps)
  new : ∀ g, v.ownBlock = some g → B ≤ g

theorem NewParts.nil (B : Nat) (W : World) : NewParts B W (.slice none 0 0) [] := ⟨World.ownsRow_nil _ _ _ _, fun g h => by cases h⟩
theorem NewParts.kept {S : Nat → Prop} {B : Nat} {W W' : World} {v : Value} {ps : List PD} (h : NewParts B W v ps) (k : Keeps S W W') (hS : ∀ g, v.ownBlock = some g → ¬ S g) : NewParts B W' v ps := ⟨ownsRow_kept h.own k hS, h.new⟩
theorem NewParts.qt {B : Nat} {W W' : World} {v : Value} {ps : List PD} (h : NewParts B W v ps) (k : Qt W W') : NewParts B W' v ps := h.kept k (fun _ _ e => e)
theorem NewParts.parts {B : Nat} {W : World} {v : Value} {ps : List PD} (h : NewParts B W v ps) (hl : ps.length ≤ 4194304) : ∃ g, Parts W v g 0 ps ∧ (ps ≠ [] → v.ownBlock = some g) := by
  rcases h.own.2 with ⟨rfl, h0⟩ | ⟨g, cap, cur, rfl, _, hg, hnc, hcm, hcs, htake⟩
  · obtain rfl : ps = [] := List.eq_nil_of_length_eq_zero h0
    exact ⟨0, ⟨⟨none, 0, rfl, fun h => absurd rfl h⟩, by simp, fun k p hk => by simp at hk⟩, fun h => absurd rfl h⟩
  · have hcell : ∀ (j : Nat) (u : Value), (psCells ps)[j]? = some u → W.cell? ⟨g, j, none⟩ = some u := fun j u hj => by
      have h1 := (World.ownsRowF_of h.own).cells (g := g) rfl j u hj
      rwa [add_plain, Nat.zero_add] at h1
    refine ⟨g, ⟨⟨_, cap, rfl, fun _ => rfl⟩, hl, fun k p hk => ?_⟩, fun _ => rfl⟩
    rw [Nat.zero_add]
    exact ⟨hcell _ _ (psCells_get hk (j := 0) rfl), hcell _ _ (psCells_get hk (j := 1) rfl), hcell _ _ (psCells_get hk (j := 2) rfl)⟩

/-! ### Text, Number, plain -/
set_option maxHeartbeats 400000 in
theorem text_any (s : ByteArray) (w : World) : Calls Tryd.prog 10 #[.string s] w fun e w' => e = .returned (.agg #[.bool false, .int .i64 0, .string s]) ∧ Qt w w' := by
  go_enter Tryd.func10, Tryd.ntmps10
  go_wp2
  exact bodyPost_ret (v := .agg #[.bool false, .int .i64 0, .string s]) (by simp [results, Tryd.results10, go_sem]) rfl ⟨rfl, (Keeps.refl _ _).alloc _⟩

set_option maxHeartbeats 400000 in
theorem number_any (n : Int) (w : World) : Calls Tryd.prog 11 #[.int .i64 n] w fun e w' => e = .returned (.agg #[.bool true, .int .i64 n, .string ⟨#[]⟩]) ∧ Qt w w' := by
  go_enter Tryd.func11, Tryd.ntmps11
  go_wp2
  exact bodyPost_ret (v := .agg #[.bool true, .int .i64 n, .string ⟨#[]⟩]) (by simp [results, Tryd.results11, go_sem]) rfl ⟨rfl, (Keeps.refl _ _).alloc _⟩

set_option maxHeartbeats 400000 in
theorem plain_any (p : PD) (w : World) : Calls Tryd.prog 34 #[p.val] w fun e w' => e = .returned p.plain.val ∧ Qt w w' := by
  obtain ⟨b, n, s⟩ := p
  cases b
  · go_enter Tryd.func34, Tryd.ntmps34
    go_wp2
    exact bodyPost_ret (v := .agg #[.bool false, .int .i64 0, .string s]) (by simp [results, Tryd.results34, go_sem]) rfl ⟨rfl, ((Keeps.refl _ _).alloc _).alloc _⟩
  · go_enter Tryd.func34, Tryd.ntmps34
    go_wp2
    exact bodyPost_ret (v := .agg #[.bool true, .int .i64 n, .string ⟨#[]⟩]) (by simp [results, Tryd.results34, go_sem]) rfl ⟨rfl, ((Keeps.refl _ _).alloc _).alloc _⟩
end Go.Proofs.YtfhfbpjhjigbnaaDoor
