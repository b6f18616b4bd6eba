/-
  A row of bytes with a mark behind its cells ('[]byte(s)'): texts appended to it, and read of it.
-/
import Derived.Test.YtggogaaooacooaaDoorP09
import Derived.Test.YtggogaaooacooaaDoorP10
import Derived.Test.YtggogaaooacooaaDoorP13
import Derived.Lib.ConvBytes
namespace Go.Proofs.YtggogaaooacooaaDoor
open Go.RowKit
set_option maxRecDepth 100000

section
variable {P : Program} (w : World)
/-- Cells stored at neighbouring places, no one of which is frozen. -/
theorem run_storeCells_atM (P : Program) (g : Nat) (t : TypeId) (fz : Nat × Nat) : ∀ (vs : List Value) (o i : Nat) (cur : Array Value) (w : World), w.heap[g]? = some (.cells cur t fz) → (fz.2 ≤ o + i ∨ o + i + vs.length ≤ fz.1) → o + i + vs.length ≤ cur.size → (∀ v ∈ vs, v.oneCell' = true) →
    (storeCells ⟨g, o, none⟩ vs i).run P w = .ok () (w.setRow g (cur.toList.take (o + i) ++ vs ++ cur.toList.drop (o + i + vs.length)).toArray)
  | [], o, i, cur, w, hg, _, _, _ => by
    simp only [storeCells, List.append_nil, List.length_nil, Nat.add_zero, List.take_append_drop, Array.toArray_toList]
    rw [setRow_self w g cur t fz hg]
    rfl
  | v :: rest, o, i, cur, w, hg, hfz, hl, h1 => by
    have hi : o + i < cur.size := by simp at hl; omega
    have hadd : (⟨g, o, none⟩ : Addr).add i = ⟨g, o + i, none⟩ := by unfold Addr.add; split <;> simp_all
    have hcell : w.cell? ⟨g, o + i, none⟩ = some cur[o + i] := by simp [World.cell?, hg, hi]
    have hfro : w.frozen? ⟨g, o + i, none⟩ = false := by
      obtain ⟨lo, hi'⟩ := fz
      simp only [World.frozen?, hg, Bool.and_eq_false_iff, decide_eq_false_iff_not]
      simp only [List.length_cons] at hfz
      rcases hfz with hfz | hfz
      · right; omega
      · left; omega
    have hst : (store ((⟨g, o, none⟩ : Addr).add i) v).run P w = .ok () (w.setRow g (cur.setIfInBounds (o + i) v)) := by
      rw [hadd, run_store P w _ v _ (h1 v (by simp)), hcell]
      simp [hfro, setCell_eq_setRow w g (o + i) cur t fz v hg]
    have ih := run_storeCells_atM P g t fz rest o (i + 1) (cur.setIfInBounds (o + i) v) (w.setRow g (cur.setIfInBounds (o + i) v)) (setRow_heap w g cur _ t _ hg) (by rcases hfz with k | k; exact .inl (by omega); exact .inr (by simp at k; omega)) (by simp at hl ⊢; omega) (fun x hx => h1 x (by simp [hx]))
    simp only [storeCells, Sem.run_bind, hst, Result.andThen_ok, ih, setRow_setRow]
    congr 3
    have e := list_seg_step cur.toList (o + i) v rest (by simp at hl ⊢; omega)
    simpa [Array.toList_setIfInBounds, Nat.add_assoc] using e
theorem run_append_room_M (t u ty e : TypeId) (i : TypeInfo) (ht : P.underlying t = some (.slice e)) (hu : P.underlying u = some .string) (hi : P.info? e = some i) (hs1 : i.size = 1)
    (g sLen sCap : Nat) (cur : Array Value) (fz : Nat × Nat) (hg : w.heap[g]? = some (.cells cur e fz)) (s : ByteArray) (hfz : fz.2 ≤ sLen ∨ sLen + s.size ≤ fz.1)
    (hroom : sLen + s.size ≤ sCap) (hfit : sLen + s.size ≤ cur.size) :
    (Builtin.append_ #[t, u] ty #[.slice (some ⟨g, 0, none⟩) sLen sCap, .string s]).run P w =
      .ok (.slice (some ⟨g, 0, none⟩) (sLen + s.size) sCap) (w.setRow g (cur.toList.take sLen ++ Lib.strCells s ++ cur.toList.drop (sLen + s.size)).toArray) := by
  have hf := Lib.run_firstCells_string (P := P) w 1 s
  have hst := run_storeCells_atM P g e fz (Lib.strCells s) sLen 0 cur w hg (by simpa [Lib.strCells_length] using hfz) (by simpa [Lib.strCells_length] using hfit) (Lib.strCells_oneCell s)
  simp only [Nat.add_zero, Lib.strCells_length] at hst
  simp [Builtin.append_, run_underlying ht, run_underlying hu, sizeOf, typeInfo, hi, hs1, Builtin.lenOf, hroom, hf, Addr.add_lit, hst]
end

/-- The row. -/
def MarkB (w : World) (v : Value) (l : List UInt8) : Prop :=
  (v = .slice none 0 0 ∧ l = []) ∨ ∃ g cap cur fz, v = .slice (some ⟨g, 0, none⟩) l.length cap ∧ w.heap[g]? = some (.cells cur 5 fz) ∧ (fz.2 ≤ l.length ∨ cap ≤ fz.1) ∧ l.length ≤ cap ∧ cap ≤ maxLen ∧ cur.size = cap ∧ cur.toList.take l.length = Lib.byteCells l
theorem MarkB.shape {w : World} {v : Value} {l : List UInt8} (h : MarkB w v l) : ∃ a c, v = .slice a l.length c := by
  rcases h with ⟨e, rfl⟩ | ⟨g, cap, cur, fz, e, _⟩
  · exact ⟨none, 0, e⟩
  · exact ⟨_, _, e⟩
theorem MarkB.kept {w w' : World} {v : Value} {l : List UInt8} {S : Nat → Prop} (h : MarkB w v l) (k : Keeps S w w') (hS : ∀ g, v.ownBlock = some g → ¬ S g) : MarkB w' v l := by
  rcases h with h | ⟨g, cap, cur, fz, e, hg, r⟩
  · exact .inl h
  · exact .inr ⟨g, cap, cur, fz, e, (k.block g (lt_of_block hg) (hS g (by rw [e]; rfl))).trans hg, r⟩
theorem MarkB.qt {w w' : World} {v : Value} {l : List UInt8} (h : MarkB w v l) (k : Qt w w') : MarkB w' v l := h.kept k (fun _ _ e => e)
theorem byteCells_len (l : List UInt8) : (Lib.byteCells l).length = l.length := by simp [Lib.byteCells]
theorem MarkB.made (w : World) (s : ByteArray) (hs : s.size ≤ maxLen) : MarkB (Lib.bytesWorld w 5 s) (.slice (some ⟨w.heap.size, 0, none⟩) s.size (grownCap w s.size 0 5)) s.data.toList := by
  have hge := grownCap_ge w s.size 0 5
  have hle := grownCap_le_maxLen w s.size 0 5 hs
  have hl : s.data.toList.length = s.size := by simp
  have hsz : (Lib.bytesCells w 5 s).size = grownCap w s.size 0 5 := by
    unfold Lib.bytesCells
    rw [Array.size_append, Array.size_map, Array.size_replicate]
    show s.size + _ = _
    omega
  refine .inr ⟨w.heap.size, _, _, _, by rw [hl], Lib.bytesWorld_at_new w _ s, .inr (by rw [hsz]; exact Nat.le_refl _), by rw [hl]; exact hge, hle, hsz, ?_⟩
  unfold Lib.bytesCells
  rw [Array.toList_append, List.take_append_of_le_length (by simp), hl]
  rw [Array.toList_map, List.take_of_length_le (by simp)]
  rfl
theorem MarkB.conv {w : World} {v : Value} {l : List UInt8} (h : MarkB w v l) : (convert 75 9 v).run Tryd.prog w = .ok (.string ⟨l.toArray⟩) w := by
  rcases h with ⟨rfl, rfl⟩ | ⟨g, cap, cur, fz, rfl, hg, _, h1, _, h3, h4⟩
  · exact run_convert_bytes_nil (P := Tryd.prog) w 75 5 Tryd.underlying75 Tryd.underlying5 0 0 9 Tryd.underlying9
  · refine conv_at ?_ l.length cap rfl
    intro j u hj
    rw [cell_of_row _ _ _ _ _ _ hg, Nat.zero_add]
    have hlt : j < l.length := by have := (List.getElem?_eq_some_iff.1 hj).1; rwa [byteCells_len] at this
    rw [← h4, List.getElem?_take_of_lt hlt] at hj
    rw [← Array.getElem?_toList]
    exact hj
/-- A text appended. -/
theorem MarkB.append {w : World} (ty : TypeId) (i : TypeInfo) (hi : Tryd.prog.info? 5 = some i) (hz : i.zero = some (.int .u8 0)) (hsize : i.size = 1) (hby : i.bytes = 1) {v : Value} {l : List UInt8} (h : MarkB w v l) (s : ByteArray) (hb : l.length + s.size ≤ 140737488355328) (h63 : l.length + s.size ≤ maxLen) :
    ∃ v' w', (Builtin.append_ #[75, 9] ty #[v, .string s]).run Tryd.prog w = .ok v' w' ∧ MarkB w' v' (l ++ s.data.toList) ∧ w.grownBy w' v.ownBlock ∧ Later w v.ownBlock v'.ownBlock := by
  have hsl : s.data.toList.length = s.size := by simp
  rcases h with ⟨rfl, rfl⟩ | ⟨g, cap, cur, fz, rfl, hg, hfz, hnc, hcm, hcs, htake⟩
  · obtain ⟨v', w', h1, h2, h3, h4, _⟩ := run_append_strF (P := Tryd.prog) w 75 9 ty 5 i Tryd.underlying75 Tryd.underlying9 hi hz hsize hby (.slice none 0 0) 0 [] ⟨rfl, .inl ⟨rfl, rfl⟩⟩ s (by simpa using h63) (by simpa using hb)
    refine ⟨v', w', h1, ?_, h3, h4⟩
    rcases h2.2 with ⟨e, e0⟩ | ⟨g, cap, cur, fz, e, _, a1, a2, a3, a4, a5, a6⟩
    · refine .inl ⟨e, ?_⟩
      rw [List.nil_append]
      exact List.eq_nil_of_length_eq_zero (by rw [hsl]; omega)
    · refine .inr ⟨g, cap, cur, fz, by rw [e, List.nil_append, hsl, Nat.zero_add], a1, .inl (by rw [List.nil_append, hsl]; simpa using a2), by rw [List.nil_append, hsl]; simpa using a3, a4, by simpa using a5, ?_⟩
      rw [List.nil_append, hsl, show Lib.byteCells s.data.toList = Lib.strCells s from rfl]
      simpa using a6
  · by_cases hroom : l.length + s.size ≤ cap
    · have hr := run_append_room_M (P := Tryd.prog) w 75 9 ty 5 i Tryd.underlying75 Tryd.underlying9 hi hsize g l.length cap cur fz hg s (by rcases hfz with k | k; exact .inl k; exact .inr (by omega)) hroom (by omega)
      refine ⟨_, _, hr, .inr ⟨g, cap, _, fz, by rw [List.length_append, hsl], setRow_heap w g cur _ _ _ hg, ?_, by rw [List.length_append, hsl]; exact hroom, hcm, ?_, ?_⟩, ⟨rfl, rfl, rfl, by simp, fun k _ hk => setRow_other w g k _ (fun e => hk (by simp [Value.ownBlock, e]))⟩, .inl rfl⟩
      · rw [List.length_append]; rcases hfz with k | k
        · exact .inl (by omega)
        · exact .inr k
      · simp only [List.size_toArray, List.length_append, List.length_take, List.length_drop, Array.length_toList, Lib.strCells_length]
        omega
      · have e : (Lib.byteCells (l ++ s.data.toList)) = Lib.byteCells l ++ Lib.strCells s := by simp [Lib.byteCells, Lib.strCells]
        rw [e, htake, List.length_append, hsl]
        have hlen : (Lib.byteCells l ++ Lib.strCells s).length = l.length + s.size := by rw [List.length_append, byteCells_len, Lib.strCells_length]
        rw [← hlen]
        exact List.take_left
    · have holds : ∀ j u, (Lib.byteCells l)[j]? = some u → w.cell? ((⟨g, 0, none⟩ : Addr).add j) = some u := by
        intro j u hj
        have hlt : j < l.length := by have := (List.getElem?_eq_some_iff.1 hj).1; rwa [byteCells_len] at this
        rw [show ((⟨g, 0, none⟩ : Addr).add j) = ⟨g, j, none⟩ by unfold Addr.add; split <;> simp_all, cell_of_row _ _ _ _ _ _ hg]
        rw [← htake, List.getElem?_take_of_lt hlt] at hj
        rw [← Array.getElem?_toList]
        exact hj
      have hr := Lib.run_append_grow_string (P := Tryd.prog) w 75 9 ty 5 i (.int .u8 0) Tryd.underlying75 Tryd.underlying9 hi hz ⟨g, 0, none⟩ l.length cap (Lib.byteCells l) (by rw [hsize, byteCells_len, Nat.mul_one]) holds s (by omega) (by unfold maxLen at h63; omega) (by rw [hby]; exact growslice_fits (by omega) (by omega))
      have hge := grownCap_ge w (l.length + s.size) cap 5
      have hcm2 : grownCap w (l.length + s.size) cap 5 ≤ maxLen := grownCap_le_maxLen w (l.length + s.size) cap 5 h63
      refine ⟨_, _, hr, .inr ⟨w.heap.size, _, _, (0, 0), by rw [List.length_append, hsl], heap_alloc_new w.drew _, .inl (Nat.zero_le _), by rw [List.length_append, hsl]; exact hge, hcm2, ?_, ?_⟩, ⟨rfl, rfl, rfl, by simp, fun k hk _ => Below.heap_alloc w.drew _ k hk⟩, .inr ⟨_, rfl, Nat.le_refl _⟩⟩
      · have hz1 : (Value.int IntKind.u8 0).cells.size = 1 := rfl
        simp only [Array.size_append, List.size_toArray, size_zeroCells, hz1, byteCells_len, Lib.strCells_length]
        omega
      · have e : (Lib.byteCells (l ++ s.data.toList)) = Lib.byteCells l ++ Lib.strCells s := by simp [Lib.byteCells, Lib.strCells]
        have hlen : (Lib.byteCells l ++ Lib.strCells s).length = l.length + s.size := by rw [List.length_append, byteCells_len, Lib.strCells_length]
        rw [e, List.length_append, hsl]
        simp only [Array.toList_append, List.append_assoc]
        rw [← List.append_assoc, ← hlen]
        exact List.take_left
theorem wpList_append_mark {w : World} {ops : Array Oper} {rest : List Oper} {o : Oper} {a : Act} {Q : Exit → Act → World → Prop} (hgd : o.guard = none) (sl x : Operand)
    (ho : o.op = .call { callee := .builtin .append, args := #[sl, x], argTypes := #[75, 9] })
    (i : TypeInfo) (hi : Tryd.prog.info? 5 = some i) (hz : i.zero = some (.int .u8 0)) (hsize : i.size = 1) (hby : i.bytes = 1)
    (v : Value) (l : List UInt8) (hs : a.eval sl = v) (hown : MarkB w v l) (s : ByteArray) (hx : a.eval x = .string s) (hb : l.length + s.size ≤ 140737488355328) (h63 : l.length + s.size ≤ maxLen)
    (h : ∀ v' w', MarkB w' v' (l ++ s.data.toList) → w.grownBy w' v.ownBlock → Later w v.ownBlock v'.ownBlock → wpList Tryd.prog ops Q rest (a.put o.dst v') w') : wpList Tryd.prog ops Q (o :: rest) a w := by
  refine wpList_plain hgd fun K hK => ?_
  obtain ⟨v', w', hr, h2, h3, h4⟩ := hown.append o.type i hi hz hsize hby s hb h63
  unfold Oper.wp execOp
  simp only [ho, resolve, invoke, builtin, Sem.run_bind, Sem.run_pure, Result.andThen_ok, List.map_toArray, List.map_cons, List.map_nil, hs, hx, hr]
  exact hK _ _ (h v' w' h2 h3 h4)
end Go.Proofs.YtggogaaooacooaaDoor
