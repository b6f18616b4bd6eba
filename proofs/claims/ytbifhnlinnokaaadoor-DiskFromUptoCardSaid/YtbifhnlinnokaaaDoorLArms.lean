/-
  DiskArms' contract.
-/
import Derived.Test.YtbifhnlinnokaaaDoorLLives
namespace Go.Proofs.YtbifhnlinnokaaaDoor
open Go.RowKit Go.WideShapes
set_option maxRecDepth 100000

/-- A []Op that came in, in block g from off on. -/
structure Script (W : World) (v : Value) (g off : Nat) (os : List OpD) : Prop where
  val : ∃ a cap, v = .slice a os.length cap ∧ (os ≠ [] → a = some ⟨g, off, none⟩)
  le : os.length ≤ 1048576
  cells : ∀ (k : Nat) (o : OpD), os[k]? = some o → ∀ (j : Nat) (u : Value), o.list[j]? = some u → W.cell? ⟨g, off + k * 7 + j, none⟩ = some u
  each : ∀ (k : Nat) (o : OpD), os[k]? = some o → o.Ok ∧ Bools W o.kv o.f.kept

theorem Script.elem {W : World} {v : Value} {g off : Nat} {os : List OpD} (h : Script W v g off os) {k : Nat} (hk : k < os.length) : ∃ o cap, os[k]? = some o ∧ v = .slice (some ⟨g, off, none⟩) os.length cap := by
  obtain ⟨a, cap, rfl, ha⟩ := h.val
  have hne : os ≠ [] := by rintro rfl; simp at hk
  obtain rfl := ha hne
  exact ⟨os[k], cap, List.getElem?_eq_getElem hk, rfl⟩

/-- The script's cells later in the call. -/
theorem Script.since {W W' : World} {v : Value} {g off : Nat} {os : List OpD} (h : Script W v g off os) (hS : Since W.heap.size W W') {k : Nat} {o : OpD} (hk : os[k]? = some o) (j : Nat) (u : Value) (hj : o.list[j]? = some u) : W'.cell? ⟨g, off + k * 7 + j, none⟩ = some u := by
  have hc := h.cells k o hk j u hj
  exact hS.cellv hc (fun e => absurd (World.block_lt_of_cell? W _ hc) (Nat.not_lt_of_le e))

/-- The cells of an Op in block g. -/
def OpCells (g : Nat) (o : OpD) (W' : World) : Prop := W'.cell? ⟨g, 0, none⟩ = some (.int .i64 o.kind) ∧ W'.cell? ⟨g, 1, none⟩ = some (.int .i64 o.i) ∧ W'.cell? ⟨g, 2, none⟩ = some (.string o.s) ∧ W'.cell? ⟨g, 3, none⟩ = some (.int .u8 o.fill.toNat) ∧ W'.cell? ⟨g, 4, none⟩ = some o.kv ∧ W'.cell? ⟨g, 5, none⟩ = some (.int .i64 o.f.torn) ∧ W'.cell? ⟨g, 6, none⟩ = some (.int .i64 o.f.bytes)

/-- An Op laid into a new block. -/
theorem laid_op (w : World) (o : OpD) : ∃ W, w.alloc (.cells #[.int .i64 o.kind, .int .i64 o.i, .string o.s, .int .u8 o.fill.toNat, o.kv, .int .i64 o.f.torn, .int .i64 o.f.bytes] 44) = W ∧ Qt w W ∧ (∀ (S : Nat → Prop) (W' : World), ¬ S w.heap.size → Keeps S W W' → OpCells w.heap.size o W') := by
  refine ⟨_, rfl, (Qt.refl w).alloc _, fun S W' hn q => ?_⟩
  have hb := heap_alloc_new w (.cells #[.int .i64 o.kind, .int .i64 o.i, .string o.s, .int .u8 o.fill.toNat, o.kv, .int .i64 o.f.torn, .int .i64 o.f.bytes] 44)
  have hb' := (q.block _ (lt_of_block hb) hn).trans hb
  refine ⟨?_, ?_, ?_, ?_, ?_, ?_, ?_⟩ <;> (rw [cell_of_row W' _ _ _ _ _ hb']; rfl)

/-- A disk's blocks are there. -/
theorem DiskAt.there {W : World} {b : Nat} {d : DS} {S : Nat → Prop} (h : DiskAt W b d S) : DiskAt W b d (fun k => S k ∧ k < W.heap.size) := by
  obtain ⟨gd, mb, uv, h, hS⟩ := h
  exact ⟨gd, mb, uv, h, fun k hk => ⟨hS k hk, h.lt k hk⟩⟩

/-- What DiskArms keeps round by round. -/
structure ArmsI (k : Int) (n : Nat) (d : DS) (dn : Nat) : Prop where
  off : d.off = false
  sum : d.wr + d.fl = dn
  up : 0 ≤ k → d.armed = k - dn ∧ (dn : Int) ≤ k
  down : k < 0 → d.armed = -1
  ways : d.ways.length ≤ n
  le : dn ≤ n
  cr : d.cr = 0

theorem ArmsI.few {k : Int} {n : Nat} {d : DS} {dn : Nat} (h : ArmsI k n d dn) (hn : n ≤ 1048576) : d.Few := by
  have := h.ways; have := h.le; have := h.sum; have := h.cr
  exact ⟨by omega, by omega, by omega, by omega⟩
theorem ArmsI.start {k : Int} (_hk : k ≤ 9223372036854775807) : ArmsI k 0 ((DS.newD 3).armD k) 0 := by
  refine ⟨rfl, rfl, fun h => ?_, fun h => ?_, Nat.le_refl _, Nat.le_refl _, rfl⟩
  · simp only [DS.armD]; omega
  · simp only [DS.armD]; omega
theorem ArmsI.skip {k : Int} {n : Nat} {d : DS} {dn : Nat} (h : ArmsI k n d dn) : ArmsI k (n + 1) d dn := ⟨h.off, h.sum, h.up, h.down, Nat.le_succ_of_le h.ways, Nat.le_succ_of_le h.le, h.cr⟩

/-- A write: told, and not the power: nothing; done: one more; the power went: the count was nought. -/
theorem ArmsI.write {k : Int} {n : Nat} {d : DS} {dn : Nat} (h : ArmsI k n d dn) (i : Int) (s : List UInt8) :
    (d.writeE i s = 0 ∧ ArmsI k (n + 1) (d.writeD i s) (dn + 1) ∧ (0 ≤ k → (dn : Int) + 1 ≤ k)) ∨
    (d.writeE i s = 12 ∧ 0 ≤ k ∧ (dn : Int) = k ∧ (d.writeD i s).off = true) ∨ ((d.writeE i s = 6 ∨ d.writeE i s = 7) ∧ d.writeD i s = d) := by
  by_cases hr : d.reach i = 0
  · by_cases hs : s.length = 256
    · have ho := h.off
      have hc := h.cr
      by_cases h0 : d.armed = 0
      · have e1 : d.writeE i s = 12 := by unfold DS.writeE; rw [if_neg (by simp [hr]), if_neg (by simp [hs]), if_pos h0]
        have e2 : (d.writeD i s).off = true := by unfold DS.writeD; rw [if_neg (by simp [hr]), if_neg (by simp [hs]), if_pos h0]
        refine .inr (.inl ⟨e1, ?_, ?_, e2⟩)
        · rcases Int.lt_or_le k 0 with q | q
          · have := h.down q; omega
          · exact q
        · rcases Int.lt_or_le k 0 with q | q
          · have := h.down q; omega
          · have := h.up q; omega
      · have e1 : d.writeE i s = 0 := by unfold DS.writeE; rw [if_neg (by simp [hr]), if_neg (by simp [hs]), if_neg h0]
        have e2 : d.writeD i s = { d with ways := d.ways ++ [(i.toNat, s)], armed := dec d.armed, wr := d.wr + 1 } := by unfold DS.writeD; rw [if_neg (by simp [hr]), if_neg (by simp [hs]), if_neg h0]
        refine .inl ⟨e1, ?_, fun q => by have := h.up q; omega⟩
        rw [e2]
        refine ⟨ho, by have := h.sum; simp only; omega, fun q => ?_, fun q => ?_, ?_, by have := h.le; omega, hc⟩
        · have := h.up q; simp only [dec]; split <;> omega
        · have := h.down q; simp only [dec]; split <;> omega
        · have := h.ways; simp; omega
    · refine .inr (.inr ⟨.inr ?_, ?_⟩)
      · unfold DS.writeE; rw [if_neg (by simp [hr]), if_pos hs]
      · unfold DS.writeD; rw [if_neg (by simp [hr]), if_pos hs]
  · refine .inr (.inr ⟨.inl ?_, ?_⟩)
    · unfold DS.writeE; rw [if_pos hr]; unfold DS.reach at hr ⊢; rw [h.off] at hr ⊢; simp only [Bool.false_eq_true, if_false] at hr ⊢; split at hr
      · rename_i q; rw [if_pos q]
      · exact absurd rfl hr
    · unfold DS.writeD; rw [if_pos hr]

theorem ArmsI.flush {k : Int} {n : Nat} {d : DS} {dn : Nat} (h : ArmsI k n d dn) :
    (d.flushE = 0 ∧ ArmsI k (n + 1) d.flushD (dn + 1) ∧ (0 ≤ k → (dn : Int) + 1 ≤ k)) ∨ (d.flushE = 12 ∧ 0 ≤ k ∧ (dn : Int) = k ∧ d.flushD.off = true) := by
  have ho := h.off
  have hc := h.cr
  by_cases h0 : d.armed = 0
  · have e1 : d.flushE = 12 := by unfold DS.flushE; rw [if_neg (by simp [ho]), if_pos h0]
    have e2 : d.flushD.off = true := by unfold DS.flushD; rw [if_neg (by simp [ho]), if_pos h0]
    refine .inr ⟨e1, ?_, ?_, e2⟩
    · rcases Int.lt_or_le k 0 with q | q
      · have := h.down q; omega
      · exact q
    · rcases Int.lt_or_le k 0 with q | q
      · have := h.down q; omega
      · have := h.up q; omega
  · have e1 : d.flushE = 0 := by unfold DS.flushE; rw [if_neg (by simp [ho]), if_neg h0]
    have e2 : d.flushD = { d with dur := flushTo d.dur d.ways d.ways.length, ways := [], armed := dec d.armed, fl := d.fl + 1 } := by unfold DS.flushD; rw [if_neg (by simp [ho]), if_neg h0]
    refine .inl ⟨e1, ?_, fun q => by have := h.up q; omega⟩
    rw [e2]
    refine ⟨ho, by have := h.sum; simp only; omega, fun q => ?_, fun q => ?_, Nat.zero_le _, by have := h.le; omega, hc⟩
    · have := h.up q; simp only [dec]; split <;> omega
    · have := h.down q; simp only [dec]; split <;> omega
end Go.Proofs.YtbifhnlinnokaaaDoor
