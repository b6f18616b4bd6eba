/-
  Layer 12, plain: how long a batch's bytes are; a cut; texts as bytes.
  Ops (api.Op) and rows (api.Row) that came in, and how heavy they are.
-/
import Derived.Test.YtffjleceogablaaDoorP25
import Derived.Test.YtffjleceogablaaDoorP20
namespace Go.Proofs.YtffjleceogablaaDoor
open Go.RowKit Go.WideShapes
set_option maxRecDepth 100000

namespace Bt
def wt (ops : List O) : Nat := (ops.map fun o => o.key.length + o.val.length + 4).sum
theorem wt_cons (o : O) (ops : List O) : wt (o :: ops) = o.key.length + o.val.length + 4 + wt ops := by simp [wt]
theorem wt_len (ops : List O) : ops.length * 4 ≤ wt ops := by
  induction ops with
  | nil => exact Nat.zero_le _
  | cons o os ih => rw [wt_cons, List.length_cons]; omega
theorem wt_op {ops : List O} {o : O} (h : o ∈ ops) : o.key.length + o.val.length + 4 ≤ wt ops := by
  induction ops with
  | nil => cases h
  | cons p os ih =>
    rw [wt_cons]
    rcases List.mem_cons.1 h with rfl | h
    · omega
    · have := ih h; omega
theorem textB_le {t : Tb.Txt} (h : t.length ≤ 1048576) : (Go.Proofs.YtffjleceogablaaDoor.textB t).length ≤ t.length + 10 := by
  unfold Go.Proofs.YtffjleceogablaaDoor.textB
  have := Lib.uvarint_length64 (x := t.length) (by omega)
  rw [List.length_append]
  omega
theorem opB_le {o : O} (hk : o.key.length ≤ 1048576) (hv : o.val.length ≤ 1048576) : (opB o).length ≤ 2097173 := by
  have h1 := textB_le hk
  have h2 := textB_le hv
  unfold opB
  split
  · rw [List.length_cons]; omega
  · rw [List.length_cons, List.length_append]; omega
theorem opsB_most : ∀ (ops : List O), (∀ o ∈ ops, o.key.length ≤ 1048576 ∧ o.val.length ≤ 1048576) → (opsB ops).length ≤ ops.length * 2097173
  | [], _ => Nat.zero_le _
  | o :: os, h => by
    have ih := opsB_most os (fun p hp => h p (by simp [hp]))
    have h0 := opB_le (h o (by simp)).1 (h o (by simp)).2
    have e : opsB (o :: os) = opB o ++ opsB os := by simp [opsB]
    rw [e, List.length_append, List.length_cons]
    omega
theorem encB_most {ops : List O} (hl : ops.length ≤ 262144) (h : ∀ o ∈ ops, o.key.length ≤ 1048576 ∧ o.val.length ≤ 1048576) : (encB ops).length ≤ 549762596864 := by
  have h1 := opsB_most ops h
  have h2 := Lib.uvarint_length64 (x := ops.length) (by omega)
  unfold encB
  rw [List.length_append]
  omega
theorem clean_key (o : O) : (clean o).key = o.key := rfl
theorem clean_val (o : O) : (clean o).val.length ≤ o.val.length := by unfold clean; split <;> simp
/-- The normal form of what is light is light enough. -/
theorem normal_light {ops : List O} (h : wt ops ≤ 1048576) : (normal ops).length ≤ 262144 ∧ ∀ o ∈ normal ops, o.key.length ≤ 1048576 ∧ o.val.length ≤ 1048576 := by
  refine ⟨by have := normal_length ops; have := wt_len ops; omega, fun o ho => ?_⟩
  obtain ⟨p, hp, e⟩ := normal_mem ho
  have h1 := wt_op hp
  have h2 := clean_val p
  rw [← e, clean_key]
  omega
end Bt
theorem cutB_at (cut : Int) {n : Nat} (hn : 0 < n) (hl : n ≤ 1125899906842624) : ∃ c : Nat, c < n ∧ wrap64 ((IntKind.u64.wrap cut).tmod (n : Int)) = (c : Int) := by
  have h0 : 0 ≤ IntKind.u64.wrap cut := by rw [IntKind.wrap_u64]; omega
  have h1 : (IntKind.u64.wrap cut).tmod (n : Int) = IntKind.u64.wrap cut % (n : Int) := Int.tmod_eq_emod_of_nonneg h0
  have h2 : 0 ≤ IntKind.u64.wrap cut % (n : Int) := Int.emod_nonneg _ (by omega)
  have h3 : IntKind.u64.wrap cut % (n : Int) < n := Int.emod_lt_of_pos _ (by omega)
  rw [h1]
  refine ⟨(IntKind.u64.wrap cut % (n : Int)).toNat, by omega, ?_⟩
  unfold wrap64
  omega
theorem extract_list (s : ByteArray) (c : Nat) : (s.extract 0 c).data.toList = s.data.toList.take c := by
  rw [Lib.extract_data, List.drop_zero, Nat.sub_zero]
end Go.Proofs.YtffjleceogablaaDoor
namespace Go.Proofs.YtffjleceogablaaDoor
open Go.ChangeShapes Go.WideShapes Go.ChangeAt Go.RowKit
set_option maxRecDepth 100000

theorem cellsOpB : Tryd.prog.cellsOf 29 = 3 := by kernel_rfl
theorem bytesOpB : Tryd.prog.bytesOf 29 = 40 := by kernel_rfl
theorem cellsBoolB : Tryd.prog.cellsOf 4 = 1 := by kernel_rfl
/-- One Op's cells that came in. -/
theorem op_of_trod {H : Type} {enc : TypeId × Value → H} {W : World} (fuel : Nat) (cs : List Value) (x : DataW H × List MemPlace) (hf : DataW.trod enc Tryd.prog W 0 (fun _ => true) true fuel 29 cs = some x) (_ : Reach 29 x.1) :
    ∃ r : Bt.O, cs = opC r ∧ True ∧ r.key.length + r.val.length + 4 ≤ Rows.uptoBulk x.1 := by
  obtain ⟨xs, n, _, hx, hcl, hxl, hel⟩ := DataW.trod_struct Tryd.underlying29 hf
  have hl : cs.length = 3 := by rw [hcl, cellsOpB]
  match cs, hl with
  | [c0, c1, c2], _ =>
  have hx2 : xs.length = 3 := hxl
  match xs, hx2 with
  | [y0, y1, y2], _ =>
  have t0 : DataW.trod enc Tryd.prog W 0 (fun _ => true) true n 4 (([c0, c1, c2].drop 0).take (Tryd.prog.cellsOf 4)) = some y0 := hel 0 _ rfl
  have t1 : DataW.trod enc Tryd.prog W 0 (fun _ => true) true n 9 (([c0, c1, c2].drop 1).take (Tryd.prog.cellsOf 9)) = some y1 := hel 1 _ rfl
  have t2 : DataW.trod enc Tryd.prog W 0 (fun _ => true) true n 9 (([c0, c1, c2].drop 2).take (Tryd.prog.cellsOf 9)) = some y2 := hel 2 _ rfl
  rw [cellsStrT] at t1 t2
  rw [cellsBoolB] at t0
  simp only [List.drop_zero, List.drop_succ_cons, List.take_succ_cons, List.take_zero] at t0 t1 t2
  obtain ⟨z0, e0, rfl⟩ := DataW.trod_bool Tryd.underlying4 t0
  obtain ⟨z1, e1, rfl, _⟩ := DataW.trod_string Tryd.underlying9 t1
  obtain ⟨z2, e2, rfl, _⟩ := DataW.trod_string Tryd.underlying9 t2
  simp only [List.cons.injEq, and_true] at e0 e1 e2
  subst e0 e1 e2
  refine ⟨⟨z0, z1.data.toList, z2.data.toList⟩, by simp [opC, strV], trivial, ?_⟩
  rw [hx]
  simp only [List.map_cons, List.map_nil, Rows.uptoBulk, Rows.uptoBulkAll]
  omega
theorem wt_bulk {H : Type} : ∀ (ops : List Bt.O) (l : List (DataW H)), l.length = ops.length → (∀ (k : Nat) (o : Bt.O) (d : DataW H), ops[k]? = some o → l[k]? = some d → o.key.length + o.val.length + 4 ≤ Rows.uptoBulk d) → Bt.wt ops ≤ Rows.uptoBulkAll l
  | [], _, _, _ => Nat.zero_le _
  | r :: ops, [], h, _ => by simp at h
  | r :: ops, d :: l, h, hk => by
    have ih := wt_bulk ops l (by simpa using h) (fun k o d h1 h2 => hk (k + 1) o d (by simpa using h1) (by simpa using h2))
    have h0 := hk 0 r d rfl rfl
    rw [Bt.wt_cons]
    simp only [Rows.uptoBulkAll]
    omega
/-- The Ops that came in. -/
theorem ops12_of_trod {H : Type} {enc : TypeId × Value → H} {W : World} {fuel : Nat} {c : Value} {y : DataW H × List MemPlace} (h : DataW.trod enc Tryd.prog W 0 (fun _ => true) true fuel 22 [c] = some y) (hw : Reach 22 y.1) :
    ∃ (g off : Nat) (ops : List Bt.O), OpsIn W c g off ops ∧ Bt.wt ops ≤ Rows.uptoBulk y.1 := by
  obtain ⟨g, off, os, h1, h2, h3⟩ := open_recsD (Q := Reach 29) (f := opC) (R := fun o d => o.key.length + o.val.length + 4 ≤ Rows.uptoBulk d) (P := fun _ => True) Tryd.underlying22 cellsOpB (by decide) (fun _ => rfl) op_of_trod h (fun l spare e => by rw [e] at hw; exact (hw.slice Tryd.underlying22).2)
  refine ⟨g, off, os, h2 ?_, ?_⟩
  · rcases h3 with ⟨_, rfl⟩ | ⟨l, spare, e, hl, _⟩
    · simp
    · rw [e] at hw
      have := (hw.slice Tryd.underlying22).1
      rw [bytesOpB, hl] at this
      unfold reachBytes at this
      omega
  · rcases h3 with ⟨_, rfl⟩ | ⟨l, spare, e, hl, hR⟩
    · exact Nat.zero_le _
    · have := wt_bulk os l hl hR
      rw [e]
      simp only [Rows.uptoBulk]
      omega
/-- One Row's cells that came in. -/
theorem row12_of_trod {H : Type} {enc : TypeId × Value → H} {W : World} (fuel : Nat) (cs : List Value) (x : DataW H × List MemPlace) (hf : DataW.trod enc Tryd.prog W 0 (fun _ => true) true fuel 64 cs = some x) (_ : Reach 64 x.1) :
    ∃ r : Tb.R, cs = rowC r ∧ True ∧ r.1.length + r.2.length + 3 ≤ Rows.uptoBulk x.1 := by
  obtain ⟨xs, n, _, hx, hcl, hxl, hel⟩ := DataW.trod_struct Tryd.underlying64 hf
  have hl : cs.length = 2 := by rw [hcl, cellsRowT]
  match cs, hl with
  | [c0, c1], _ =>
  have hx2 : xs.length = 2 := hxl
  match xs, hx2 with
  | [y0, y1], _ =>
  have t0 : DataW.trod enc Tryd.prog W 0 (fun _ => true) true n 9 (([c0, c1].drop 0).take (Tryd.prog.cellsOf 9)) = some y0 := hel 0 _ rfl
  have t1 : DataW.trod enc Tryd.prog W 0 (fun _ => true) true n 9 (([c0, c1].drop 1).take (Tryd.prog.cellsOf 9)) = some y1 := hel 1 _ rfl
  rw [cellsStrT] at t0 t1
  simp only [List.drop_zero, List.drop_succ_cons, List.take_succ_cons, List.take_zero] at t0 t1
  obtain ⟨z0, e0, rfl, _⟩ := DataW.trod_string Tryd.underlying9 t0
  obtain ⟨z1, e1, rfl, _⟩ := DataW.trod_string Tryd.underlying9 t1
  simp only [List.cons.injEq, and_true] at e0 e1
  subst e0 e1
  refine ⟨(z0.data.toList, z1.data.toList), by simp [rowC, strV], trivial, ?_⟩
  rw [hx]
  simp only [List.map_cons, List.map_nil, Rows.uptoBulk, Rows.uptoBulkAll]
  omega
theorem rows_bulk12 {H : Type} : ∀ (rows : List Tb.R) (l : List (DataW H)), l.length = rows.length → (∀ (k : Nat) (o : Tb.R) (d : DataW H), rows[k]? = some o → l[k]? = some d → o.1.length + o.2.length + 3 ≤ Rows.uptoBulk d) → Tb.bytes rows + rows.length ≤ Rows.uptoBulkAll l
  | [], _, _, _ => Nat.zero_le _
  | r :: rows, [], h, _ => by simp at h
  | r :: rows, d :: l, h, hk => by
    have ih := rows_bulk12 rows l (by simpa using h) (fun k o d h1 h2 => hk (k + 1) o d (by simpa using h1) (by simpa using h2))
    have h0 := hk 0 r d rfl rfl
    rw [Tb.bytes_cons, List.length_cons]
    simp only [Rows.uptoBulkAll]
    omega
/-- The Rows that came in. -/
theorem rows12_of_trod {H : Type} {enc : TypeId × Value → H} {W : World} {fuel : Nat} {c : Value} {y : DataW H × List MemPlace} (h : DataW.trod enc Tryd.prog W 0 (fun _ => true) true fuel 45 [c] = some y) (hw : Reach 45 y.1) :
    ∃ (g off : Nat) (rows : List Tb.R), RowsIn W c g off rows ∧ Tb.bytes rows + rows.length ≤ Rows.uptoBulk y.1 := by
  obtain ⟨g, off, os, h1, h2, h3⟩ := open_recsD (Q := Reach 64) (f := rowC) (R := fun r d => r.1.length + r.2.length + 3 ≤ Rows.uptoBulk d) (P := fun _ => True) Tryd.underlying45 cellsRowT (by decide) (fun _ => rfl) row12_of_trod h (fun l spare e => by rw [e] at hw; exact (hw.slice Tryd.underlying45).2)
  refine ⟨g, off, os, h2 ?_, ?_⟩
  · rcases h3 with ⟨_, rfl⟩ | ⟨l, spare, e, hl, _⟩
    · simp
    · rw [e] at hw
      have := (hw.slice Tryd.underlying45).1
      rw [bytesRowT, hl] at this
      unfold reachBytes at this
      omega
  · rcases h3 with ⟨_, rfl⟩ | ⟨l, spare, e, hl, hR⟩
    · exact Nat.zero_le _
    · have := rows_bulk12 os l hl hR
      rw [e]
      simp only [Rows.uptoBulk]
      omega
end Go.Proofs.YtffjleceogablaaDoor
