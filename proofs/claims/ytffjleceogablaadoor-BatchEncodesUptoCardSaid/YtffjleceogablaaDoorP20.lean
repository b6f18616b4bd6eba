/-
  What came in: each of its rows and texts within reach.
  Rows (api.Row) that came in.
-/
import Derived.Test.YtffjleceogablaaDoorP03
import Derived.SizedLaws
import Derived.Deep.Slices
import Derived.OpenShut
import Derived.ChangeAt
import Derived.WideShapes
import Derived.Test.YtffjleceogablaaDoorP06
import Derived.Test.YtffjleceogablaaDoorP19
import Derived.Test.YtffjleceogablaaDoorRows
namespace Go.Proofs.YtffjleceogablaaDoor
open Go.ChangeShapes Go.WideShapes Go.ChangeAt Go.RowKit
set_option maxRecDepth 100000

/-- Each of its rows and texts is within reach. -/
def Reach {H : Type} (t : TypeId) (d : DataW H) : Prop := ∀ n ∈ d.weights Tryd.prog t, n ≤ reachBytes
theorem weights_all {H : Type} {P : Program} {e : TypeId} : ∀ {l : List (DataW H)} {d : DataW H}, d ∈ l → ∀ n ∈ d.weights P e, n ∈ DataW.weightsAll P e l
  | [], _, h, _, _ => by cases h
  | x :: r, d, h, n, hn => by
    simp only [DataW.weightsAll, List.mem_append]
    rcases List.mem_cons.1 h with rfl | h
    · exact .inl hn
    · exact .inr (weights_all h n hn)
theorem Reach.each {H : Type} {ts : List TypeId} {ds : List (DataW H)} (h : (DataW.weightsEach Tryd.prog ts ds).all (· ≤ reachBytes) = true) {j : Nat} {t : TypeId} {d : DataW H} (ht : ts[j]? = some t) (hd : ds[j]? = some d) : Reach t d := fun n hn => by
  have := List.all_eq_true.1 h _ (DataW.weights_mem_each ht hd n hn)
  simpa using this
theorem Reach.slice {H : Type} {t e : TypeId} {l spare : List (DataW H)} (hu : Tryd.prog.underlying t = some (.slice e)) (h : Reach t (.slice l spare)) : l.length * Tryd.prog.bytesOf e ≤ reachBytes ∧ ∀ d ∈ l, Reach e d := by
  unfold Reach at h
  simp only [DataW.weights, hu, List.mem_cons, List.mem_append] at h
  refine ⟨?_, fun d hd n hn => h n (.inr (.inl (weights_all hd n hn)))⟩
  have := h _ (.inl rfl)
  have h2 := Nat.mul_le_mul_right (Tryd.prog.bytesOf e) (Nat.le_add_right l.length spare.length)
  omega
theorem Reach.part {H : Type} {t : TypeId} {fs : Array Field} {ps : List (DataW H)} (hu : Tryd.prog.underlying t = some (.struct fs)) (h : Reach t (.agg ps)) {j : Nat} {f : Field} {d : DataW H} (hf : fs[j]? = some f) (hd : ps[j]? = some d) : Reach f.type d := fun n hn => by
  unfold Reach at h
  simp only [DataW.weights, hu] at h
  exact h n (DataW.weights_mem_each (t := f.type) (by simp [hf]) hd n hn)
end Go.Proofs.YtffjleceogablaaDoor
namespace Go.Proofs.YtffjleceogablaaDoor
open Go.ChangeShapes Go.WideShapes Go.ChangeAt Go.RowKit
set_option maxRecDepth 100000

theorem cellsRowT : Tryd.prog.cellsOf 64 = 2 := by kernel_rfl
theorem bytesRowT : Tryd.prog.bytesOf 64 = 32 := by kernel_rfl
theorem cellsStrT : Tryd.prog.cellsOf 9 = 1 := by kernel_rfl
/-- One Row's cells that came in. -/
theorem row_of_trod {H : Type} {enc : TypeId × Value → H} {W : World} (fuel : Nat) (cs : List Value) (x : DataW H × List MemPlace) (hf : DataW.trod enc Tryd.prog W 0 (fun _ => true) true fuel 64 cs = some x) (hw : Reach 64 x.1) :
    ∃ r : Tb.R, cs = rowC r ∧ (r.1.length ≤ reachBytes ∧ r.2.length ≤ reachBytes) ∧ r.1.length + r.2.length ≤ Rows.uptoBulk x.1 := by
  obtain ⟨xs, n, _, hx, hcl, hxl, hel⟩ := DataW.trod_struct Tryd.underlying64 hf
  have hl : cs.length = 2 := by rw [hcl, cellsRowT]
  match cs, hl with
  | [c0, c1], _ =>
  have hx2 : xs.length = 2 := hxl
  match xs, hx2 with
  | [y0, y1], _ =>
  have t0 : DataW.trod enc Tryd.prog W 0 (fun _ => true) true n 9 (([c0, c1].drop 0).take (Tryd.prog.cellsOf 9)) = some y0 := hel 0 _ rfl
  have t1 : DataW.trod enc Tryd.prog W 0 (fun _ => true) true n 9 (([c0, c1].drop 1).take (Tryd.prog.cellsOf 9)) = some y1 := hel 1 _ rfl
  rw [cellsStrT] at t0 t1
  rw [hx] at hw
  have hw0 : Reach 9 y0.1 := hw.part Tryd.underlying64 (j := 0) rfl rfl
  have hw1 : Reach 9 y1.1 := hw.part Tryd.underlying64 (j := 1) rfl rfl
  simp only [List.drop_zero, List.drop_succ_cons, List.take_succ_cons, List.take_zero] at t0 t1
  obtain ⟨z0, e0, rfl, _⟩ := DataW.trod_string Tryd.underlying9 t0
  obtain ⟨z1, e1, rfl, _⟩ := DataW.trod_string Tryd.underlying9 t1
  simp only [List.cons.injEq, and_true] at e0 e1
  subst e0 e1
  refine ⟨(z0.data.toList, z1.data.toList), by simp [rowC, strV], ⟨hw0 _ (by simp [DataW.weights]), hw1 _ (by simp [DataW.weights])⟩, ?_⟩
  rw [hx]
  simp only [List.map_cons, List.map_nil, Rows.uptoBulk, Rows.uptoBulkAll]
  omega
theorem bytes_bulk {H : Type} : ∀ (rows : List Tb.R) (l : List (DataW H)), l.length = rows.length → (∀ (k : Nat) (o : Tb.R) (d : DataW H), rows[k]? = some o → l[k]? = some d → o.1.length + o.2.length ≤ Rows.uptoBulk d) → Tb.bytes rows ≤ Rows.uptoBulkAll l
  | [], _, _, _ => Nat.zero_le _
  | r :: rows, [], h, _ => by simp at h
  | r :: rows, d :: l, h, hk => by
    have ih := bytes_bulk rows l (by simpa using h) (fun k o d h1 h2 => hk (k + 1) o d (by simpa using h1) (by simpa using h2))
    have h0 := hk 0 r d rfl rfl
    have e : Tb.bytes (r :: rows) = r.1.length + r.2.length + Tb.bytes rows := by simp [Tb.bytes]
    rw [e]
    simp only [Rows.uptoBulkAll]
    omega
theorem bytes_each : ∀ (rows : List Tb.R), (∀ r ∈ rows, r.1.length ≤ reachBytes ∧ r.2.length ≤ reachBytes) → Tb.bytes rows ≤ rows.length * 281474976710656
  | [], _ => Nat.zero_le _
  | r :: rows, h => by
    have ih := bytes_each rows (fun x hx => h x (by simp [hx]))
    have h0 := h r (by simp)
    have e : Tb.bytes (r :: rows) = r.1.length + r.2.length + Tb.bytes rows := by simp [Tb.bytes]
    unfold reachBytes at h0
    rw [e, List.length_cons]
    omega
/-- The Rows that came in. -/
theorem rows_of_trod {H : Type} {enc : TypeId × Value → H} {W : World} {fuel : Nat} {c : Value} {y : DataW H × List MemPlace} (h : DataW.trod enc Tryd.prog W 0 (fun _ => true) true fuel 45 [c] = some y) (hw : Reach 45 y.1) :
    ∃ (g off : Nat) (rows : List Tb.R), RowsIn W c g off rows ∧ Tb.bytes rows ≤ rows.length * 281474976710656 ∧ Tb.bytes rows ≤ Rows.uptoBulk y.1 ∧ ∀ r ∈ rows, r.1.length ≤ 281474976710656 ∧ r.2.length ≤ 281474976710656 := by
  obtain ⟨g, off, os, h1, h2, h3⟩ := open_recsD (Q := Reach 64) (f := rowC) (R := fun r d => r.1.length + r.2.length ≤ Rows.uptoBulk d) (P := fun r => r.1.length ≤ reachBytes ∧ r.2.length ≤ reachBytes) Tryd.underlying45 cellsRowT (by decide) (fun _ => rfl) row_of_trod h (fun l spare e => by rw [e] at hw; exact (hw.slice Tryd.underlying45).2)
  refine ⟨g, off, os, h2 ?_, bytes_each os (fun r hr => by obtain ⟨k, hk⟩ := List.mem_iff_getElem?.1 hr; exact h1 k r hk), ?_, fun r hr => by obtain ⟨k, hk⟩ := List.mem_iff_getElem?.1 hr; have hh := h1 k r hk; unfold reachBytes at hh; exact ⟨by omega, by omega⟩⟩
  · rcases h3 with ⟨_, rfl⟩ | ⟨l, spare, e, hl, _⟩
    · simp
    · rw [e] at hw
      have := (hw.slice Tryd.underlying45).1
      rw [bytesRowT, hl] at this
      unfold reachBytes at this
      omega
  · rcases h3 with ⟨_, rfl⟩ | ⟨l, spare, e, hl, hR⟩
    · exact Nat.zero_le _
    · have := bytes_bulk os l hl hR
      rw [e]
      simp only [Rows.uptoBulk]
      omega
end Go.Proofs.YtffjleceogablaaDoor
