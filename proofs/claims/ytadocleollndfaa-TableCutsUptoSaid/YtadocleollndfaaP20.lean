/-
  A row of structs that came in, of any plain fields, opened.
  What came in: each of its rows and texts within reach.
  Rows (api.Row) that came in.
-/
import Derived.Test.YtadocleollndfaaP03
import Derived.ChangeSlices
import Derived.SizedLaws
import Derived.Deep.Slices
import Derived.OpenShut
import Derived.ChangeAt
import Derived.WideShapes
import Derived.Test.YtadocleollndfaaP02
import Derived.Test.YtadocleollndfaaP04
import Derived.Test.YtadocleollndfaaRows
namespace Go.Proofs.Ytadocleollndfaa
open Go.ChangeShapes Go.WideShapes Go.ChangeAt Go.RowKit
set_option maxRecDepth 100000

theorem choose7 {α : Type} {Q : Nat → α → Prop} : ∀ (n : Nat), (∀ k, k < n → ∃ o, Q k o) → ∃ os : List α, os.length = n ∧ ∀ (k : Nat) (o : α), os[k]? = some o → Q k o
  | 0, _ => ⟨[], rfl, fun k o h => by simp at h⟩
  | n + 1, h => by
    obtain ⟨os, hl, ho⟩ := choose7 n (fun k hk => h k (by omega))
    obtain ⟨o, hq⟩ := h n (by omega)
    refine ⟨os ++ [o], by simp [hl], fun k o' hk => ?_⟩
    by_cases hkn : k < n
    · rw [List.getElem?_append_left (by omega)] at hk
      exact ho k o' hk
    · rw [List.getElem?_append_right (by omega)] at hk
      have hk0 : k - os.length = 0 := by
        have := (List.getElem?_eq_some_iff.1 hk).1
        simp at this
        omega
      rw [hk0] at hk
      simp at hk
      subst hk
      have : k = n := by omega
      subst this
      exact hq

/-- A ROW OF STRUCTS THAT CAME IN; Q: what is known of each element's data. -/
theorem open_recsQ {α H : Type} {Q : DataW H → Prop} {enc : TypeId × Value → H} {W : World} {T E : TypeId} {n : Nat} {f : α → List Value} {P : α → Prop} (hu : Try.prog.underlying T = some (.slice E)) (hn : Try.prog.cellsOf E = n) (hn0 : 0 < n) (hfl : ∀ o, (f o).length = n)
    (hone : ∀ (fuel : Nat) (cs : List Value) (x : DataW H × List MemPlace), DataW.trod enc Try.prog W 0 (fun _ => true) true fuel E cs = some x → Q x.1 → ∃ o, cs = f o ∧ P o)
    {fuel : Nat} {c : Value} {y : DataW H × List MemPlace} (h : DataW.trod enc Try.prog W 0 (fun _ => true) true fuel T [c] = some y) (hQ : ∀ l spare, y.1 = .slice l spare → ∀ d ∈ l, Q d) :
    ∃ (g off : Nat) (os : List α), (∀ (k : Nat) (o : α), os[k]? = some o → P o) ∧ (os.length ≤ 17592186044416 → Recs n f W c g off os) ∧ ((y.1 = .nil ∧ os = []) ∨ ∃ l spare, y.1 = .slice l spare ∧ l.length = os.length) := by
  rcases Go.Deep.open_slice hu h with ⟨hcs, hx⟩ | ⟨a, len, cap, m, n', D, Pl, hcs, _, hl, hm, hmc, hx, hel⟩
  · simp at hcs
    subst hcs
    exact ⟨0, 0, [], fun k o hk => by simp at hk, fun _ => ⟨⟨none, 0, rfl, fun h => absurd rfl h⟩, by simp, fun k o hk => by simp at hk⟩, .inl ⟨by rw [hx], rfl⟩⟩
  · simp at hcs
    subst hcs
    simp only [if_true] at hmc
    rw [hn] at hel
    obtain ⟨b, off, spot⟩ := a
    have hone' : ∀ k, k < len → ∃ (p : α), W.cells? 0 ((⟨b, off, spot⟩ : Addr).add (k * n)) n = some (f p) ∧ P p := by
      intro k hk
      obtain ⟨cs', hcs', ht⟩ := hel k (by omega)
      obtain ⟨p, rfl, hP⟩ := hone _ _ _ ht (hQ _ _ (by rw [hx]) _ (List.mem_map.2 ⟨k, List.mem_range.2 hk, rfl⟩))
      exact ⟨p, hcs', hP⟩
    obtain ⟨ps, hol, hps⟩ := choose7 len hone'
    have hspot : ps ≠ [] → spot = none := by
      intro hne
      obtain ⟨p, r, rfl⟩ := List.exists_cons_of_ne_nil hne
      have h0 := (World.cells?_some (hps 0 p rfl).1).2.2 0 hn0
      obtain ⟨u, hu0⟩ : ∃ u, (f p)[0]? = some u := ⟨(f p)[0]'(by rw [hfl]; exact hn0), List.getElem?_eq_getElem _⟩
      rw [hu0] at h0
      simpa [Addr.add] using World.cell?_spot h0
    refine ⟨b, off, ps, fun k o hk => (hps k o hk).2, fun hle => ⟨⟨some ⟨b, off, spot⟩, cap, by rw [hol], fun hne => by rw [hspot hne]⟩, hle, fun k p hk j u hj => ?_⟩, .inr ⟨_, _, by rw [hx], by simp [hol]⟩⟩
    have hne : ps ≠ [] := by rintro rfl; simp at hk
    obtain rfl := hspot hne
    have hj3 : j < n := by have := (List.getElem?_eq_some_iff.1 hj).1; rw [hfl] at this; exact this
    have h0 := (World.cells?_some (hps k p hk).1).2.2 j hj3
    rw [add_plain, add_plain] at h0
    exact h0.trans hj
/-- The same, and how each stands to its datum. -/
theorem open_recsD {α H : Type} {Q : DataW H → Prop} {R : α → DataW H → Prop} {enc : TypeId × Value → H} {W : World} {T E : TypeId} {n : Nat} {f : α → List Value} {P : α → Prop} (hu : Try.prog.underlying T = some (.slice E)) (hn : Try.prog.cellsOf E = n) (hn0 : 0 < n) (hfl : ∀ o, (f o).length = n)
    (hone : ∀ (fuel : Nat) (cs : List Value) (x : DataW H × List MemPlace), DataW.trod enc Try.prog W 0 (fun _ => true) true fuel E cs = some x → Q x.1 → ∃ o, cs = f o ∧ P o ∧ R o x.1)
    {fuel : Nat} {c : Value} {y : DataW H × List MemPlace} (h : DataW.trod enc Try.prog W 0 (fun _ => true) true fuel T [c] = some y) (hQ : ∀ l spare, y.1 = .slice l spare → ∀ d ∈ l, Q d) :
    ∃ (g off : Nat) (os : List α), (∀ (k : Nat) (o : α), os[k]? = some o → P o) ∧ (os.length ≤ 17592186044416 → Recs n f W c g off os) ∧ ((y.1 = .nil ∧ os = []) ∨ ∃ l spare, y.1 = .slice l spare ∧ l.length = os.length ∧ ∀ (k : Nat) (o : α) (d : DataW H), os[k]? = some o → l[k]? = some d → R o d) := by
  rcases Go.Deep.open_slice hu h with ⟨hcs, hx⟩ | ⟨a, len, cap, m, n', D, Pl, hcs, _, hl, hm, hmc, hx, hel⟩
  · simp at hcs
    subst hcs
    exact ⟨0, 0, [], fun k o hk => by simp at hk, fun _ => ⟨⟨none, 0, rfl, fun h => absurd rfl h⟩, by simp, fun k o hk => by simp at hk⟩, .inl ⟨by rw [hx], rfl⟩⟩
  · simp at hcs
    subst hcs
    simp only [if_true] at hmc
    rw [hn] at hel
    obtain ⟨b, off, spot⟩ := a
    have hone' : ∀ k, k < len → ∃ (p : α), W.cells? 0 ((⟨b, off, spot⟩ : Addr).add (k * n)) n = some (f p) ∧ P p ∧ R p (D k) := by
      intro k hk
      obtain ⟨cs', hcs', ht⟩ := hel k (by omega)
      obtain ⟨p, rfl, hP, hR⟩ := hone _ _ _ ht (hQ _ _ (by rw [hx]) _ (List.mem_map.2 ⟨k, List.mem_range.2 hk, rfl⟩))
      exact ⟨p, hcs', hP, hR⟩
    obtain ⟨ps, hol, hps⟩ := choose7 len hone'
    have hspot : ps ≠ [] → spot = none := by
      intro hne
      obtain ⟨p, r, rfl⟩ := List.exists_cons_of_ne_nil hne
      have h0 := (World.cells?_some (hps 0 p rfl).1).2.2 0 hn0
      obtain ⟨u, hu0⟩ : ∃ u, (f p)[0]? = some u := ⟨(f p)[0]'(by rw [hfl]; exact hn0), List.getElem?_eq_getElem _⟩
      rw [hu0] at h0
      simpa [Addr.add] using World.cell?_spot h0
    refine ⟨b, off, ps, fun k o hk => (hps k o hk).2.1, fun hle => ⟨⟨some ⟨b, off, spot⟩, cap, by rw [hol], fun hne => by rw [hspot hne]⟩, hle, fun k p hk j u hj => ?_⟩, .inr ⟨_, _, by rw [hx], by simp [hol], fun k o d hk hd => ?_⟩⟩
    · have hne : ps ≠ [] := by rintro rfl; simp at hk
      obtain rfl := hspot hne
      have hj3 : j < n := by have := (List.getElem?_eq_some_iff.1 hj).1; rw [hfl] at this; exact this
      have h0 := (World.cells?_some (hps k p hk).1).2.2 j hj3
      rw [add_plain, add_plain] at h0
      exact h0.trans hj
    · have hk2 : k < len := by have := (List.getElem?_eq_some_iff.1 hk).1; omega
      rw [List.getElem?_map, List.getElem?_range hk2] at hd
      have e : D k = d := Option.some.inj hd
      exact e ▸ (hps k o hk).2.2
end Go.Proofs.Ytadocleollndfaa
namespace Go.Proofs.Ytadocleollndfaa
open Go.ChangeShapes Go.WideShapes Go.ChangeAt Go.RowKit
set_option maxRecDepth 100000

/-- Each of its rows and texts is within reach. -/
def Reach {H : Type} (t : TypeId) (d : DataW H) : Prop := ∀ n ∈ d.weights Try.prog t, n ≤ reachBytes
theorem weights_all {H : Type} {P : Program} {e : TypeId} : ∀ {l : List (DataW H)} {d : DataW H}, d ∈ l → ∀ n ∈ d.weights P e, n ∈ DataW.weightsAll P e l
  | [], _, h, _, _ => by cases h
  | x :: r, d, h, n, hn => by
    simp only [DataW.weightsAll, List.mem_append]
    rcases List.mem_cons.1 h with rfl | h
    · exact .inl hn
    · exact .inr (weights_all h n hn)
theorem Reach.each {H : Type} {ts : List TypeId} {ds : List (DataW H)} (h : (DataW.weightsEach Try.prog ts ds).all (· ≤ reachBytes) = true) {j : Nat} {t : TypeId} {d : DataW H} (ht : ts[j]? = some t) (hd : ds[j]? = some d) : Reach t d := fun n hn => by
  have := List.all_eq_true.1 h _ (DataW.weights_mem_each ht hd n hn)
  simpa using this
theorem Reach.slice {H : Type} {t e : TypeId} {l spare : List (DataW H)} (hu : Try.prog.underlying t = some (.slice e)) (h : Reach t (.slice l spare)) : l.length * Try.prog.bytesOf e ≤ reachBytes ∧ ∀ d ∈ l, Reach e d := by
  unfold Reach at h
  simp only [DataW.weights, hu, List.mem_cons, List.mem_append] at h
  refine ⟨?_, fun d hd n hn => h n (.inr (.inl (weights_all hd n hn)))⟩
  have := h _ (.inl rfl)
  have h2 := Nat.mul_le_mul_right (Try.prog.bytesOf e) (Nat.le_add_right l.length spare.length)
  omega
theorem Reach.part {H : Type} {t : TypeId} {fs : Array Field} {ps : List (DataW H)} (hu : Try.prog.underlying t = some (.struct fs)) (h : Reach t (.agg ps)) {j : Nat} {f : Field} {d : DataW H} (hf : fs[j]? = some f) (hd : ps[j]? = some d) : Reach f.type d := fun n hn => by
  unfold Reach at h
  simp only [DataW.weights, hu] at h
  exact h n (DataW.weights_mem_each (t := f.type) (by simp [hf]) hd n hn)
end Go.Proofs.Ytadocleollndfaa
namespace Go.Proofs.Ytadocleollndfaa
open Go.ChangeShapes Go.WideShapes Go.ChangeAt Go.RowKit
set_option maxRecDepth 100000

theorem cellsRowT : Try.prog.cellsOf 36 = 2 := by kernel_rfl
theorem bytesRowT : Try.prog.bytesOf 36 = 32 := by kernel_rfl
theorem cellsStrT : Try.prog.cellsOf 9 = 1 := by kernel_rfl
/-- One Row's cells that came in. -/
theorem row_of_trod {H : Type} {enc : TypeId × Value → H} {W : World} (fuel : Nat) (cs : List Value) (x : DataW H × List MemPlace) (hf : DataW.trod enc Try.prog W 0 (fun _ => true) true fuel 36 cs = some x) (hw : Reach 36 x.1) :
    ∃ r : Tb.R, cs = rowC r ∧ (r.1.length ≤ reachBytes ∧ r.2.length ≤ reachBytes) ∧ r.1.length + r.2.length ≤ Rows.uptoBulk x.1 := by
  obtain ⟨xs, n, _, hx, hcl, hxl, hel⟩ := DataW.trod_struct Try.underlying36 hf
  have hl : cs.length = 2 := by rw [hcl, cellsRowT]
  match cs, hl with
  | [c0, c1], _ =>
  have hx2 : xs.length = 2 := hxl
  match xs, hx2 with
  | [y0, y1], _ =>
  have t0 : DataW.trod enc Try.prog W 0 (fun _ => true) true n 9 (([c0, c1].drop 0).take (Try.prog.cellsOf 9)) = some y0 := hel 0 _ rfl
  have t1 : DataW.trod enc Try.prog W 0 (fun _ => true) true n 9 (([c0, c1].drop 1).take (Try.prog.cellsOf 9)) = some y1 := hel 1 _ rfl
  rw [cellsStrT] at t0 t1
  rw [hx] at hw
  have hw0 : Reach 9 y0.1 := hw.part Try.underlying36 (j := 0) rfl rfl
  have hw1 : Reach 9 y1.1 := hw.part Try.underlying36 (j := 1) rfl rfl
  simp only [List.drop_zero, List.drop_succ_cons, List.take_succ_cons, List.take_zero] at t0 t1
  obtain ⟨z0, e0, rfl, _⟩ := DataW.trod_string Try.underlying9 t0
  obtain ⟨z1, e1, rfl, _⟩ := DataW.trod_string Try.underlying9 t1
  simp only [List.cons.injEq, and_true] at e0 e1
  subst e0 e1
  refine ⟨(z0.data.toList, z1.data.toList), by simp [rowC, strV], ⟨hw0 _ (by simp [DataW.weights]), hw1 _ (by simp [DataW.weights])⟩, ?_⟩
  rw [hx]
  simp only [List.map_cons, List.map_nil, Rows.uptoBulk, Rows.uptoBulkAll]
  omega
theorem bytes_bulk {H : Type} : ∀ (rows : List Tb.R) (l : List (DataW H)), l.length = rows.length → (∀ (k : Nat) (o : Tb.R) (d : DataW H), rows[k]? = some o → l[k]? = some d → o.1.length + o.2.length ≤ Rows.uptoBulk d) → Tb.bytes rows ≤ Rows.uptoBulkAll l
  | [], _, _, _ => Nat.zero_le _
  | r :: rows, [], h, _ => by simp at h
  | r :: rows, d :: l, h, hk => by
    have ih := bytes_bulk rows l (by simpa using h) (fun k o d h1 h2 => hk (k + 1) o d (by simpa using h1) (by simpa using h2))
    have h0 := hk 0 r d rfl rfl
    have e : Tb.bytes (r :: rows) = r.1.length + r.2.length + Tb.bytes rows := by simp [Tb.bytes]
    rw [e]
    simp only [Rows.uptoBulkAll]
    omega
theorem bytes_each : ∀ (rows : List Tb.R), (∀ r ∈ rows, r.1.length ≤ reachBytes ∧ r.2.length ≤ reachBytes) → Tb.bytes rows ≤ rows.length * 281474976710656
  | [], _ => Nat.zero_le _
  | r :: rows, h => by
    have ih := bytes_each rows (fun x hx => h x (by simp [hx]))
    have h0 := h r (by simp)
    have e : Tb.bytes (r :: rows) = r.1.length + r.2.length + Tb.bytes rows := by simp [Tb.bytes]
    unfold reachBytes at h0
    rw [e, List.length_cons]
    omega
/-- The Rows that came in. -/
theorem rows_of_trod {H : Type} {enc : TypeId × Value → H} {W : World} {fuel : Nat} {c : Value} {y : DataW H × List MemPlace} (h : DataW.trod enc Try.prog W 0 (fun _ => true) true fuel 22 [c] = some y) (hw : Reach 22 y.1) :
    ∃ (g off : Nat) (rows : List Tb.R), RowsIn W c g off rows ∧ Tb.bytes rows ≤ rows.length * 281474976710656 ∧ Tb.bytes rows ≤ Rows.uptoBulk y.1 ∧ ∀ r ∈ rows, r.1.length ≤ 281474976710656 ∧ r.2.length ≤ 281474976710656 := by
  obtain ⟨g, off, os, h1, h2, h3⟩ := open_recsD (Q := Reach 36) (f := rowC) (R := fun r d => r.1.length + r.2.length ≤ Rows.uptoBulk d) (P := fun r => r.1.length ≤ reachBytes ∧ r.2.length ≤ reachBytes) Try.underlying22 cellsRowT (by decide) (fun _ => rfl) row_of_trod h (fun l spare e => by rw [e] at hw; exact (hw.slice Try.underlying22).2)
  refine ⟨g, off, os, h2 ?_, bytes_each os (fun r hr => by obtain ⟨k, hk⟩ := List.mem_iff_getElem?.1 hr; exact h1 k r hk), ?_, fun r hr => by obtain ⟨k, hk⟩ := List.mem_iff_getElem?.1 hr; have hh := h1 k r hk; unfold reachBytes at hh; exact ⟨by omega, by omega⟩⟩
  · rcases h3 with ⟨_, rfl⟩ | ⟨l, spare, e, hl, _⟩
    · simp
    · rw [e] at hw
      have := (hw.slice Try.underlying22).1
      rw [bytesRowT, hl] at this
      unfold reachBytes at this
      omega
  · rcases h3 with ⟨_, rfl⟩ | ⟨l, spare, e, hl, hR⟩
    · exact Nat.zero_le _
    · have := bytes_bulk os l hl hR
      rw [e]
      simp only [Rows.uptoBulk]
      omega
end Go.Proofs.Ytadocleollndfaa
