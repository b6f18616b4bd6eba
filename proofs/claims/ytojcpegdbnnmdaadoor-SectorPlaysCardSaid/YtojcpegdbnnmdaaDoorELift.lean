/-
  Rows of structs that came in, of any plain fields.
-/
import Derived.Test.YtojcpegdbnnmdaaDoorLaid
import Derived.Test.YtojcpegdbnnmdaaDoorQt
import Derived.ChangeSlices
import Derived.SizedLaws
import Derived.Deep.Slices
namespace Go.Proofs.YtojcpegdbnnmdaaDoor
open Go.ChangeShapes Go.WideShapes Go.ChangeAt Go.RowKit
set_option maxRecDepth 100000

/-- A row of structs of n cells that came in, in block g from off on. -/
structure Recs {α : Type} (n : Nat) (f : α → List Value) (W : World) (v : Value) (g off : Nat) (os : List α) : Prop where
  val : ∃ a cap, v = .slice a os.length cap ∧ (os ≠ [] → a = some ⟨g, off, none⟩)
  le : os.length ≤ 17592186044416
  cells : ∀ (k : Nat) (o : α), os[k]? = some o → ∀ (j : Nat) (u : Value), (f o)[j]? = some u → W.cell? ⟨g, off + k * n + j, none⟩ = some u
section
variable {α : Type} {n : Nat} {f : α → List Value} {W : World} {v : Value} {g off : Nat} {os : List α}
theorem Recs.elem (h : Recs n f W v g off os) {k : Nat} (hk : k < os.length) : ∃ o cap, os[k]? = some o ∧ v = .slice (some ⟨g, off, none⟩) os.length cap := by
  obtain ⟨a, cap, rfl, ha⟩ := h.val
  have hne : os ≠ [] := by rintro rfl; simp at hk
  obtain rfl := ha hne
  exact ⟨os[k], cap, List.getElem?_eq_getElem hk, rfl⟩
theorem Recs.qt {W' : World} (h : Recs n f W v g off os) (q : Qt W W') {k : Nat} {o : α} (hk : os[k]? = some o) (j : Nat) (u : Value) (hj : (f o)[j]? = some u) : W'.cell? ⟨g, off + k * n + j, none⟩ = some u := q.cellv (h.cells k o hk j u hj)
end

theorem choose7 {α : Type} {Q : Nat → α → Prop} : ∀ (n : Nat), (∀ k, k < n → ∃ o, Q k o) → ∃ os : List α, os.length = n ∧ ∀ (k : Nat) (o : α), os[k]? = some o → Q k o
  | 0, _ => ⟨[], rfl, fun k o h => by simp at h⟩
  | n + 1, h => by
    obtain ⟨os, hl, ho⟩ := choose7 n (fun k hk => h k (by omega))
    obtain ⟨o, hq⟩ := h n (by omega)
    refine ⟨os ++ [o], by simp [hl], fun k o' hk => ?_⟩
    by_cases hkn : k < n
    · rw [List.getElem?_append_left (by omega)] at hk
      exact ho k o' hk
    · rw [List.getElem?_append_right (by omega)] at hk
      have hk0 : k - os.length = 0 := by
        have := (List.getElem?_eq_some_iff.1 hk).1
        simp at this
        omega
      rw [hk0] at hk
      simp at hk
      subst hk
      have : k = n := by omega
      subst this
      exact hq

/-- A ROW OF STRUCTS THAT CAME IN. -/
theorem open_recs {α H : Type} {enc : TypeId × Value → H} {W : World} {T E : TypeId} {n : Nat} {f : α → List Value} {P : α → Prop} (hu : Tryd.prog.underlying T = some (.slice E)) (hn : Tryd.prog.cellsOf E = n) (hn0 : 0 < n) (hfl : ∀ o, (f o).length = n)
    (hone : ∀ (fuel : Nat) (cs : List Value) (x : DataW H × List MemPlace), DataW.trod enc Tryd.prog W 0 (fun _ => true) true fuel E cs = some x → ∃ o, cs = f o ∧ P o)
    {fuel : Nat} {c : Value} {y : DataW H × List MemPlace} (h : DataW.trod enc Tryd.prog W 0 (fun _ => true) true fuel T [c] = some y) :
    ∃ (g off : Nat) (os : List α), (∀ (k : Nat) (o : α), os[k]? = some o → P o) ∧ (os.length ≤ 17592186044416 → Recs n f W c g off os) ∧ ((y.1 = .nil ∧ os = []) ∨ ∃ l spare, y.1 = .slice l spare ∧ l.length = os.length) := by
  rcases Go.Deep.open_slice hu h with ⟨hcs, hx⟩ | ⟨a, len, cap, m, n', D, Pl, hcs, _, hl, hm, hmc, hx, hel⟩
  · simp at hcs
    subst hcs
    exact ⟨0, 0, [], fun k o hk => by simp at hk, fun _ => ⟨⟨none, 0, rfl, fun h => absurd rfl h⟩, by simp, fun k o hk => by simp at hk⟩, .inl ⟨by rw [hx], rfl⟩⟩
  · simp at hcs
    subst hcs
    simp only [if_true] at hmc
    rw [hn] at hel
    obtain ⟨b, off, spot⟩ := a
    have hone' : ∀ k, k < len → ∃ (p : α), W.cells? 0 ((⟨b, off, spot⟩ : Addr).add (k * n)) n = some (f p) ∧ P p := by
      intro k hk
      obtain ⟨cs', hcs', ht⟩ := hel k (by omega)
      obtain ⟨p, rfl, hP⟩ := hone _ _ _ ht
      exact ⟨p, hcs', hP⟩
    obtain ⟨ps, hol, hps⟩ := choose7 len hone'
    have hspot : ps ≠ [] → spot = none := by
      intro hne
      obtain ⟨p, r, rfl⟩ := List.exists_cons_of_ne_nil hne
      have h0 := (World.cells?_some (hps 0 p rfl).1).2.2 0 hn0
      obtain ⟨u, hu0⟩ : ∃ u, (f p)[0]? = some u := ⟨(f p)[0]'(by rw [hfl]; exact hn0), List.getElem?_eq_getElem _⟩
      rw [hu0] at h0
      simpa [Addr.add] using World.cell?_spot h0
    refine ⟨b, off, ps, fun k o hk => (hps k o hk).2, fun hle => ⟨⟨some ⟨b, off, spot⟩, cap, by rw [hol], fun hne => by rw [hspot hne]⟩, hle, fun k p hk j u hj => ?_⟩, .inr ⟨_, _, by rw [hx], by simp [hol]⟩⟩
    have hne : ps ≠ [] := by rintro rfl; simp at hk
    obtain rfl := hspot hne
    have hj3 : j < n := by have := (List.getElem?_eq_some_iff.1 hj).1; rw [hfl] at this; exact this
    have h0 := (World.cells?_some (hps k p hk).1).2.2 j hj3
    rw [add_plain, add_plain] at h0
    exact h0.trans hj

theorem cellsInt : Tryd.prog.cellsOf 3 = 1 := by kernel_rfl
theorem cellsU64 : Tryd.prog.cellsOf 24 = 1 := by kernel_rfl
theorem cellsStr : Tryd.prog.cellsOf 9 = 1 := by kernel_rfl
theorem cellsOp7 : Tryd.prog.cellsOf 26 = 6 := by kernel_rfl
theorem cellsWrite7 : Tryd.prog.cellsOf 56 = 3 := by kernel_rfl
theorem bytesOp7 : Tryd.prog.bytesOf 26 = 64 := by kernel_rfl
theorem bytesWrite7 : Tryd.prog.bytesOf 56 = 32 := by kernel_rfl

/-- A Write of remitlaw07. -/
structure Wr7 where
  more : Nat
  pay : ByteArray
  bytes : Int
def Wr7.list (o : Wr7) : List Value := [.int .u64 o.more, .string o.pay, .int .i64 o.bytes]
structure Wr7.Ok (o : Wr7) : Prop where
  m : o.more < 18446744073709551616
theorem write_of_trod {H : Type} {enc : TypeId × Value → H} {W : World} (fuel : Nat) (cs : List Value) (x : DataW H × List MemPlace) (hf : DataW.trod enc Tryd.prog W 0 (fun _ => true) true fuel 56 cs = some x) :
    ∃ o : Wr7, cs = o.list ∧ o.Ok := by
  obtain ⟨xs, n, _, hx, hcl, hxl, hel⟩ := DataW.trod_struct Tryd.underlying56 hf
  have hl : cs.length = 3 := by rw [hcl, cellsWrite7]
  match cs, hl with
  | [c0, c1, c2], _ =>
  have hx3 : xs.length = 3 := hxl
  match xs, hx3 with
  | [y0, y1, y2], _ =>
  have t0 : DataW.trod enc Tryd.prog W 0 (fun _ => true) true n 24 (([c0, c1, c2].drop 0).take (Tryd.prog.cellsOf 24)) = some y0 := hel 0 _ rfl
  have t1 : DataW.trod enc Tryd.prog W 0 (fun _ => true) true n 9 (([c0, c1, c2].drop 1).take (Tryd.prog.cellsOf 9)) = some y1 := hel 1 _ rfl
  have t2 : DataW.trod enc Tryd.prog W 0 (fun _ => true) true n 3 (([c0, c1, c2].drop 2).take (Tryd.prog.cellsOf 3)) = some y2 := hel 2 _ rfl
  rw [cellsU64] at t0
  rw [cellsStr] at t1
  rw [cellsInt] at t2
  simp only [List.drop_zero, List.drop_succ_cons, List.take_succ_cons, List.take_zero] at t0 t1 t2
  obtain ⟨z0, e0, rfl, w0⟩ := DataW.trod_int Tryd.underlying24 t0
  obtain ⟨z1, e1, rfl, _⟩ := DataW.trod_string Tryd.underlying9 t1
  obtain ⟨z2, e2, rfl, w2⟩ := DataW.trod_int Tryd.underlying3 t2
  simp only [List.cons.injEq, and_true] at e0 e1 e2
  subst e0 e1 e2
  have b0 := bounds_u64 w0
  obtain ⟨m, rfl⟩ := Int.eq_ofNat_of_zero_le b0.1
  exact ⟨⟨m, z1, z2⟩, rfl, ⟨by show m < 18446744073709551616; omega⟩⟩

/-- An Op of remitlaw07. -/
structure Op7 where
  kind : Int
  u : Nat
  n : Int
  m : Int
  s : ByteArray
  t : ByteArray
def Op7.list (o : Op7) : List Value := [.int .i64 o.kind, .int .u64 o.u, .int .i64 o.n, .int .i64 o.m, .string o.s, .string o.t]
structure Op7.Ok (o : Op7) : Prop where
  u : o.u < 18446744073709551616
  n0 : -9223372036854775808 ≤ o.n
  n1 : o.n ≤ 9223372036854775807
  m0 : -9223372036854775808 ≤ o.m
  m1 : o.m ≤ 9223372036854775807
theorem op7_of_trod {H : Type} {enc : TypeId × Value → H} {W : World} (fuel : Nat) (cs : List Value) (x : DataW H × List MemPlace) (hf : DataW.trod enc Tryd.prog W 0 (fun _ => true) true fuel 26 cs = some x) :
    ∃ o : Op7, cs = o.list ∧ o.Ok := by
  obtain ⟨xs, n, _, hx, hcl, hxl, hel⟩ := DataW.trod_struct Tryd.underlying26 hf
  have hl : cs.length = 6 := by rw [hcl, cellsOp7]
  match cs, hl with
  | [c0, c1, c2, c3, c4, c5], _ =>
  have hx6 : xs.length = 6 := hxl
  match xs, hx6 with
  | [y0, y1, y2, y3, y4, y5], _ =>
  have t0 : DataW.trod enc Tryd.prog W 0 (fun _ => true) true n 3 (([c0, c1, c2, c3, c4, c5].drop 0).take (Tryd.prog.cellsOf 3)) = some y0 := hel 0 _ rfl
  have t1 : DataW.trod enc Tryd.prog W 0 (fun _ => true) true n 24 (([c0, c1, c2, c3, c4, c5].drop 1).take (Tryd.prog.cellsOf 24)) = some y1 := hel 1 _ rfl
  have t2 : DataW.trod enc Tryd.prog W 0 (fun _ => true) true n 3 (([c0, c1, c2, c3, c4, c5].drop 2).take (Tryd.prog.cellsOf 3)) = some y2 := hel 2 _ rfl
  have t3 : DataW.trod enc Tryd.prog W 0 (fun _ => true) true n 3 (([c0, c1, c2, c3, c4, c5].drop 3).take (Tryd.prog.cellsOf 3)) = some y3 := hel 3 _ rfl
  have t4 : DataW.trod enc Tryd.prog W 0 (fun _ => true) true n 9 (([c0, c1, c2, c3, c4, c5].drop 4).take (Tryd.prog.cellsOf 9)) = some y4 := hel 4 _ rfl
  have t5 : DataW.trod enc Tryd.prog W 0 (fun _ => true) true n 9 (([c0, c1, c2, c3, c4, c5].drop 5).take (Tryd.prog.cellsOf 9)) = some y5 := hel 5 _ rfl
  rw [cellsU64] at t1
  rw [cellsInt] at t0 t2 t3
  rw [cellsStr] at t4 t5
  simp only [List.drop_zero, List.drop_succ_cons, List.take_succ_cons, List.take_zero] at t0 t1 t2 t3 t4 t5
  obtain ⟨z0, e0, rfl, w0⟩ := DataW.trod_int Tryd.underlying3 t0
  obtain ⟨z1, e1, rfl, w1⟩ := DataW.trod_int Tryd.underlying24 t1
  obtain ⟨z2, e2, rfl, w2⟩ := DataW.trod_int Tryd.underlying3 t2
  obtain ⟨z3, e3, rfl, w3⟩ := DataW.trod_int Tryd.underlying3 t3
  obtain ⟨z4, e4, rfl, _⟩ := DataW.trod_string Tryd.underlying9 t4
  obtain ⟨z5, e5, rfl, _⟩ := DataW.trod_string Tryd.underlying9 t5
  simp only [List.cons.injEq, and_true] at e0 e1 e2 e3 e4 e5
  subst e0 e1 e2 e3 e4 e5
  have b1 := bounds_u64 w1
  have b2 := bounds_i64 w2
  have b3 := bounds_i64 w3
  obtain ⟨u, rfl⟩ := Int.eq_ofNat_of_zero_le b1.1
  exact ⟨⟨z0, u, z2, z3, z4, z5⟩, rfl, ⟨by show u < 18446744073709551616; omega, b2.1, b2.2, b3.1, b3.2⟩⟩

theorem recs_len {α H : Type} {T E : TypeId} (hu : Tryd.prog.underlying T = some (.slice E)) {bt : Nat} (hb : Tryd.prog.bytesOf E = bt) (hbt : 8 ≤ bt) {ts : List TypeId} {ds : List (DataW H)} (h : (DataW.weightsEach Tryd.prog ts ds).all (· ≤ reachBytes) = true) {j : Nat} {xs : List α} {d : DataW H} (ht : ts[j]? = some T) (hd : ds[j]? = some d)
    (hx : (d = .nil ∧ xs = []) ∨ ∃ l spare, d = .slice l spare ∧ l.length = xs.length) : xs.length ≤ 17592186044416 := by
  rcases hx with ⟨_, rfl⟩ | ⟨l, spare, rfl, e⟩
  · simp
  · have := sized_slice h ht hd hu
    rw [hb, e] at this
    unfold reachBytes at this
    have h2 := Nat.mul_le_mul_left xs.length hbt
    have h3 := Nat.le_mul_of_pos_right xs.length (show 0 < bt by omega)
    first | omega | (rw [Nat.mul_comm] at this; omega) | (simp only [Nat.add_mul] at this; omega)
end Go.Proofs.YtojcpegdbnnmdaaDoor
