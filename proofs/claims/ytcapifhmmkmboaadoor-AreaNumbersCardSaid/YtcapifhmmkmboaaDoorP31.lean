/-
  The remainder of an int taken as a uint.
  Rows of structs that came in, of any plain fields.
  An append of a list that came in (nil or not), one cell an element, at a step of a region that draws.
-/
import Derived.Test.YtcapifhmmkmboaaDoorP24
import Derived.Test.YtcapifhmmkmboaaDoorP25
import Derived.Test.YtcapifhmmkmboaaDoorP03
import Derived.ChangeSlices
import Derived.SizedLaws
import Derived.Deep.Slices
import Derived.Test.YtcapifhmmkmboaaDoorP02
import Derived.Deep.RegionLaw
namespace Go.Proofs.YtcapifhmmkmboaaDoor
open Go.RowKit Go.WideShapes

/-- 'uint(x) % m' of an int. -/
def modU (x : Int) (m : Nat) : Nat := (x % 18446744073709551616).toNat % m
theorem modU_wrap (x : Int) (m : Nat) (hm : 0 < m) (hm2 : m ≤ 1000000) : wrap64 ((IntKind.u64.wrap x).tmod (m : Int)) = (modU x m : Int) := by
  rw [IntKind.wrap_u64]
  unfold modU
  have h0 : 0 ≤ x % 18446744073709551616 := by omega
  obtain ⟨y, hy⟩ := Int.eq_ofNat_of_zero_le h0
  rw [hy, Int.toNat_natCast, show ((y : Int).tmod (m : Int)) = ((y % m : Nat) : Int) from by rw [Int.tmod_eq_emod_of_nonneg (by omega)]; exact (Int.natCast_emod y m).symm]
  have := Nat.mod_lt y hm
  unfold wrap64
  omega
end Go.Proofs.YtcapifhmmkmboaaDoor
namespace Go.Proofs.YtcapifhmmkmboaaDoor
open Go.ChangeShapes Go.WideShapes Go.ChangeAt Go.RowKit
set_option maxRecDepth 100000

/-- A row of structs of n cells that came in, in block g from off on. -/
structure Recs {α : Type} (n : Nat) (f : α → List Value) (W : World) (v : Value) (g off : Nat) (os : List α) : Prop where
  val : ∃ a cap, v = .slice a os.length cap ∧ (os ≠ [] → a = some ⟨g, off, none⟩)
  le : os.length ≤ 17592186044416
  cells : ∀ (k : Nat) (o : α), os[k]? = some o → ∀ (j : Nat) (u : Value), (f o)[j]? = some u → W.cell? ⟨g, off + k * n + j, none⟩ = some u
section
variable {α : Type} {n : Nat} {f : α → List Value} {W : World} {v : Value} {g off : Nat} {os : List α}
theorem Recs.elem (h : Recs n f W v g off os) {k : Nat} (hk : k < os.length) : ∃ o cap, os[k]? = some o ∧ v = .slice (some ⟨g, off, none⟩) os.length cap := by
  obtain ⟨a, cap, rfl, ha⟩ := h.val
  have hne : os ≠ [] := by rintro rfl; simp at hk
  obtain rfl := ha hne
  exact ⟨os[k], cap, List.getElem?_eq_getElem hk, rfl⟩
theorem Recs.qt {W' : World} (h : Recs n f W v g off os) (q : Qt W W') {k : Nat} {o : α} (hk : os[k]? = some o) (j : Nat) (u : Value) (hj : (f o)[j]? = some u) : W'.cell? ⟨g, off + k * n + j, none⟩ = some u := q.cellv (h.cells k o hk j u hj)
end

theorem choose7 {α : Type} {Q : Nat → α → Prop} : ∀ (n : Nat), (∀ k, k < n → ∃ o, Q k o) → ∃ os : List α, os.length = n ∧ ∀ (k : Nat) (o : α), os[k]? = some o → Q k o
  | 0, _ => ⟨[], rfl, fun k o h => by simp at h⟩
  | n + 1, h => by
    obtain ⟨os, hl, ho⟩ := choose7 n (fun k hk => h k (by omega))
    obtain ⟨o, hq⟩ := h n (by omega)
    refine ⟨os ++ [o], by simp [hl], fun k o' hk => ?_⟩
    by_cases hkn : k < n
    · rw [List.getElem?_append_left (by omega)] at hk
      exact ho k o' hk
    · rw [List.getElem?_append_right (by omega)] at hk
      have hk0 : k - os.length = 0 := by
        have := (List.getElem?_eq_some_iff.1 hk).1
        simp at this
        omega
      rw [hk0] at hk
      simp at hk
      subst hk
      have : k = n := by omega
      subst this
      exact hq

/-- A ROW OF STRUCTS THAT CAME IN; Q: what is known of each element's data. -/
theorem open_recsQ {α H : Type} {Q : DataW H → Prop} {enc : TypeId × Value → H} {W : World} {T E : TypeId} {n : Nat} {f : α → List Value} {P : α → Prop} (hu : Tryd.prog.underlying T = some (.slice E)) (hn : Tryd.prog.cellsOf E = n) (hn0 : 0 < n) (hfl : ∀ o, (f o).length = n)
    (hone : ∀ (fuel : Nat) (cs : List Value) (x : DataW H × List MemPlace), DataW.trod enc Tryd.prog W 0 (fun _ => true) true fuel E cs = some x → Q x.1 → ∃ o, cs = f o ∧ P o)
    {fuel : Nat} {c : Value} {y : DataW H × List MemPlace} (h : DataW.trod enc Tryd.prog W 0 (fun _ => true) true fuel T [c] = some y) (hQ : ∀ l spare, y.1 = .slice l spare → ∀ d ∈ l, Q d) :
    ∃ (g off : Nat) (os : List α), (∀ (k : Nat) (o : α), os[k]? = some o → P o) ∧ (os.length ≤ 17592186044416 → Recs n f W c g off os) ∧ ((y.1 = .nil ∧ os = []) ∨ ∃ l spare, y.1 = .slice l spare ∧ l.length = os.length) := by
  rcases Go.Deep.open_slice hu h with ⟨hcs, hx⟩ | ⟨a, len, cap, m, n', D, Pl, hcs, _, hl, hm, hmc, hx, hel⟩
  · simp at hcs
    subst hcs
    exact ⟨0, 0, [], fun k o hk => by simp at hk, fun _ => ⟨⟨none, 0, rfl, fun h => absurd rfl h⟩, by simp, fun k o hk => by simp at hk⟩, .inl ⟨by rw [hx], rfl⟩⟩
  · simp at hcs
    subst hcs
    simp only [if_true] at hmc
    rw [hn] at hel
    obtain ⟨b, off, spot⟩ := a
    have hone' : ∀ k, k < len → ∃ (p : α), W.cells? 0 ((⟨b, off, spot⟩ : Addr).add (k * n)) n = some (f p) ∧ P p := by
      intro k hk
      obtain ⟨cs', hcs', ht⟩ := hel k (by omega)
      obtain ⟨p, rfl, hP⟩ := hone _ _ _ ht (hQ _ _ (by rw [hx]) _ (List.mem_map.2 ⟨k, List.mem_range.2 hk, rfl⟩))
      exact ⟨p, hcs', hP⟩
    obtain ⟨ps, hol, hps⟩ := choose7 len hone'
    have hspot : ps ≠ [] → spot = none := by
      intro hne
      obtain ⟨p, r, rfl⟩ := List.exists_cons_of_ne_nil hne
      have h0 := (World.cells?_some (hps 0 p rfl).1).2.2 0 hn0
      obtain ⟨u, hu0⟩ : ∃ u, (f p)[0]? = some u := ⟨(f p)[0]'(by rw [hfl]; exact hn0), List.getElem?_eq_getElem _⟩
      rw [hu0] at h0
      simpa [Addr.add] using World.cell?_spot h0
    refine ⟨b, off, ps, fun k o hk => (hps k o hk).2, fun hle => ⟨⟨some ⟨b, off, spot⟩, cap, by rw [hol], fun hne => by rw [hspot hne]⟩, hle, fun k p hk j u hj => ?_⟩, .inr ⟨_, _, by rw [hx], by simp [hol]⟩⟩
    have hne : ps ≠ [] := by rintro rfl; simp at hk
    obtain rfl := hspot hne
    have hj3 : j < n := by have := (List.getElem?_eq_some_iff.1 hj).1; rw [hfl] at this; exact this
    have h0 := (World.cells?_some (hps k p hk).1).2.2 j hj3
    rw [add_plain, add_plain] at h0
    exact h0.trans hj

/-- A ROW OF STRUCTS THAT CAME IN. -/
theorem open_recs {α H : Type} {enc : TypeId × Value → H} {W : World} {T E : TypeId} {n : Nat} {f : α → List Value} {P : α → Prop} (hu : Tryd.prog.underlying T = some (.slice E)) (hn : Tryd.prog.cellsOf E = n) (hn0 : 0 < n) (hfl : ∀ o, (f o).length = n)
    (hone : ∀ (fuel : Nat) (cs : List Value) (x : DataW H × List MemPlace), DataW.trod enc Tryd.prog W 0 (fun _ => true) true fuel E cs = some x → ∃ o, cs = f o ∧ P o)
    {fuel : Nat} {c : Value} {y : DataW H × List MemPlace} (h : DataW.trod enc Tryd.prog W 0 (fun _ => true) true fuel T [c] = some y) :
    ∃ (g off : Nat) (os : List α), (∀ (k : Nat) (o : α), os[k]? = some o → P o) ∧ (os.length ≤ 17592186044416 → Recs n f W c g off os) ∧ ((y.1 = .nil ∧ os = []) ∨ ∃ l spare, y.1 = .slice l spare ∧ l.length = os.length) :=
  open_recsQ (Q := fun _ => True) hu hn hn0 hfl (fun fuel cs x hx _ => hone fuel cs x hx) h (fun _ _ _ _ _ => trivial)

theorem cellsInt : Tryd.prog.cellsOf 3 = 1 := by kernel_rfl
theorem cellsU64 : Tryd.prog.cellsOf 35 = 1 := by kernel_rfl
theorem cellsStr : Tryd.prog.cellsOf 9 = 1 := by kernel_rfl
theorem recs_len {α H : Type} {T E : TypeId} (hu : Tryd.prog.underlying T = some (.slice E)) {bt : Nat} (hb : Tryd.prog.bytesOf E = bt) (hbt : 8 ≤ bt) {ts : List TypeId} {ds : List (DataW H)} (h : (DataW.weightsEach Tryd.prog ts ds).all (· ≤ reachBytes) = true) {j : Nat} {xs : List α} {d : DataW H} (ht : ts[j]? = some T) (hd : ds[j]? = some d)
    (hx : (d = .nil ∧ xs = []) ∨ ∃ l spare, d = .slice l spare ∧ l.length = xs.length) : xs.length ≤ 17592186044416 := by
  rcases hx with ⟨_, rfl⟩ | ⟨l, spare, rfl, e⟩
  · simp
  · have := sized_slice h ht hd hu
    rw [hb, e] at this
    unfold reachBytes at this
    have h2 := Nat.mul_le_mul_left xs.length hbt
    have h3 := Nat.le_mul_of_pos_right xs.length (show 0 < bt by omega)
    first | omega | (rw [Nat.mul_comm] at this; omega) | (simp only [Nat.add_mul] at this; omega)
end Go.Proofs.YtcapifhmmkmboaaDoor
namespace Go.Proofs.YtcapifhmmkmboaaDoor
open Go.RowKit
set_option maxRecDepth 100000

section
variable {P : Program} {w : World}
theorem step_append_list {ops : Array Oper} {o : Oper} {a : Act} {K : Act → World → Prop} {Q : Exit → Act → World → Prop} {E : Prop} (hgd : o.guard = none) (s x : Operand) (t : TypeId)
    (ho : o.op = .call { callee := .builtin .append, args := #[s, x], argTypes := #[t, t] })
    (e : TypeId) (i : TypeInfo) (z : Value) (bytes : Nat) (ht : P.underlying t = some (.slice e)) (hi : P.info? e = some i) (hz : i.zero = some z)
    (hsize : i.size = 1) (hby : i.bytes = bytes) (hzs : z.cells.size = 1)
    (g c0 n l : Nat) (xs : List Value) (hs : a.eval s = .slice (some ⟨g, 0, none⟩) n c0) (hown : w.ownsRow 0 e 1 (.slice (some ⟨g, 0, none⟩) n c0) n xs)
    (ad : Option Addr) (m c : Nat) (news : List Value) (hx : a.eval x = .slice ad m c) (hm : m = news.length) (ha : news ≠ [] → ∃ p, ad = some p ∧ ∀ (j : Nat) u, news[j]? = some u → w.cell? (p.add j) = some u) (h1 : ∀ u ∈ news, u.oneCell' = true)
    (hl : n + m = l) (h63 : l ≤ maxLen) (hbytes : l * bytes ≤ 140737488355328)
    (h : ∀ g' cap w', w'.ownsRow 0 e 1 (.slice (some ⟨g', 0, none⟩) l cap) l (xs ++ news) → w.grownBy w' (some g) → (g' = g ∨ w.heap.size ≤ g') → K (a.put o.dst (.slice (some ⟨g', 0, none⟩) l cap)) w') :
    if Region.wanted o (yielded ops a.tmps) = true then Oper.wp P o a w K Q else E := by
  have hw : Region.wanted o (yielded ops a.tmps) = true := by simp [Region.wanted, hgd]
  rw [if_pos hw]
  subst hm hl
  obtain ⟨v', w', hr, h2, h3, h4⟩ := run_append_list (P := P) w t o.type e i z bytes ht hi hz hsize hby hzs _ n xs hown ad c news ha h1 h63 hbytes
  obtain ⟨g', cap, rfl, hg⟩ : ∃ g' cap, v' = .slice (some ⟨g', 0, none⟩) (n + news.length) cap ∧ (g' = g ∨ w.heap.size ≤ g') := by
    rcases h2.2 with ⟨rfl, _⟩ | ⟨g', cap, cur, rfl, _⟩
    · rcases h4 with h4 | ⟨_, h4, _⟩ <;> simp [Value.ownBlock] at h4
    · refine ⟨g', cap, rfl, ?_⟩
      rcases h4 with h4 | ⟨y, h4, hy⟩
      · simp [Value.ownBlock] at h4; exact .inl h4
      · simp [Value.ownBlock] at h4; subst h4; exact .inr hy
  unfold Oper.wp execOp
  simp only [ho, resolve, invoke, builtin, Sem.run_bind, Sem.run_pure, Result.andThen_ok, List.map_toArray, List.map_cons, List.map_nil, hs, hx, hr]
  exact h g' cap w' h2 h3 hg
theorem wpList_append_row {ops : Array Oper} {rest : List Oper} {o : Oper} {a : Act} {Q : Exit → Act → World → Prop} (hgd : o.guard = none) (s x : Operand) (t : TypeId)
    (ho : o.op = .call { callee := .builtin .append, args := #[s, x], argTypes := #[t, t] })
    (e : TypeId) (i : TypeInfo) (z : Value) (bytes : Nat) (ht : P.underlying t = some (.slice e)) (hi : P.info? e = some i) (hz : i.zero = some z)
    (hsize : i.size = 1) (hby : i.bytes = bytes) (hzs : z.cells.size = 1)
    (g c0 n l : Nat) (xs : List Value) (hs : a.eval s = .slice (some ⟨g, 0, none⟩) n c0) (hown : w.ownsRow 0 e 1 (.slice (some ⟨g, 0, none⟩) n c0) n xs)
    (ad : Option Addr) (m c : Nat) (news : List Value) (hx : a.eval x = .slice ad m c) (hm : m = news.length) (ha : news ≠ [] → ∃ p, ad = some p ∧ ∀ (j : Nat) u, news[j]? = some u → w.cell? (p.add j) = some u) (h1 : ∀ u ∈ news, u.oneCell' = true)
    (hl : n + m = l) (h63 : l ≤ maxLen) (hbytes : l * bytes ≤ 140737488355328)
    (h : ∀ g' cap w', w'.ownsRow 0 e 1 (.slice (some ⟨g', 0, none⟩) l cap) l (xs ++ news) → w.grownBy w' (some g) → (g' = g ∨ w.heap.size ≤ g') → wpList P ops Q rest (a.put o.dst (.slice (some ⟨g', 0, none⟩) l cap)) w') : wpList P ops Q (o :: rest) a w := by
  refine wpList_plain hgd fun K hK => ?_
  subst hm hl
  obtain ⟨v', w', hr, h2, h3, h4⟩ := run_append_list (P := P) w t o.type e i z bytes ht hi hz hsize hby hzs _ n xs hown ad c news ha h1 h63 hbytes
  obtain ⟨g', cap, rfl, hg⟩ : ∃ g' cap, v' = .slice (some ⟨g', 0, none⟩) (n + news.length) cap ∧ (g' = g ∨ w.heap.size ≤ g') := by
    rcases h2.2 with ⟨rfl, _⟩ | ⟨g', cap, cur, rfl, _⟩
    · rcases h4 with h4 | ⟨_, h4, _⟩ <;> simp [Value.ownBlock] at h4
    · refine ⟨g', cap, rfl, ?_⟩
      rcases h4 with h4 | ⟨y, h4, hy⟩
      · simp [Value.ownBlock] at h4; exact .inl h4
      · simp [Value.ownBlock] at h4; subst h4; exact .inr hy
  unfold Oper.wp execOp
  simp only [ho, resolve, invoke, builtin, Sem.run_bind, Sem.run_pure, Result.andThen_ok, List.map_toArray, List.map_cons, List.map_nil, hs, hx, hr]
  exact hK _ _ (h g' cap w' h2 h3 hg)
end
end Go.Proofs.YtcapifhmmkmboaaDoor
