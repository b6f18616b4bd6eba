/-
  What listed variables give, of no layer: errors of package api among them, in whatever order; a part of a row's list; the witness.
  Rows of structs that came in, of any plain fields.
  The contract of remitlaw10.same: are two lists of texts alike?
-/
import Derived.Test.YtggogaaooacooaaDoorP04
import Derived.Test.YtggogaaooacooaaDoorRows
import Derived.ProofKit
import Derived.LaidMore
import Derived.LaidLaws
import Derived.OpenShut
import Derived.Stop.LaidErr
import Derived.Deep.DeepHandedRow
import Derived.Deep.DeepWitnessRowRef
import Derived.Lib.LaidTab
import Derived.Lib.SmallJoins
import Derived.Lay
import Derived.Test.YtggogaaooacooaaDoorP10
import Derived.ChangeSlices
import Derived.SizedLaws
import Derived.Deep.Slices
import Derived.Test.YtggogaaooacooaaDoorP24
import Derived.BigQuiet
import Derived.LoopTactic
namespace Go.Proofs.YtggogaaooacooaaDoor
open Go.ChangeShapes Go.WideShapes Go.ChangeAt Go.RowKit
set_option maxRecDepth 100000

theorem laidOut : laidOutB Tryd.prog = true := by kernel_rfl
theorem own' : ownKnob Tryd.prog.godebug = none := by kernel_rfl

/-- 'There is an input that fits', at a start whose shape is known. -/
theorem witness_laid {H : Type} {enc : TypeId × Value → H} {C : Checked} {os : Os} {f : FuncId} {fn : Func} {s : OpenSpec} {conds : List PathCond} {apart : Bool} {laid : List (String × DataW Unit)} (modest : Bool) (w0 : World) (args : Array Value) (hos : w0.os = os)
    (hsh : (w0.forCall (fun _ _ => 0) ⟨#[], args, []⟩).Shaped C.prog)
    (hok : Input.okWideB C.prog (w0.forCall (fun _ _ => 0) ⟨#[], args, []⟩) f ⟨#[], args, []⟩ = true)
    (hrow : s.preRow enc C.prog fn conds apart laid (w0.forCall (fun _ _ => 0) ⟨#[], args, []⟩).memory args) :
    ∃ (w : World) (tape : Tape) (i : Input), w.os = os ∧ (w.forCall tape i).Shaped C.prog ∧ i.vars = [] ∧ Input.okWide C.prog (w.forCall tape i) .any w.heap.size f i ∧
      s.preRow enc C.prog fn conds apart laid (w.forCall tape i).memory i.args ∧ ({ modest := modest } : Assume).holds C.prog (lone (Frame.enter C.prog f i.args .normal) [] (w.forCall tape i)) :=
  ⟨w0, fun _ _ => 0, ⟨#[], args, []⟩, hos, hsh, (Input.okWide_of_okWideB (base := 0) hok).1, (Input.okWide_of_okWideB hok).2, hrow, by
    simp only [Assume.holds]
    exact ⟨by simp, by simp, fun _ => Modest.zero, by simp, by simp⟩⟩

/-- A part of a list of listed variables. -/
theorem laidVars_sub {P : Program} {w : World} {L' L : List (String × DataW Unit)} (hs : L'.Sublist L) : ∀ {ps : List MemPlace}, DataW.LaidVars P w L ps → ∃ q, DataW.LaidVars P w L' q ∧ q.Sublist ps := by
  induction hs with
  | slnil => intro ps h; exact ⟨ps, h, List.Sublist.refl _⟩
  | cons a _ ih =>
    intro ps h
    obtain ⟨n, d⟩ := a
    obtain ⟨g, t, cs, f, p, q, h1, h2, h3, h4, hq, e⟩ := h
    obtain ⟨q', hq', hsub⟩ := ih hq
    exact ⟨q', hq', by rw [e]; exact hsub.trans (List.sublist_append_right _ _)⟩
  | cons_cons a _ ih =>
    intro ps h
    obtain ⟨n, d⟩ := a
    obtain ⟨g, t, cs, f, p, q, h1, h2, h3, h4, hq, e⟩ := h
    obtain ⟨q', hq', hsub⟩ := ih hq
    exact ⟨_, ⟨g, t, cs, f, p, q', h1, h2, h3, h4, hq', rfl⟩, by rw [e]; exact List.Sublist.append (List.Sublist.refl _) hsub⟩
theorem laidMet_sub {P : Program} {W : World} {L' L : List (String × DataW Unit)} (hs : L'.Sublist L) (h : laidMet P L W) : laidMet P L' W := by
  obtain ⟨ps, hv, hnd, hrows⟩ := h
  obtain ⟨q, hq, hsub⟩ := laidVars_sub hs hv
  exact ⟨q, hq, hnd.sublist hsub, fun b off hb => hrows b off (hsub.subset hb)⟩

/-! ### Errors -/
theorem cellsErr : Tryd.prog.cellsOf 182 = 1 := by kernel_rfl
theorem cellsString : Tryd.prog.cellsOf 9 = 1 := by kernel_rfl
theorem starErr : "*errors.errorString" = "*" ++ "errors.errorString" := by decide
theorem rowErr (u : TypeId) (h : Tryd.prog.typeName? 3 u = some "*errors.errorString") : u = 168 :=
  typeName_ptr_named (nm := "errors.errorString") (by rw [← starErr]; kernel_rfl) (by kernel_rfl) (by decide) u (by rw [← starErr]; exact h)

/-- An error as the rows list it. -/
def errD (text : List UInt8) : DataW Unit := .iface "*errors.errorString" (.ptr (.agg [.lit (.string text)]))

theorem laid_errs {W : World} {PS : List MemPlace} (hrows : ∀ b off, MemPlace.cell b off ∈ PS → (∃ c t, W.heap[b]? = some (.cells c t (0, 0))) ∧ ∀ u v, W.cell? ⟨b, off, none⟩ = some (.iface u v) → Value.okWide Tryd.prog W .any 0 u v) :
    ∀ (L : List (String × List UInt8)) (gs : List Nat) (ps : List MemPlace), (∀ x ∈ ps, x ∈ PS) → ps.Nodup → L.map (fun x => Tryd.prog.globalNamed x.1) = gs.map some → (∀ g ∈ gs, (Tryd.prog.globals[g]?).map (·.type) = some 26) →
      DataW.LaidVars Tryd.prog W (L.map fun x => (x.1, errD x.2)) ps →
      ∃ al : List Addr, al.length = gs.length ∧ (∀ (i : Nat) (g : Nat) (a : Addr), gs[i]? = some g → al[i]? = some a → W.cell? ⟨g, 0, none⟩ = some (.iface 168 (.pointer (some a))) ∧ (∃ c t, W.heap[a.block]? = some (.cells c t (0, 0)))) ∧
        (∀ a ∈ al, MemPlace.cell a.block a.off ∈ ps) ∧ (al.map fun a => MemPlace.cell a.block a.off).Nodup
  | [], gs, ps, _, _, hg, _, _ => by
    obtain rfl : gs = [] := by simpa using hg.symm
    exact ⟨[], rfl, fun i g a h => by simp at h, fun a h => by simp at h, by simp⟩
  | (n, text) :: r, [], ps, _, _, hg, _, _ => by simp at hg
  | (n, text) :: r, g :: gs, ps, hps, hnd, hg, ht, h => by
    simp only [List.map_cons, List.cons.injEq] at hg
    obtain ⟨g0, t0, cs0, f0, p0, q0, hg0, ht0, hv0, hd0, hq, e0⟩ := h
    obtain rfl := Option.some.inj (hg.1.symm.trans hg0)
    obtain rfl := Option.some.inj ((ht g (by simp)).symm.trans ht0)
    obtain ⟨l0⟩ := cs0
    have ok0 : ∀ u v, l0 = [.iface u v] → Value.okWide Tryd.prog W .any 0 u v := fun u v e => by
      subst e
      exact (hrows g 0 (hps _ (by rw [e0]; simp [MemPlace.row]))).2 u v (by simpa using World.var?_cell hg0 hv0 0)
    obtain ⟨a0, s0, rfl, hc0, hs0, hz0, rfl⟩ := errorString_of_trod Tryd.underlying26 rowErr Tryd.underlying168 Tryd.underlying182 rfl rfl Tryd.underlying9 cellsErr cellsString hd0 ok0
    have hsub : q0.Sublist ps := by rw [e0]; exact List.sublist_append_right _ _
    obtain ⟨al, hl, h1, h2, h3⟩ := laid_errs hrows r gs q0 (fun x hx => hps x (hsub.subset hx)) (hnd.sublist hsub) hg.2 (fun g' hg' => ht g' (by simp [hg'])) hq
    have hmem : MemPlace.cell a0.block a0.off ∈ ps := by rw [e0]; simp [MemPlace.row]
    refine ⟨a0 :: al, by simp [hl], fun i g' a hi ha => ?_, fun a ha => ?_, ?_⟩
    · cases i with
      | zero =>
        simp at hi ha
        subst hi ha
        exact ⟨by simpa using World.var?_cell hg0 hv0 0, (hrows _ _ (hps _ hmem)).1⟩
      | succ i => exact h1 i g' a (by simpa using hi) (by simpa using ha)
    · rcases List.mem_cons.1 ha with rfl | ha
      · exact hmem
      · exact hsub.subset (h2 a ha)
    · simp only [List.map_cons, List.nodup_cons]
      refine ⟨fun hm => ?_, h3⟩
      obtain ⟨a, ha, hae⟩ := List.mem_map.1 hm
      rw [e0] at hnd
      have hq1 := h2 a ha
      rw [hae] at hq1
      exact (List.nodup_append.1 hnd).2.2 _ (by simp [MemPlace.row]) _ hq1 rfl

/-- One error, listed alone. -/
theorem err_of_laid {W : World} {n : String} {text : List UInt8} {g : Nat} (hn : Tryd.prog.globalNamed n = some g) (ht : (Tryd.prog.globals[g]?).map (·.type) = some 26) (h : laidMet Tryd.prog [(n, errD text)] W) : ∃ ad, W.cell? ⟨g, 0, none⟩ = some (.iface 168 (.pointer (some ad))) := by
  obtain ⟨ps, hv, hnd, hrows⟩ := h
  obtain ⟨al, hl, h1, _, _⟩ := laid_errs hrows [(n, text)] [g] ps (fun _ h => h) hnd (by simp [hn]) (by simpa using ht) hv
  match al, hl with
  | [a], _ => exact ⟨a, (h1 0 _ a rfl rfl).1⟩

def formBytes : List UInt8 := [114, 101, 109, 105, 116, 58, 32, 102, 111, 114, 109]
end Go.Proofs.YtggogaaooacooaaDoor
namespace Go.Proofs.YtggogaaooacooaaDoor
open Go.ChangeShapes Go.WideShapes Go.ChangeAt Go.RowKit
set_option maxRecDepth 100000

/-- A row of structs of n cells that came in, in block g from off on. -/
structure Recs {α : Type} (n : Nat) (f : α → List Value) (W : World) (v : Value) (g off : Nat) (os : List α) : Prop where
  val : ∃ a cap, v = .slice a os.length cap ∧ (os ≠ [] → a = some ⟨g, off, none⟩)
  le : os.length ≤ 17592186044416
  cells : ∀ (k : Nat) (o : α), os[k]? = some o → ∀ (j : Nat) (u : Value), (f o)[j]? = some u → W.cell? ⟨g, off + k * n + j, none⟩ = some u
section
variable {α : Type} {n : Nat} {f : α → List Value} {W : World} {v : Value} {g off : Nat} {os : List α}
theorem Recs.elem (h : Recs n f W v g off os) {k : Nat} (hk : k < os.length) : ∃ o cap, os[k]? = some o ∧ v = .slice (some ⟨g, off, none⟩) os.length cap := by
  obtain ⟨a, cap, rfl, ha⟩ := h.val
  have hne : os ≠ [] := by rintro rfl; simp at hk
  obtain rfl := ha hne
  exact ⟨os[k], cap, List.getElem?_eq_getElem hk, rfl⟩
theorem Recs.qt {W' : World} (h : Recs n f W v g off os) (q : Qt W W') {k : Nat} {o : α} (hk : os[k]? = some o) (j : Nat) (u : Value) (hj : (f o)[j]? = some u) : W'.cell? ⟨g, off + k * n + j, none⟩ = some u := q.cellv (h.cells k o hk j u hj)
end

theorem choose7 {α : Type} {Q : Nat → α → Prop} : ∀ (n : Nat), (∀ k, k < n → ∃ o, Q k o) → ∃ os : List α, os.length = n ∧ ∀ (k : Nat) (o : α), os[k]? = some o → Q k o
  | 0, _ => ⟨[], rfl, fun k o h => by simp at h⟩
  | n + 1, h => by
    obtain ⟨os, hl, ho⟩ := choose7 n (fun k hk => h k (by omega))
    obtain ⟨o, hq⟩ := h n (by omega)
    refine ⟨os ++ [o], by simp [hl], fun k o' hk => ?_⟩
    by_cases hkn : k < n
    · rw [List.getElem?_append_left (by omega)] at hk
      exact ho k o' hk
    · rw [List.getElem?_append_right (by omega)] at hk
      have hk0 : k - os.length = 0 := by
        have := (List.getElem?_eq_some_iff.1 hk).1
        simp at this
        omega
      rw [hk0] at hk
      simp at hk
      subst hk
      have : k = n := by omega
      subst this
      exact hq

/-- A ROW OF STRUCTS THAT CAME IN; Q: what is known of each element's data. -/
theorem open_recsQ {α H : Type} {Q : DataW H → Prop} {enc : TypeId × Value → H} {W : World} {T E : TypeId} {n : Nat} {f : α → List Value} {P : α → Prop} (hu : Tryd.prog.underlying T = some (.slice E)) (hn : Tryd.prog.cellsOf E = n) (hn0 : 0 < n) (hfl : ∀ o, (f o).length = n)
    (hone : ∀ (fuel : Nat) (cs : List Value) (x : DataW H × List MemPlace), DataW.trod enc Tryd.prog W 0 (fun _ => true) true fuel E cs = some x → Q x.1 → ∃ o, cs = f o ∧ P o)
    {fuel : Nat} {c : Value} {y : DataW H × List MemPlace} (h : DataW.trod enc Tryd.prog W 0 (fun _ => true) true fuel T [c] = some y) (hQ : ∀ l spare, y.1 = .slice l spare → ∀ d ∈ l, Q d) :
    ∃ (g off : Nat) (os : List α), (∀ (k : Nat) (o : α), os[k]? = some o → P o) ∧ (os.length ≤ 17592186044416 → Recs n f W c g off os) ∧ ((y.1 = .nil ∧ os = []) ∨ ∃ l spare, y.1 = .slice l spare ∧ l.length = os.length) := by
  rcases Go.Deep.open_slice hu h with ⟨hcs, hx⟩ | ⟨a, len, cap, m, n', D, Pl, hcs, _, hl, hm, hmc, hx, hel⟩
  · simp at hcs
    subst hcs
    exact ⟨0, 0, [], fun k o hk => by simp at hk, fun _ => ⟨⟨none, 0, rfl, fun h => absurd rfl h⟩, by simp, fun k o hk => by simp at hk⟩, .inl ⟨by rw [hx], rfl⟩⟩
  · simp at hcs
    subst hcs
    simp only [if_true] at hmc
    rw [hn] at hel
    obtain ⟨b, off, spot⟩ := a
    have hone' : ∀ k, k < len → ∃ (p : α), W.cells? 0 ((⟨b, off, spot⟩ : Addr).add (k * n)) n = some (f p) ∧ P p := by
      intro k hk
      obtain ⟨cs', hcs', ht⟩ := hel k (by omega)
      obtain ⟨p, rfl, hP⟩ := hone _ _ _ ht (hQ _ _ (by rw [hx]) _ (List.mem_map.2 ⟨k, List.mem_range.2 hk, rfl⟩))
      exact ⟨p, hcs', hP⟩
    obtain ⟨ps, hol, hps⟩ := choose7 len hone'
    have hspot : ps ≠ [] → spot = none := by
      intro hne
      obtain ⟨p, r, rfl⟩ := List.exists_cons_of_ne_nil hne
      have h0 := (World.cells?_some (hps 0 p rfl).1).2.2 0 hn0
      obtain ⟨u, hu0⟩ : ∃ u, (f p)[0]? = some u := ⟨(f p)[0]'(by rw [hfl]; exact hn0), List.getElem?_eq_getElem _⟩
      rw [hu0] at h0
      simpa [Addr.add] using World.cell?_spot h0
    refine ⟨b, off, ps, fun k o hk => (hps k o hk).2, fun hle => ⟨⟨some ⟨b, off, spot⟩, cap, by rw [hol], fun hne => by rw [hspot hne]⟩, hle, fun k p hk j u hj => ?_⟩, .inr ⟨_, _, by rw [hx], by simp [hol]⟩⟩
    have hne : ps ≠ [] := by rintro rfl; simp at hk
    obtain rfl := hspot hne
    have hj3 : j < n := by have := (List.getElem?_eq_some_iff.1 hj).1; rw [hfl] at this; exact this
    have h0 := (World.cells?_some (hps k p hk).1).2.2 j hj3
    rw [add_plain, add_plain] at h0
    exact h0.trans hj

/-- A ROW OF STRUCTS THAT CAME IN. -/
theorem open_recs {α H : Type} {enc : TypeId × Value → H} {W : World} {T E : TypeId} {n : Nat} {f : α → List Value} {P : α → Prop} (hu : Tryd.prog.underlying T = some (.slice E)) (hn : Tryd.prog.cellsOf E = n) (hn0 : 0 < n) (hfl : ∀ o, (f o).length = n)
    (hone : ∀ (fuel : Nat) (cs : List Value) (x : DataW H × List MemPlace), DataW.trod enc Tryd.prog W 0 (fun _ => true) true fuel E cs = some x → ∃ o, cs = f o ∧ P o)
    {fuel : Nat} {c : Value} {y : DataW H × List MemPlace} (h : DataW.trod enc Tryd.prog W 0 (fun _ => true) true fuel T [c] = some y) :
    ∃ (g off : Nat) (os : List α), (∀ (k : Nat) (o : α), os[k]? = some o → P o) ∧ (os.length ≤ 17592186044416 → Recs n f W c g off os) ∧ ((y.1 = .nil ∧ os = []) ∨ ∃ l spare, y.1 = .slice l spare ∧ l.length = os.length) :=
  open_recsQ (Q := fun _ => True) hu hn hn0 hfl (fun fuel cs x hx _ => hone fuel cs x hx) h (fun _ _ _ _ _ => trivial)

theorem cellsInt : Tryd.prog.cellsOf 3 = 1 := by kernel_rfl
theorem cellsU64 : Tryd.prog.cellsOf 123 = 1 := by kernel_rfl
theorem cellsStr : Tryd.prog.cellsOf 9 = 1 := by kernel_rfl
theorem recs_len {α H : Type} {T E : TypeId} (hu : Tryd.prog.underlying T = some (.slice E)) {bt : Nat} (hb : Tryd.prog.bytesOf E = bt) (hbt : 8 ≤ bt) {ts : List TypeId} {ds : List (DataW H)} (h : (DataW.weightsEach Tryd.prog ts ds).all (· ≤ reachBytes) = true) {j : Nat} {xs : List α} {d : DataW H} (ht : ts[j]? = some T) (hd : ds[j]? = some d)
    (hx : (d = .nil ∧ xs = []) ∨ ∃ l spare, d = .slice l spare ∧ l.length = xs.length) : xs.length ≤ 17592186044416 := by
  rcases hx with ⟨_, rfl⟩ | ⟨l, spare, rfl, e⟩
  · simp
  · have := sized_slice h ht hd hu
    rw [hb, e] at this
    unfold reachBytes at this
    have h2 := Nat.mul_le_mul_left xs.length hbt
    have h3 := Nat.le_mul_of_pos_right xs.length (show 0 < bt by omega)
    first | omega | (rw [Nat.mul_comm] at this; omega) | (simp only [Nat.add_mul] at this; omega)
end Go.Proofs.YtggogaaooacooaaDoor
namespace Go.Proofs.YtggogaaooacooaaDoor
open Go.RowKit Go.WideShapes
set_option maxRecDepth 100000

/-- A list of texts in memory. -/
def TextsIn (W : World) (v : Value) (l : List (List UInt8)) : Prop := ∃ g off c, (v = .slice (some ⟨g, off, none⟩) l.length c ∨ (v = .slice none l.length c ∧ l = [])) ∧ ∀ (k : Nat) (t : List UInt8), l[k]? = some t → W.cell? ⟨g, off + k, none⟩ = some (strV t)
theorem TextsIn.qt {W W' : World} {v : Value} {l : List (List UInt8)} (h : TextsIn W v l) (q : Qt W W') : TextsIn W' v l := by
  obtain ⟨g, off, c, h1, h2⟩ := h
  exact ⟨g, off, c, h1, fun k t hk => q.cellv (h2 k t hk)⟩
theorem TextsIn.len {W : World} {v : Value} {l : List (List UInt8)} (h : TextsIn W v l) : ∃ a c, v = .slice a l.length c := by
  obtain ⟨g, off, c, h1 | ⟨h1, rfl⟩, _⟩ := h
  · exact ⟨_, _, h1⟩
  · exact ⟨_, _, h1⟩
theorem TextsIn.get {W : World} {a : Option Addr} {n c : Nat} {l : List (List UInt8)} (h : TextsIn W (.slice a n c) l) {k : Nat} {t : List UInt8} (hk : l[k]? = some t) : ∃ g off, a = some ⟨g, off, none⟩ ∧ ∀ W', Qt W W' → W'.cell? ⟨g, off + k, none⟩ = some (strV t) := by
  obtain ⟨g, off, c', h1 | ⟨h1, rfl⟩, h2⟩ := h
  · injection h1 with e
    exact ⟨g, off, e, fun W' q => q.cellv (h2 k t hk)⟩
  · simp at hk
def SameAt (w : World) (l m : List (List UInt8)) (iv : Value) (wr : World) : Prop := ∃ k, k ≤ l.length ∧ iv = .int .i64 k ∧ (∀ j, j < k → l[j]? = m[j]?) ∧ Qt w wr
theorem same_lists {l m : List (List UInt8)} (hl : l.length = m.length) (h : ∀ j, j < l.length → l[j]? = m[j]?) : l = m := by
  apply List.ext_getElem? 
  intro j
  rcases Nat.lt_or_ge j l.length with k | k
  · exact h j k
  · rw [List.getElem?_eq_none k, List.getElem?_eq_none (by omega)]

set_option maxHeartbeats 1600000 in
theorem same_any (a b : Value) (l m : List (List UInt8)) (w : World) (hl : TextsIn w a l) (hm : TextsIn w b m) (hlb : l.length ≤ 140737488355328) :
    Calls Tryd.prog 32 #[a, b] w fun e w' => e = .returned (.bool (decide (l = m))) ∧ Qt w w' := by
  obtain ⟨aa, ac, rfl⟩ := hl.len
  obtain ⟨ba, bc, rfl⟩ := hm.len
  by_cases hlen : l.length = m.length
  · have zl : ((l.length : Int) != (m.length : Int)) = false := by rw [bne_eq_false_iff_eq]; omega
    have HLN := Lib.hid hlen
    have HLB := Lib.hid hlb
    have HA := Lib.hid hl
    have HB := Lib.hid hm
    have START := Lib.hid (show SameAt w l m (.int .i64 0) w from ⟨0, Nat.zero_le _, rfl, fun j hj => absurd hj (Nat.not_lt_zero j), Qt.refl _⟩)
    clear hl hm hlen hlb
    go_enter Tryd.func32, Tryd.ntmps32
    go_wp2
    go_loopw [13] (fun iv wr => SameAt w l m iv wr) (fun iv _ => l.length - (intOf iv).toNat)
    case atStart => exact START.out
    case round =>
      obtain ⟨k, hk, rfl, heq, q⟩ := hrel
      have HQ := Lib.hid q
      have HEQ := Lib.hid heq
      have hkb : (k : Int) ≤ 140737488355328 := by have := HLB.out; omega
      by_cases hlt : k < l.length
      · have zlt : decide ((k : Int) < (l.length : Int)) = true := decide_eq_true (by omega)
        have zlt' : decide (k < l.length) = true := decide_eq_true hlt
        have hltm : k < m.length := by rw [← HLN.out]; exact hlt
        obtain ⟨t, ht⟩ : ∃ t, l[k]? = some t := ⟨_, List.getElem?_eq_getElem hlt⟩
        obtain ⟨u, hu⟩ : ∃ u, m[k]? = some u := ⟨_, List.getElem?_eq_getElem hltm⟩
        obtain ⟨g, og, rfl, hg⟩ := HA.out.get ht
        obtain ⟨r, or, rfl, hr⟩ := HB.out.get hu
        obtain ⟨T, hT, hTl⟩ : ∃ T : ByteArray, strV t = .string T ∧ T.data.toList = t := ⟨⟨t.toArray⟩, rfl, rfl⟩
        obtain ⟨U, hU, hUl⟩ : ∃ U : ByteArray, strV u = .string U ∧ U.data.toList = u := ⟨⟨u.toArray⟩, rfl, rfl⟩
        rw [hT] at hg
        rw [hU] at hr
        have cg := hg wr q
        have cr := hr wr q
        have k0 : (0 : Int) ≤ (k : Int) := by omega
        have k1 : (k : Int) < (l.length : Int) := by omega
        have k2 : (k : Int) < (m.length : Int) := by omega
        have HLT := Lib.hid hlt
        have HME := Lib.hid (show l.length - (intOf (.int .i64 ((k : Int) + 1))).toNat < l.length - (intOf (.int .i64 (k : Int))).toNat by simp [intOf]; omega)
        by_cases he : t = u
        · have ze : (T.toList == U.toList) = true := by rw [bytes_eq7, hTl, hUl]; exact decide_eq_true he
          have ze2 : (T.toList != U.toList) = false := by rw [bytes_ne7, hTl, hUl]; exact decide_eq_false (fun q => q he)
          have FN := Lib.hid (fun (W : World) (q2 : Qt w W) => (show SameAt w l m (.int .i64 ((k : Int) + 1)) W from ⟨k + 1, HLT.out, by push_cast; rfl, fun j hj => by
            rcases Nat.lt_or_ge j k with h | h
            · exact HEQ.out j h
            · obtain rfl : j = k := by omega
              rw [ht, hu, he], q2⟩))
          clear hg hr ht hu hT hU hTl hUl he heq q hk hlt hltm
          go_wp2
          go_quiet (fail)
          have FN2 := Lib.hid (FN.out _ (Keeps.drewN HQ.out nq))
          go_wp2
          exact ⟨FN2.out, HME.out⟩
        · have ze : (T.toList == U.toList) = false := by rw [bytes_eq7, hTl, hUl]; exact decide_eq_false he
          have ze2 : (T.toList != U.toList) = true := by rw [bytes_ne7, hTl, hUl]; exact decide_eq_true he
          have FIN := Lib.hid (show decide (l = m) = false from decide_eq_false (fun e => he (by rw [e, hu] at ht; exact (Option.some.inj ht).symm)))
          clear hg hr ht hu hT hU hTl hUl he heq q hk hlt hltm
          go_wp2
          go_quiet (fail)
          have QN := Lib.hid (Keeps.drewN HQ.out nq)
          go_wp2
          go_ret
          exact ⟨by rw [FIN.out]; rfl, QN.out⟩
      · obtain rfl : k = l.length := by omega
        have zlt : decide ((l.length : Int) < (l.length : Int)) = false := decide_eq_false (by omega)
        have FIN := Lib.hid (show decide (l = m) = true from decide_eq_true (same_lists HLN.out heq))
        clear heq q hk hlt
        go_wp2
        go_ret
        exact ⟨by rw [FIN.out]; rfl, HQ.out⟩
  · have zl : ((l.length : Int) != (m.length : Int)) = true := by rw [bne_iff_ne]; omega
    have FIN := Lib.hid (show decide (l = m) = false from decide_eq_false (fun e => hlen (by rw [e])))
    clear hl hm hlen hlb
    go_enter Tryd.func32, Tryd.ntmps32
    go_wp2
    go_ret
    exact ⟨by rw [FIN.out]; rfl, Qt.refl _⟩
end Go.Proofs.YtggogaaooacooaaDoor
