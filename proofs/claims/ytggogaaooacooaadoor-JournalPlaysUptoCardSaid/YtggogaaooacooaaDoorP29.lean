/-
  A row of texts of the call's own, by their bytes.
  The contract of remitlaw10.each: what Each goes over, collected.
  What listed variables give, of no layer: errors of package api among them, in whatever order; a part of a row's list; the witness.
-/
import Derived.Test.YtggogaaooacooaaDoorP07
import Derived.Test.YtggogaaooacooaaDoorP08
import Derived.Test.YtggogaaooacooaaDoorP06
import Derived.RangeFuncBox
import Derived.RangeFuncLeaves
import Derived.RangeFuncNested
import Derived.Shelf.Abstract
import Derived.WalkKit
import Derived.OwnWalkIn
import Derived.TacticsInMore
import Derived.LoopNIn
import Derived.LoopIn
import Derived.Maps.AppendAt
import Derived.Test.YtggogaaooacooaaDoorP04
import Derived.Test.YtggogaaooacooaaDoorRows
import Derived.ProofKit
import Derived.LaidMore
import Derived.LaidLaws
import Derived.OpenShut
import Derived.Stop.LaidErr
import Derived.Deep.DeepHandedRow
import Derived.Deep.DeepWitnessRowRef
import Derived.Lib.LaidTab
import Derived.Lib.SmallJoins
import Derived.Lay
namespace Go.Proofs.YtggogaaooacooaaDoor
open Go.RowKit
set_option maxRecDepth 100000

theorem infoStrT : (Tryd.prog.info? 9).map (fun i => (i.zero, i.size, i.bytes)) = some (some (.string ⟨#[]⟩), 1, 16) := by kernel_rfl
/-- A row of texts of the call's own; nothing of w has turned. -/
structure NewT (w wr : World) (v : Value) (l : List (List UInt8)) : Prop where
  own : wr.ownsRow 0 9 1 v l.length (l.map strV)
  new : ∀ g, v.ownBlock = some g → w.heap.size ≤ g
  qt : Qt w wr
theorem NewT.nil {w wr : World} (q : Qt w wr) : NewT w wr (.slice none 0 0) [] := ⟨World.ownsRow_nil wr 0 _ 1, fun g h => (by cases h), q⟩
theorem NewT.quiet {w wr w2 : World} {v : Value} {l : List (List UInt8)} (h : NewT w wr v l) (k : Qt wr w2) : NewT w w2 v l := ⟨ownsRow_kept h.own k (fun _ _ e => e), h.new, Qt.trans h.qt k⟩
theorem NewT.later {w wr w2 w3 : World} {v v' : Value} {l : List (List UInt8)} {t : List UInt8} (h : NewT w wr v l) (k : Qt wr w2) (hown : w3.ownsRow 0 9 1 v' (l.length + 1) (l.map strV ++ [strV t])) (hg : w2.grownBy w3 v.ownBlock) (hl : Later w2 v.ownBlock v'.ownBlock) : NewT w w3 v' (l ++ [t]) := by
  have q2 := Qt.trans h.qt k
  refine ⟨?_, fun g hg' => ?_, ?_⟩
  · rw [List.length_append, List.map_append]; exact hown
  · rcases hl with e | ⟨x, e, hx⟩
    · exact h.new g (e ▸ hg')
    · rw [hg'] at e
      injection e with e
      subst e
      exact Nat.le_trans q2.size hx
  · exact Keeps.grown q2 hg (fun j hj e => by have := h.new j e.symm; omega)
theorem NewT.one {w W : World} (q : Qt w W) (t : List UInt8) : NewT w (W.alloc (.cells #[strV t] 9)) (.slice (some ⟨W.heap.size, 0, none⟩) 1 1) [t] :=
  ⟨⟨rfl, .inr ⟨W.heap.size, 1, #[strV t], rfl, Nat.zero_le _, heap_alloc_new W _, Nat.le_refl _, by decide, rfl, by simp⟩⟩, fun g hg => by injection hg with hg; rw [← hg]; exact q.size, Keeps.alloc q _⟩
/-- What it holds. -/
theorem NewT.shape {w wr : World} {v : Value} {l : List (List UInt8)} (h : NewT w wr v l) : ∃ a c, v = .slice a l.length c := by
  rcases h.own.2 with ⟨e, h0⟩ | ⟨g, cap, cur, e, _⟩
  · exact ⟨none, 0, by rw [e, h0]⟩
  · exact ⟨_, _, e⟩
theorem newT_cell {w wr : World} {a : Option Addr} {n c : Nat} {l : List (List UInt8)} (h : NewT w wr (.slice a n c) l) {k : Nat} {t : List UInt8} (hk : l[k]? = some t) : ∃ g, a = some ⟨g, 0, none⟩ ∧ wr.cell? ⟨g, k, none⟩ = some (strV t) := by
  rcases h.own.2 with ⟨e, h0⟩ | ⟨g, cap, cur, e, _⟩
  · have := (List.getElem?_eq_some_iff.1 hk).1
    omega
  · injection e with e1 e2 e3
    subst e1
    refine ⟨g, rfl, ?_⟩
    have hx : (l.map strV)[k]? = some (strV t) := by rw [List.getElem?_map, hk]; rfl
    have hc := h.own.cells (g := g) rfl k (strV t) hx
    have e : ((⟨g, 0, none⟩ : Addr).add k) = ⟨g, k, none⟩ := by unfold Addr.add; split <;> simp_all
    rw [e] at hc
    exact hc
end Go.Proofs.YtggogaaooacooaaDoor
namespace Go.Proofs.YtggogaaooacooaaDoor
open Go.RowKit Go.Shelf
attribute [local go_sem] Oper.semAt_some
set_option maxRecDepth 100000

/-- A list's texts with their numbers. -/
def enumT (l : List (List UInt8)) : List (Nat × List UInt8) := (List.range l.length).map fun k => (k, l.getD k [])
def encT (x : Nat × List UInt8) : Array Value := #[.int .i64 (x.1 : Int), strV x.2]
theorem enumT_length (l : List (List UInt8)) : (enumT l).length = l.length := by simp [enumT]
/-- What Each hands out: a function over just these. -/
def EachV (w : World) (fv : Value) (l : List (List UInt8)) : Prop :=
  ∃ gf lb, fv = .func (.func gf) #[] lb ∧ (∀ args W, (callFunc gf args).run Tryd.prog W = .ok (.enter gf args) W) ∧
    ∀ n, 1 ≤ n → ∀ W, Qt w W → SeqStopsK Fence.wide n Tryd.prog gf lb encT (Below w.heap.size) (fun ys => ys = enumT l) (fun pre => pre <+: enumT l) l.length W
theorem enumT_snoc (m : List (List UInt8)) (t : List UInt8) : enumT (m ++ [t]) = enumT m ++ [(m.length, t)] := by
  unfold enumT
  rw [List.length_append, List.length_singleton, List.range_succ, List.map_append]
  congr 1
  · exact List.map_congr_left fun k hk => by
      have := List.mem_range.1 hk
      simp [List.getD, List.getElem?_append_left this]
  · simp [List.getD]
theorem enumT_snd (m : List (List UInt8)) : (enumT m).map Prod.snd = m := by
  apply List.ext_getElem?
  intro k
  unfold enumT
  rw [List.map_map, List.getElem?_map]
  rcases Nat.lt_or_ge k m.length with h | h
  · rw [List.getElem?_range h]
    simp [List.getD, List.getElem?_eq_getElem h]
  · rw [List.getElem?_eq_none (by simpa using h), List.getElem?_eq_none h]
    rfl
theorem goodT_more {pre : List (Nat × List UInt8)} {x : Nat × List UInt8} (h : pre = enumT (pre.map Prod.snd)) (hx : x.1 = (pre.map Prod.snd).length) : pre ++ [x] = enumT ((pre ++ [x]).map Prod.snd) := by
  rw [List.map_append, List.map_singleton, enumT_snoc, ← h, ← hx]
/-- A beginning of the numbered list has its numbers right. -/
theorem enumT_begin {m l : List (List UInt8)} {x : Nat × List UInt8} (h : enumT m ++ [x] <+: enumT l) : x.1 = m.length ∧ m.length < l.length := by
  obtain ⟨r, hr⟩ := h
  have hlen := congrArg List.length hr
  rw [List.length_append, List.length_append, enumT_length, enumT_length, List.length_singleton] at hlen
  have hlt : m.length < l.length := by omega
  have h1 : (enumT l)[m.length]? = some x := by
    rw [← hr, List.append_assoc, List.getElem?_append_right (by rw [enumT_length]; exact Nat.le_refl _), enumT_length, Nat.sub_self]
    rfl
  have h2 : (enumT l)[m.length]? = some (m.length, l.getD m.length []) := by
    unfold enumT
    rw [List.getElem?_map, List.getElem?_range hlt]
    rfl
  rw [h1] at h2
  injection h2 with h2
  exact ⟨by rw [h2], hlt⟩
theorem eqIn_func_nil (d : Nat) (gf : FuncId) (lb : Array Value) (W : World) : (Op.equalIn (d + 1) 71 (.func (.func gf) #[] lb) .nilFunc).run Tryd.prog W = .ok false W := by
  simp [Op.equalIn, run_underlying Tryd.underlying71]
theorem func_nil (gf : FuncId) (lb : Array Value) (W : World) : (binOp .eql 71 (.func (.func gf) #[] lb) .nilFunc).run Tryd.prog W = .ok (.bool false) W := by
  have h : (Op.equal 71 (.func (.func gf) #[] lb) .nilFunc).run Tryd.prog W = .ok false W := eqIn_func_nil 9999 gf lb W
  simp only [binOp]
  simp [h]
theorem boxed_other {W : World} {B C : Nat} {t : TypeId} {v x : Value} (h : Boxed W B t v) (hne : B ≠ C) : Boxed (W.setCell ⟨C, 0, none⟩ x) B t v := by
  unfold Boxed at h ⊢
  simp only [World.setCell, Array.getElem?_modify]
  rw [if_neg (fun e => hne e.symm)]
  exact h
theorem boxed_set {W : World} {B : Nat} {t : TypeId} {v x : Value} (h : Boxed W B t v) : Boxed (W.setCell ⟨B, 0, none⟩ x) B t x := by
  unfold Boxed at h ⊢
  simp only [World.setCell, Array.getElem?_modify, h, if_true, Option.map_some]
  rfl
theorem boxed_qt {W W' : World} {B : Nat} {t : TypeId} {v : Value} (h : Boxed W B t v) (q : Qt W W') : Boxed W' B t v := (q.block B h.lt (fun e => e)).trans h
theorem boxed_put {W : World} {B D : Nat} {t : TypeId} {v : Value} {o : Obj} (h : Boxed W B t v) (hne : D ≠ B) : Boxed (W.putObj D o) B t v := by
  unfold Boxed at h ⊢
  rw [World.putObj_heap_other (fun e => hne e.symm)]
  exact h
theorem isAggT (w : World) : (isAgg 66).run Tryd.prog w = .ok false w := run_isAgg_plain Tryd.underlying66 rfl w
theorem isAggB (w : World) : (isAgg 4).run Tryd.prog w = .ok false w := run_isAgg_plain Tryd.underlying4 rfl w
theorem results_cell2 {fn : Func} {p q : Tmp} {t u : TypeId} (h : fn.results = #[.cell p t, .cell q u]) (tmps : Array Value) (P : Program) (w : World) {a b : Addr} {x y : Value}
    (hp : tmps.getD p undef = .pointer (some a)) (hq : tmps.getD q undef = .pointer (some b)) (ht : (isAgg t).run P w = .ok false w) (hu : (isAgg u).run P w = .ok false w)
    (hx : w.cell? a = some x) (hy : w.cell? b = some y) : (results fn tmps).run P w = .ok (.tuple #[x, y]) w := by
  have hp' : tmps[p]?.getD undef = .pointer (some a) := by simpa using hp
  have hq' : tmps[q]?.getD undef = .pointer (some b) := by simpa using hq
  simp [results, h, hp', hq', asAddr, loadVar, Sem.run_bind, ht, hu, hx, hy, Result.andThen]
set_option maxHeartbeats 2000000 in
theorem each_any (a0 a1 a2 a3 : Value) (l : List (List UInt8)) (w : World) (hl : l.length ≤ 70000)
    (EH : ∀ W, Qt w W → Calls Tryd.prog 31 #[a0, a1, a2, a3] W fun e w' => ∃ fv, e = .returned fv ∧ EachV w' fv l ∧ Qt W w') :
    Calls Tryd.prog 49 #[a0, a1, a2, a3] w fun e w' => ∃ v, e = .returned (.tuple #[v, .bool true]) ∧ NewT w w' v l := by
  refine (callsIn_wide (n := 5)).1 ?_
  obtain ⟨i0, hi, hz0, hz1, hz2⟩ := info_parts infoStrT
  refine callsIn_of_wp_marks Tryd.func49 rfl trivial ?_ rfl
  simp only [Tryd.ntmps49, List.size_toArray, List.length_cons, List.length_nil, Nat.reduceAdd, Nat.reduceSub, Array.replicate_succ, Array.replicate_zero, List.push_toArray, List.append_toArray, List.nil_append, List.cons_append]
  gi_wp2_with fail
  obtain ⟨wa, hwa⟩ : ∃ W, (w.alloc (.cells #[.slice none 0 0] 66)).alloc (.cells #[.bool false] 4) = W := ⟨_, rfl⟩
  have QA : Qt w wa := hwa ▸ ((Qt.refl w).alloc _).alloc _
  have b8 : Boxed wa w.heap.size 66 (.slice none 0 0) := hwa ▸ (Boxed.new w 66 (.slice none 0 0)).alloc _
  have b9 : Boxed wa (w.heap.size + 1) 4 (.bool false) := by
    have h := Boxed.new (w.alloc (.cells #[.slice none 0 0] 66)) 4 (.bool false)
    rw [World.size_alloc] at h
    exact hwa ▸ h
  have hsa : wa.heap.size = w.heap.size + 2 := by rw [← hwa]; simp
  rw [hwa]
  clear hwa
  refine ⟨trivial, (callsIn_wide.2 (EH wa QA)).mono ?_⟩
  rintro e w1 ⟨fv, rfl, ⟨gf, lb, rfl, hen, hseq⟩, q1⟩
  have Q1 := Qt.trans QA q1
  have hne : ∀ W, (binOp .eql 71 (.func (.func gf) #[] lb) .nilFunc).run Tryd.prog W = .ok (.bool false) W := func_nil gf lb
  gi_wp2_with fail
  have bB := Boxed.new w1 66 (.slice none 0 0)
  have hB1 : Below w1.heap.size w1 (w1.alloc (.cells #[.slice none 0 0] 66)) := (Below.refl _ w1).alloc (Nat.le_refl _) _
  obtain ⟨w2, hw2⟩ : ∃ W, w1.alloc (.cells #[.slice none 0 0] 66) = W := ⟨_, rfl⟩
  have hs2 : w2.heap.size = w1.heap.size + 1 := by rw [← hw2]; simp
  rw [hw2] at bB hB1 ⊢
  clear hw2
  have C89 := Lib.hid (fun (W : World) (hB : Below w1.heap.size w1 W) => (show Boxed W w.heap.size 66 (.slice none 0 0) ∧ Boxed W (w.heap.size + 1) 4 (.bool false) from
    ⟨boxed_qt b8 (Qt.trans q1 (Qt.of_below hB)), boxed_qt b9 (Qt.trans q1 (Qt.of_below hB))⟩))
  refine wpIn_rangeFunc_ownG rfl (by omega) (gf := gf) (lb := lb) rfl trivial hen
    (hseq 4 (by omega) w2 (Qt.of_below hB1)) belowK_t (belowK_b (by omega)) (Below.refl _ _) (fun _ => rfl)
    (fun pre W => (∃ v, Boxed W w1.heap.size 66 v ∧ W.ownsRow w1.heap.size 9 1 v (pre.map Prod.snd).length ((pre.map Prod.snd).map strV) ∧ pre = enumT (pre.map Prod.snd)) ∧ Below w1.heap.size w1 W)
    (fun _ q _ => ∃ (m : List (List UInt8)) (x : Nat × List UInt8), q = enumT m ++ [x] ∧ (x.1 ≠ m.length ∨ 70000 < m.length))
    (OwnFrom.and (Own.from (holdsRow_own w1.heap.size w1.heap.size 66 9 1 (fun pre => (pre.map Prod.snd).length) (fun pre => (pre.map Prod.snd).map strV) (fun pre _ => pre = enumT (pre.map Prod.snd))) _) (ownFrom_below (Nat.le_refl _) (by omega)))
    (fun _ _ _ _ _ hs _ _ => hs)
    ⟨⟨_, bB, World.ownsRow_nil _ _ _ _, rfl⟩, hB1⟩
    (fun x => { tmps := #[a0, a1, a2, a3, undef, undef, undef, undef, .pointer (some ⟨w.heap.size, 0, none⟩), .pointer (some ⟨w.heap.size + 1, 0, none⟩), .func (.func gf) #[] lb, .pointer (some ⟨w1.heap.size, 0, none⟩), .int .i64 (x.1 : Int), strV x.2, a0, a1, a2, a3, .func (.func gf) #[] lb, .func (.func gf) #[] lb, .bool false, .func (.func gf) #[] lb, .int .i64 (x.1 : Int), strV x.2, undef, undef, undef, undef, undef, undef, undef, undef, undef, undef, undef, undef, undef, undef], defers := [] }) ?assign ?body ?done ?stop
  case assign =>
    intro l x W K hK
    unfold encT
    gi_wp2
    exact hK
  case body =>
    rintro k pre x W ⟨⟨v, hv, hrow, hgood⟩, hB⟩ hlt
    have hc := hv.cell
    have hf := hv.frozen
    have hml : (pre.map Prod.snd).length = pre.length := List.length_map ..
    obtain ⟨va, vc, rfl⟩ : ∃ a c, v = .slice a (pre.map Prod.snd).length c := by
      rcases hrow.2 with ⟨e, h0⟩ | ⟨g, cap, cur, e, _⟩
      · exact ⟨none, 0, by rw [e, h0]⟩
      · exact ⟨_, _, e⟩
    rw [hml] at hc hv hrow
    have HG := Lib.hid hgood
    have HML := Lib.hid hml
    have HQ1 := Lib.hid q1
    have HSQ := Lib.hid Q1
    clear hgood hml hseq hen QA Q1 q1 b8 b9 hsa hs2 EH
    have hBz := hB.size
    obtain ⟨B8, B9⟩ := C89.out W hB
    have c8 := B8.cell
    have f8 := B8.frozen
    have B9' := boxed_other (x := .slice none 0 0) B9 (show w.heap.size + 1 ≠ w.heap.size by omega)
    have c9 := B9'.cell
    have f9 := B9'.frozen
    have c9W := B9.cell
    have f9W := B9.frozen
    have HBW := Lib.hid hB
    by_cases hx : x.1 = pre.length
    · by_cases h7 : 70000 < pre.length
      · have zx : ((x.1 : Int) != (pre.length : Int)) = false := by rw [bne_eq_false_iff_eq]; omega
        have z7 : decide (70000 < (pre.length : Int)) = true := decide_eq_true (by omega)
        have z7' : decide (70000 < pre.length) = true := decide_eq_true h7
        have HX := Lib.hid (show ∃ (m : List (List UInt8)) (y : Nat × List UInt8), pre ++ [x] = enumT m ++ [y] ∧ (y.1 ≠ m.length ∨ 70000 < m.length) from ⟨pre.map Prod.snd, x, by rw [← HG.out], .inr (by rw [HML.out]; exact h7)⟩)
        clear h7
        gi_wp2
        exact ⟨((KeepsOthers.setCell _ _ _).trans (KeepsOthers.setCell _ _ _)).from _, HX.out⟩
      · have zx : ((x.1 : Int) != (pre.length : Int)) = false := by rw [bne_eq_false_iff_eq]; omega
        have z7 : decide (70000 < (pre.length : Int)) = false := decide_eq_false (by omega)
        have z7' : decide (70000 < pre.length) = false := decide_eq_false h7
        have hb1 : pre.length + 1 ≤ maxLen := by unfold maxLen; omega
        have hb2 : (pre.length + 1) * 16 ≤ 140737488355328 := by omega
        have hb3 : ∀ sx : ByteArray, w1.heap.size ≤ (W.alloc (.cells #[.string sx] 9)).heap.size := by intro sx; simp; omega
        obtain ⟨sx, hsx⟩ : ∃ s : ByteArray, strV x.2 = .string s := ⟨_, rfl⟩
        have HSX := Lib.hid hsx
        rw [hsx]
        have H7 := Lib.hid h7
        have HXE := Lib.hid hx
        clear h7 hx
        clear hsx
        gi_wp2_with (gi_at_builtin; refine wpListIn_append_own _ rfl _ _ 66 rfl w1.heap.size 9 i0 (.string ⟨#[]⟩) 1 16 Tryd.underlying66 hi hz0 hz1 hz2 rfl (by decide) _ _ _ rfl (hrow.alloc _) ⟨W.heap.size, 0, none⟩ 1 1 [.string sx] rfl rfl (cell_one_new _ _ _) (by intro y hy; rw [List.mem_singleton.1 hy]; rfl) hb1 hb2 (hb3 sx) ?_; intro v' w3 hown' hgrow _; obtain ⟨g', cap', rfl⟩ := ownsRow_succ hown'; obtain ⟨hv1, hv2, hr2, hk2, hb2'⟩ := hv.appended (by decide) hrow hB.size (Nat.le_refl _) hown' hgrow; have hc1 := hv1.cell; have hf1 := hv1.frozen)
        have HGG := goodT_more HG.out (by rw [HXE.out, HML.out])
        have e : (pre ++ [x]).map Prod.snd = pre.map Prod.snd ++ [x.2] := by simp
        refine ⟨hk2.from _, hb2', ⟨_, hv2, ?_, HGG⟩, HBW.out.trans hb2'⟩
        rw [e, List.length_append, HML.out, List.map_append, List.map_singleton, HSX.out]
        exact hr2
    · have zx : ((x.1 : Int) != (pre.length : Int)) = true := by rw [bne_iff_ne]; omega
      have HX := Lib.hid (show ∃ (m : List (List UInt8)) (y : Nat × List UInt8), pre ++ [x] = enumT m ++ [y] ∧ (y.1 ≠ m.length ∨ 70000 < m.length) from ⟨pre.map Prod.snd, x, by rw [← HG.out], .inl (by rw [HML.out]; exact hx)⟩)
      clear hx
      gi_wp2
      exact ⟨((KeepsOthers.setCell _ _ _).trans (KeepsOthers.setCell _ _ _)).from _, HX.out⟩
  case done =>
    rintro D ys W hD rfl ⟨⟨v, hv, hrow, hgood⟩, hB⟩ hK
    rw [enumT_snd] at hrow
    obtain ⟨va, vc, rfl⟩ : ∃ a c, v = .slice a l.length c := by
      rcases hrow.2 with ⟨e, h0⟩ | ⟨g, cap, cur, e, _⟩
      · exact ⟨none, 0, by rw [e, h0]⟩
      · exact ⟨_, _, e⟩
    have hc := hv.cell
    have hf := hv.frozen
    obtain ⟨B8, B9⟩ := C89.out W hB
    have c8 := B8.cell
    have f8 := B8.frozen
    have N8 := boxed_set (x := .slice va l.length vc) B8
    have B9' := boxed_other (x := .slice va l.length vc) B9 (show w.heap.size + 1 ≠ w.heap.size by omega)
    have c9 := B9'.cell
    have f9 := B9'.frozen
    have N9 := boxed_set (x := .bool true) B9'
    have N8' := boxed_other (x := .bool true) N8 (show w.heap.size ≠ w.heap.size + 1 by omega)
    have d9 := N9.cell
    have d8 := N8'.cell
    clear hseq hen EH
    have hqs := q1.size
    have hBz := hB.size
    have k8 : D ≠ w.heap.size := by omega
    have k9 : D ≠ w.heap.size + 1 := by omega
    obtain ⟨W2, hW2⟩ : ∃ X, (W.setCell ⟨w.heap.size, 0, none⟩ (.slice va l.length vc)).setCell ⟨w.heap.size + 1, 0, none⟩ (.bool true) = X := ⟨_, rfl⟩
    have K2 : ∀ g, g ≠ w.heap.size → g ≠ w.heap.size + 1 → W2.heap[g]? = W.heap[g]? := fun g h8 h9 => by
      rw [← hW2, heap_setCell_other _ _ _ _ (by simpa using h9), heap_setCell_other _ _ _ _ (by simpa using h8)]
    have hK2 : W2.heap[D]? = some (.deferred (some [])) := (K2 D k8 k9).trans hK
    have P8 := boxed_put (o := .deferred none) (hW2 ▸ N8') k8
    have P9 := boxed_put (o := .deferred none) (hW2 ▸ N9) k9
    have row2 : W2.ownsRow 0 9 1 (.slice va l.length vc) l.length (l.map strV) := by
      rcases hrow with ⟨h1, h2⟩
      rcases h2 with h2 | ⟨g, cap, cs, e, hle, hh, rest⟩
      · exact ⟨h1, .inl h2⟩
      · exact ⟨h1, .inr ⟨g, cap, cs, e, Nat.zero_le _, (K2 g (by omega) (by omega)).trans hh, rest⟩⟩
    have row3 := ownsRow_putObj row2 (.deferred none) hK2 rfl
    have new3 : ∀ g, (Value.slice va l.length vc).ownBlock = some g → w.heap.size ≤ g := by
      intro g hg
      rcases hrow.2 with ⟨e, _⟩ | ⟨g', cap, cs, e, hle, _⟩
      · rw [e] at hg
        cases hg
      · rw [e] at hg
        injection hg with hg
        have hg : g' = g := hg
        omega
    have QW : Qt w W := Qt.trans Q1 (Qt.of_below hB)
    have Q2 : Qt w W2 := hW2 ▸ Keeps.setCell (Keeps.setCell QW (fun h => absurd h (by simp)) _) (fun h => absurd h (by simp)) _
    have Q3 : Qt w (W2.putObj D (.deferred none)) := Keeps.grown Q2 (grownBy_putObj' _ _ _) (fun k hk e => by injection e with e; omega)
    gi_wp2
    refine ⟨by simp, .inl ⟨_, _, rfl, run_takeDeferred hK2, ?_⟩⟩
    exact ⟨_, results_cell2 (p := 8) (q := 9) (by kernel_rfl) _ Tryd.prog _ rfl rfl (isAggT _) (isAggB _) P8.cell P9.cell, _, rfl, ⟨row3, new3, Q3⟩⟩
  case stop =>
    rintro D c pre W _ hpre ⟨m, x, rfl, hx⟩ _
    exfalso
    obtain ⟨e1, e2⟩ := enumT_begin hpre
    rcases hx with hx | hx
    · exact hx e1
    · omega
end Go.Proofs.YtggogaaooacooaaDoor
namespace Go.Proofs.YtggogaaooacooaaDoor
open Go.ChangeShapes Go.WideShapes Go.ChangeAt Go.RowKit
set_option maxRecDepth 100000

theorem laidOut : laidOutB Tryd.prog = true := by kernel_rfl
theorem own' : ownKnob Tryd.prog.godebug = none := by kernel_rfl

/-- 'There is an input that fits', at a start whose shape is known. -/
theorem witness_laid {H : Type} {enc : TypeId × Value → H} {C : Checked} {os : Os} {f : FuncId} {fn : Func} {s : OpenSpec} {conds : List PathCond} {apart : Bool} {laid : List (String × DataW Unit)} (modest : Bool) (w0 : World) (args : Array Value) (hos : w0.os = os)
    (hsh : (w0.forCall (fun _ _ => 0) ⟨#[], args, []⟩).Shaped C.prog)
    (hok : Input.okWideB C.prog (w0.forCall (fun _ _ => 0) ⟨#[], args, []⟩) f ⟨#[], args, []⟩ = true)
    (hrow : s.preRow enc C.prog fn conds apart laid (w0.forCall (fun _ _ => 0) ⟨#[], args, []⟩).memory args) :
    ∃ (w : World) (tape : Tape) (i : Input), w.os = os ∧ (w.forCall tape i).Shaped C.prog ∧ i.vars = [] ∧ Input.okWide C.prog (w.forCall tape i) .any w.heap.size f i ∧
      s.preRow enc C.prog fn conds apart laid (w.forCall tape i).memory i.args ∧ ({ modest := modest } : Assume).holds C.prog (lone (Frame.enter C.prog f i.args .normal) [] (w.forCall tape i)) :=
  ⟨w0, fun _ _ => 0, ⟨#[], args, []⟩, hos, hsh, (Input.okWide_of_okWideB (base := 0) hok).1, (Input.okWide_of_okWideB hok).2, hrow, by
    simp only [Assume.holds]
    exact ⟨by simp, by simp, fun _ => Modest.zero, by simp, by simp⟩⟩

/-- A part of a list of listed variables. -/
theorem laidVars_sub {P : Program} {w : World} {L' L : List (String × DataW Unit)} (hs : L'.Sublist L) : ∀ {ps : List MemPlace}, DataW.LaidVars P w L ps → ∃ q, DataW.LaidVars P w L' q ∧ q.Sublist ps := by
  induction hs with
  | slnil => intro ps h; exact ⟨ps, h, List.Sublist.refl _⟩
  | cons a _ ih =>
    intro ps h
    obtain ⟨n, d⟩ := a
    obtain ⟨g, t, cs, f, p, q, h1, h2, h3, h4, hq, e⟩ := h
    obtain ⟨q', hq', hsub⟩ := ih hq
    exact ⟨q', hq', by rw [e]; exact hsub.trans (List.sublist_append_right _ _)⟩
  | cons_cons a _ ih =>
    intro ps h
    obtain ⟨n, d⟩ := a
    obtain ⟨g, t, cs, f, p, q, h1, h2, h3, h4, hq, e⟩ := h
    obtain ⟨q', hq', hsub⟩ := ih hq
    exact ⟨_, ⟨g, t, cs, f, p, q', h1, h2, h3, h4, hq', rfl⟩, by rw [e]; exact List.Sublist.append (List.Sublist.refl _) hsub⟩
theorem laidMet_sub {P : Program} {W : World} {L' L : List (String × DataW Unit)} (hs : L'.Sublist L) (h : laidMet P L W) : laidMet P L' W := by
  obtain ⟨ps, hv, hnd, hrows⟩ := h
  obtain ⟨q, hq, hsub⟩ := laidVars_sub hs hv
  exact ⟨q, hq, hnd.sublist hsub, fun b off hb => hrows b off (hsub.subset hb)⟩

/-! ### Errors -/
theorem cellsErr : Tryd.prog.cellsOf 182 = 1 := by kernel_rfl
theorem cellsString : Tryd.prog.cellsOf 9 = 1 := by kernel_rfl
theorem starErr : "*errors.errorString" = "*" ++ "errors.errorString" := by decide
theorem rowErr (u : TypeId) (h : Tryd.prog.typeName? 3 u = some "*errors.errorString") : u = 168 :=
  typeName_ptr_named (nm := "errors.errorString") (by rw [← starErr]; kernel_rfl) (by kernel_rfl) (by decide) u (by rw [← starErr]; exact h)

/-- An error as the rows list it. -/
def errD (text : List UInt8) : DataW Unit := .iface "*errors.errorString" (.ptr (.agg [.lit (.string text)]))

theorem laid_errs {W : World} {PS : List MemPlace} (hrows : ∀ b off, MemPlace.cell b off ∈ PS → (∃ c t, W.heap[b]? = some (.cells c t (0, 0))) ∧ ∀ u v, W.cell? ⟨b, off, none⟩ = some (.iface u v) → Value.okWide Tryd.prog W .any 0 u v) :
    ∀ (L : List (String × List UInt8)) (gs : List Nat) (ps : List MemPlace), (∀ x ∈ ps, x ∈ PS) → ps.Nodup → L.map (fun x => Tryd.prog.globalNamed x.1) = gs.map some → (∀ g ∈ gs, (Tryd.prog.globals[g]?).map (·.type) = some 26) →
      DataW.LaidVars Tryd.prog W (L.map fun x => (x.1, errD x.2)) ps →
      ∃ al : List Addr, al.length = gs.length ∧ (∀ (i : Nat) (g : Nat) (a : Addr), gs[i]? = some g → al[i]? = some a → W.cell? ⟨g, 0, none⟩ = some (.iface 168 (.pointer (some a))) ∧ (∃ c t, W.heap[a.block]? = some (.cells c t (0, 0)))) ∧
        (∀ a ∈ al, MemPlace.cell a.block a.off ∈ ps) ∧ (al.map fun a => MemPlace.cell a.block a.off).Nodup
  | [], gs, ps, _, _, hg, _, _ => by
    obtain rfl : gs = [] := by simpa using hg.symm
    exact ⟨[], rfl, fun i g a h => by simp at h, fun a h => by simp at h, by simp⟩
  | (n, text) :: r, [], ps, _, _, hg, _, _ => by simp at hg
  | (n, text) :: r, g :: gs, ps, hps, hnd, hg, ht, h => by
    simp only [List.map_cons, List.cons.injEq] at hg
    obtain ⟨g0, t0, cs0, f0, p0, q0, hg0, ht0, hv0, hd0, hq, e0⟩ := h
    obtain rfl := Option.some.inj (hg.1.symm.trans hg0)
    obtain rfl := Option.some.inj ((ht g (by simp)).symm.trans ht0)
    obtain ⟨l0⟩ := cs0
    have ok0 : ∀ u v, l0 = [.iface u v] → Value.okWide Tryd.prog W .any 0 u v := fun u v e => by
      subst e
      exact (hrows g 0 (hps _ (by rw [e0]; simp [MemPlace.row]))).2 u v (by simpa using World.var?_cell hg0 hv0 0)
    obtain ⟨a0, s0, rfl, hc0, hs0, hz0, rfl⟩ := errorString_of_trod Tryd.underlying26 rowErr Tryd.underlying168 Tryd.underlying182 rfl rfl Tryd.underlying9 cellsErr cellsString hd0 ok0
    have hsub : q0.Sublist ps := by rw [e0]; exact List.sublist_append_right _ _
    obtain ⟨al, hl, h1, h2, h3⟩ := laid_errs hrows r gs q0 (fun x hx => hps x (hsub.subset hx)) (hnd.sublist hsub) hg.2 (fun g' hg' => ht g' (by simp [hg'])) hq
    have hmem : MemPlace.cell a0.block a0.off ∈ ps := by rw [e0]; simp [MemPlace.row]
    refine ⟨a0 :: al, by simp [hl], fun i g' a hi ha => ?_, fun a ha => ?_, ?_⟩
    · cases i with
      | zero =>
        simp at hi ha
        subst hi ha
        exact ⟨by simpa using World.var?_cell hg0 hv0 0, (hrows _ _ (hps _ hmem)).1⟩
      | succ i => exact h1 i g' a (by simpa using hi) (by simpa using ha)
    · rcases List.mem_cons.1 ha with rfl | ha
      · exact hmem
      · exact hsub.subset (h2 a ha)
    · simp only [List.map_cons, List.nodup_cons]
      refine ⟨fun hm => ?_, h3⟩
      obtain ⟨a, ha, hae⟩ := List.mem_map.1 hm
      rw [e0] at hnd
      have hq1 := h2 a ha
      rw [hae] at hq1
      exact (List.nodup_append.1 hnd).2.2 _ (by simp [MemPlace.row]) _ hq1 rfl

/-- One error, listed alone. -/
theorem err_of_laid {W : World} {n : String} {text : List UInt8} {g : Nat} (hn : Tryd.prog.globalNamed n = some g) (ht : (Tryd.prog.globals[g]?).map (·.type) = some 26) (h : laidMet Tryd.prog [(n, errD text)] W) : ∃ ad, W.cell? ⟨g, 0, none⟩ = some (.iface 168 (.pointer (some ad))) := by
  obtain ⟨ps, hv, hnd, hrows⟩ := h
  obtain ⟨al, hl, h1, _, _⟩ := laid_errs hrows [(n, text)] [g] ps (fun _ h => h) hnd (by simp [hn]) (by simpa using ht) hv
  match al, hl with
  | [a], _ => exact ⟨a, (h1 0 _ a rfl rfl).1⟩

def formBytes : List UInt8 := [114, 101, 109, 105, 116, 58, 32, 102, 111, 114, 109]
end Go.Proofs.YtggogaaooacooaaDoor
