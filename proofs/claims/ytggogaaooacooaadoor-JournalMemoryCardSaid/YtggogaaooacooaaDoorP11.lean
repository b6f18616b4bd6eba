/-
  The contract of remitlaw10.each: what Each goes over, collected.
  The contract of journal.Each: a function over just the records that Replay told.
-/
import Derived.RangeFuncBox
import Derived.RangeFuncLeaves
import Derived.RangeFuncNested
import Derived.Shelf.Abstract
import Derived.WalkKit
import Derived.OwnWalkIn
import Derived.TacticsInMore
import Derived.LoopNIn
import Derived.LoopIn
import Derived.Maps.AppendAt
import Derived.Test.YtggogaaooacooaaDoorP10
import Derived.RangeFuncKeeps
namespace Go.Proofs.YtggogaaooacooaaDoor
open Go.RowKit Go.Shelf
attribute [local go_sem] Oper.semAt_some
set_option maxRecDepth 100000

/-- A list's texts with their numbers. -/
def enumT (l : List (List UInt8)) : List (Nat × List UInt8) := (List.range l.length).map fun k => (k, l.getD k [])
def encT (x : Nat × List UInt8) : Array Value := #[.int .i64 (x.1 : Int), strV x.2]
theorem enumT_length (l : List (List UInt8)) : (enumT l).length = l.length := by simp [enumT]
/-- What Each hands out: a function over just these. -/
def EachV (w : World) (fv : Value) (l : List (List UInt8)) : Prop :=
  ∃ gf lb, fv = .func (.func gf) #[] lb ∧ (∀ args W, (callFunc gf args).run Tryd.prog W = .ok (.enter gf args) W) ∧
    ∀ n, 1 ≤ n → ∀ W, Qt w W → SeqStopsK Fence.wide n Tryd.prog gf lb encT (Below w.heap.size) (fun ys => ys = enumT l) (fun pre => pre <+: enumT l) l.length W
theorem enumT_snoc (m : List (List UInt8)) (t : List UInt8) : enumT (m ++ [t]) = enumT m ++ [(m.length, t)] := by
  unfold enumT
  rw [List.length_append, List.length_singleton, List.range_succ, List.map_append]
  congr 1
  · exact List.map_congr_left fun k hk => by
      have := List.mem_range.1 hk
      simp [List.getD, List.getElem?_append_left this]
  · simp [List.getD]
theorem enumT_snd (m : List (List UInt8)) : (enumT m).map Prod.snd = m := by
  apply List.ext_getElem?
  intro k
  unfold enumT
  rw [List.map_map, List.getElem?_map]
  rcases Nat.lt_or_ge k m.length with h | h
  · rw [List.getElem?_range h]
    simp [List.getD, List.getElem?_eq_getElem h]
  · rw [List.getElem?_eq_none (by simpa using h), List.getElem?_eq_none h]
    rfl
theorem goodT_more {pre : List (Nat × List UInt8)} {x : Nat × List UInt8} (h : pre = enumT (pre.map Prod.snd)) (hx : x.1 = (pre.map Prod.snd).length) : pre ++ [x] = enumT ((pre ++ [x]).map Prod.snd) := by
  rw [List.map_append, List.map_singleton, enumT_snoc, ← h, ← hx]
/-- A beginning of the numbered list has its numbers right. -/
theorem enumT_begin {m l : List (List UInt8)} {x : Nat × List UInt8} (h : enumT m ++ [x] <+: enumT l) : x.1 = m.length ∧ m.length < l.length := by
  obtain ⟨r, hr⟩ := h
  have hlen := congrArg List.length hr
  rw [List.length_append, List.length_append, enumT_length, enumT_length, List.length_singleton] at hlen
  have hlt : m.length < l.length := by omega
  have h1 : (enumT l)[m.length]? = some x := by
    rw [← hr, List.append_assoc, List.getElem?_append_right (by rw [enumT_length]; exact Nat.le_refl _), enumT_length, Nat.sub_self]
    rfl
  have h2 : (enumT l)[m.length]? = some (m.length, l.getD m.length []) := by
    unfold enumT
    rw [List.getElem?_map, List.getElem?_range hlt]
    rfl
  rw [h1] at h2
  injection h2 with h2
  exact ⟨by rw [h2], hlt⟩
theorem eqIn_func_nil (d : Nat) (gf : FuncId) (lb : Array Value) (W : World) : (Op.equalIn (d + 1) 71 (.func (.func gf) #[] lb) .nilFunc).run Tryd.prog W = .ok false W := by
  simp [Op.equalIn, run_underlying Tryd.underlying71]
theorem func_nil (gf : FuncId) (lb : Array Value) (W : World) : (binOp .eql 71 (.func (.func gf) #[] lb) .nilFunc).run Tryd.prog W = .ok (.bool false) W := by
  have h : (Op.equal 71 (.func (.func gf) #[] lb) .nilFunc).run Tryd.prog W = .ok false W := eqIn_func_nil 9999 gf lb W
  simp only [binOp]
  simp [h]
theorem boxed_other {W : World} {B C : Nat} {t : TypeId} {v x : Value} (h : Boxed W B t v) (hne : B ≠ C) : Boxed (W.setCell ⟨C, 0, none⟩ x) B t v := by
  unfold Boxed at h ⊢
  simp only [World.setCell, Array.getElem?_modify]
  rw [if_neg (fun e => hne e.symm)]
  exact h
theorem boxed_set {W : World} {B : Nat} {t : TypeId} {v x : Value} (h : Boxed W B t v) : Boxed (W.setCell ⟨B, 0, none⟩ x) B t x := by
  unfold Boxed at h ⊢
  simp only [World.setCell, Array.getElem?_modify, h, if_true, Option.map_some]
  rfl
theorem boxed_qt {W W' : World} {B : Nat} {t : TypeId} {v : Value} (h : Boxed W B t v) (q : Qt W W') : Boxed W' B t v := (q.block B h.lt (fun e => e)).trans h
theorem boxed_put {W : World} {B D : Nat} {t : TypeId} {v : Value} {o : Obj} (h : Boxed W B t v) (hne : D ≠ B) : Boxed (W.putObj D o) B t v := by
  unfold Boxed at h ⊢
  rw [World.putObj_heap_other (fun e => hne e.symm)]
  exact h
theorem isAggT (w : World) : (isAgg 66).run Tryd.prog w = .ok false w := run_isAgg_plain Tryd.underlying66 rfl w
theorem isAggB (w : World) : (isAgg 4).run Tryd.prog w = .ok false w := run_isAgg_plain Tryd.underlying4 rfl w
theorem results_cell2 {fn : Func} {p q : Tmp} {t u : TypeId} (h : fn.results = #[.cell p t, .cell q u]) (tmps : Array Value) (P : Program) (w : World) {a b : Addr} {x y : Value}
    (hp : tmps.getD p undef = .pointer (some a)) (hq : tmps.getD q undef = .pointer (some b)) (ht : (isAgg t).run P w = .ok false w) (hu : (isAgg u).run P w = .ok false w)
    (hx : w.cell? a = some x) (hy : w.cell? b = some y) : (results fn tmps).run P w = .ok (.tuple #[x, y]) w := by
  have hp' : tmps[p]?.getD undef = .pointer (some a) := by simpa using hp
  have hq' : tmps[q]?.getD undef = .pointer (some b) := by simpa using hq
  simp [results, h, hp', hq', asAddr, loadVar, Sem.run_bind, ht, hu, hx, hy, Result.andThen]
set_option maxHeartbeats 2000000 in
theorem each_any (a0 a1 a2 a3 : Value) (l : List (List UInt8)) (w : World) (hl : l.length ≤ 70000)
    (EH : ∀ W, Qt w W → Calls Tryd.prog 31 #[a0, a1, a2, a3] W fun e w' => ∃ fv, e = .returned fv ∧ EachV w' fv l ∧ Qt W w') :
    Calls Tryd.prog 49 #[a0, a1, a2, a3] w fun e w' => ∃ v, e = .returned (.tuple #[v, .bool true]) ∧ NewT w w' v l := by
  refine (callsIn_wide (n := 5)).1 ?_
  obtain ⟨i0, hi, hz0, hz1, hz2⟩ := info_parts infoStrT
  refine callsIn_of_wp_marks Tryd.func49 rfl trivial ?_ rfl
  simp only [Tryd.ntmps49, List.size_toArray, List.length_cons, List.length_nil, Nat.reduceAdd, Nat.reduceSub, Array.replicate_succ, Array.replicate_zero, List.push_toArray, List.append_toArray, List.nil_append, List.cons_append]
  gi_wp2_with fail
  obtain ⟨wa, hwa⟩ : ∃ W, (w.alloc (.cells #[.slice none 0 0] 66)).alloc (.cells #[.bool false] 4) = W := ⟨_, rfl⟩
  have QA : Qt w wa := hwa ▸ ((Qt.refl w).alloc _).alloc _
  have b8 : Boxed wa w.heap.size 66 (.slice none 0 0) := hwa ▸ (Boxed.new w 66 (.slice none 0 0)).alloc _
  have b9 : Boxed wa (w.heap.size + 1) 4 (.bool false) := by
    have h := Boxed.new (w.alloc (.cells #[.slice none 0 0] 66)) 4 (.bool false)
    rw [World.size_alloc] at h
    exact hwa ▸ h
  have hsa : wa.heap.size = w.heap.size + 2 := by rw [← hwa]; simp
  rw [hwa]
  clear hwa
  refine ⟨trivial, (callsIn_wide.2 (EH wa QA)).mono ?_⟩
  rintro e w1 ⟨fv, rfl, ⟨gf, lb, rfl, hen, hseq⟩, q1⟩
  have Q1 := Qt.trans QA q1
  have hne : ∀ W, (binOp .eql 71 (.func (.func gf) #[] lb) .nilFunc).run Tryd.prog W = .ok (.bool false) W := func_nil gf lb
  gi_wp2_with fail
  have bB := Boxed.new w1 66 (.slice none 0 0)
  have hB1 : Below w1.heap.size w1 (w1.alloc (.cells #[.slice none 0 0] 66)) := (Below.refl _ w1).alloc (Nat.le_refl _) _
  obtain ⟨w2, hw2⟩ : ∃ W, w1.alloc (.cells #[.slice none 0 0] 66) = W := ⟨_, rfl⟩
  have hs2 : w2.heap.size = w1.heap.size + 1 := by rw [← hw2]; simp
  rw [hw2] at bB hB1 ⊢
  clear hw2
  have C89 := Lib.hid (fun (W : World) (hB : Below w1.heap.size w1 W) => (show Boxed W w.heap.size 66 (.slice none 0 0) ∧ Boxed W (w.heap.size + 1) 4 (.bool false) from
    ⟨boxed_qt b8 (Qt.trans q1 (Qt.of_below hB)), boxed_qt b9 (Qt.trans q1 (Qt.of_below hB))⟩))
  refine wpIn_rangeFunc_ownG rfl (by omega) (gf := gf) (lb := lb) rfl trivial hen
    (hseq 4 (by omega) w2 (Qt.of_below hB1)) belowK_t (belowK_b (by omega)) (Below.refl _ _) (fun _ => rfl)
    (fun pre W => (∃ v, Boxed W w1.heap.size 66 v ∧ W.ownsRow w1.heap.size 9 1 v (pre.map Prod.snd).length ((pre.map Prod.snd).map strV) ∧ pre = enumT (pre.map Prod.snd)) ∧ Below w1.heap.size w1 W)
    (fun _ q _ => ∃ (m : List (List UInt8)) (x : Nat × List UInt8), q = enumT m ++ [x] ∧ (x.1 ≠ m.length ∨ 70000 < m.length))
    (OwnFrom.and (Own.from (holdsRow_own w1.heap.size w1.heap.size 66 9 1 (fun pre => (pre.map Prod.snd).length) (fun pre => (pre.map Prod.snd).map strV) (fun pre _ => pre = enumT (pre.map Prod.snd))) _) (ownFrom_below (Nat.le_refl _) (by omega)))
    (fun _ _ _ _ _ hs _ _ => hs)
    ⟨⟨_, bB, World.ownsRow_nil _ _ _ _, rfl⟩, hB1⟩
    (fun x => { tmps := #[a0, a1, a2, a3, undef, undef, undef, undef, .pointer (some ⟨w.heap.size, 0, none⟩), .pointer (some ⟨w.heap.size + 1, 0, none⟩), .func (.func gf) #[] lb, .pointer (some ⟨w1.heap.size, 0, none⟩), .int .i64 (x.1 : Int), strV x.2, a0, a1, a2, a3, .func (.func gf) #[] lb, .func (.func gf) #[] lb, .bool false, .func (.func gf) #[] lb, .int .i64 (x.1 : Int), strV x.2, undef, undef, undef, undef, undef, undef, undef, undef, undef, undef, undef, undef, undef, undef], defers := [] }) ?assign ?body ?done ?stop
  case assign =>
    intro l x W K hK
    unfold encT
    gi_wp2
    exact hK
  case body =>
    rintro k pre x W ⟨⟨v, hv, hrow, hgood⟩, hB⟩ hlt
    have hc := hv.cell
    have hf := hv.frozen
    have hml : (pre.map Prod.snd).length = pre.length := List.length_map ..
    obtain ⟨va, vc, rfl⟩ : ∃ a c, v = .slice a (pre.map Prod.snd).length c := by
      rcases hrow.2 with ⟨e, h0⟩ | ⟨g, cap, cur, e, _⟩
      · exact ⟨none, 0, by rw [e, h0]⟩
      · exact ⟨_, _, e⟩
    rw [hml] at hc hv hrow
    have HG := Lib.hid hgood
    have HML := Lib.hid hml
    have HQ1 := Lib.hid q1
    have HSQ := Lib.hid Q1
    clear hgood hml hseq hen QA Q1 q1 b8 b9 hsa hs2 EH
    have hBz := hB.size
    obtain ⟨B8, B9⟩ := C89.out W hB
    have c8 := B8.cell
    have f8 := B8.frozen
    have B9' := boxed_other (x := .slice none 0 0) B9 (show w.heap.size + 1 ≠ w.heap.size by omega)
    have c9 := B9'.cell
    have f9 := B9'.frozen
    have c9W := B9.cell
    have f9W := B9.frozen
    have HBW := Lib.hid hB
    by_cases hx : x.1 = pre.length
    · by_cases h7 : 70000 < pre.length
      · have zx : ((x.1 : Int) != (pre.length : Int)) = false := by rw [bne_eq_false_iff_eq]; omega
        have z7 : decide (70000 < (pre.length : Int)) = true := decide_eq_true (by omega)
        have z7' : decide (70000 < pre.length) = true := decide_eq_true h7
        have HX := Lib.hid (show ∃ (m : List (List UInt8)) (y : Nat × List UInt8), pre ++ [x] = enumT m ++ [y] ∧ (y.1 ≠ m.length ∨ 70000 < m.length) from ⟨pre.map Prod.snd, x, by rw [← HG.out], .inr (by rw [HML.out]; exact h7)⟩)
        clear h7
        gi_wp2
        exact ⟨((KeepsOthers.setCell _ _ _).trans (KeepsOthers.setCell _ _ _)).from _, HX.out⟩
      · have zx : ((x.1 : Int) != (pre.length : Int)) = false := by rw [bne_eq_false_iff_eq]; omega
        have z7 : decide (70000 < (pre.length : Int)) = false := decide_eq_false (by omega)
        have z7' : decide (70000 < pre.length) = false := decide_eq_false h7
        have hb1 : pre.length + 1 ≤ maxLen := by unfold maxLen; omega
        have hb2 : (pre.length + 1) * 16 ≤ 140737488355328 := by omega
        have hb3 : ∀ sx : ByteArray, w1.heap.size ≤ (W.alloc (.cells #[.string sx] 9)).heap.size := by intro sx; simp; omega
        obtain ⟨sx, hsx⟩ : ∃ s : ByteArray, strV x.2 = .string s := ⟨_, rfl⟩
        have HSX := Lib.hid hsx
        rw [hsx]
        have H7 := Lib.hid h7
        have HXE := Lib.hid hx
        clear h7 hx
        clear hsx
        gi_wp2_with (gi_at_builtin; refine wpListIn_append_own _ rfl _ _ 66 rfl w1.heap.size 9 i0 (.string ⟨#[]⟩) 1 16 Tryd.underlying66 hi hz0 hz1 hz2 rfl (by decide) _ _ _ rfl (hrow.alloc _) ⟨W.heap.size, 0, none⟩ 1 1 [.string sx] rfl rfl (cell_one_new _ _ _) (by intro y hy; rw [List.mem_singleton.1 hy]; rfl) hb1 hb2 (hb3 sx) ?_; intro v' w3 hown' hgrow _; obtain ⟨g', cap', rfl⟩ := ownsRow_succ hown'; obtain ⟨hv1, hv2, hr2, hk2, hb2'⟩ := hv.appended (by decide) hrow hB.size (Nat.le_refl _) hown' hgrow; have hc1 := hv1.cell; have hf1 := hv1.frozen)
        have HGG := goodT_more HG.out (by rw [HXE.out, HML.out])
        have e : (pre ++ [x]).map Prod.snd = pre.map Prod.snd ++ [x.2] := by simp
        refine ⟨hk2.from _, hb2', ⟨_, hv2, ?_, HGG⟩, HBW.out.trans hb2'⟩
        rw [e, List.length_append, HML.out, List.map_append, List.map_singleton, HSX.out]
        exact hr2
    · have zx : ((x.1 : Int) != (pre.length : Int)) = true := by rw [bne_iff_ne]; omega
      have HX := Lib.hid (show ∃ (m : List (List UInt8)) (y : Nat × List UInt8), pre ++ [x] = enumT m ++ [y] ∧ (y.1 ≠ m.length ∨ 70000 < m.length) from ⟨pre.map Prod.snd, x, by rw [← HG.out], .inl (by rw [HML.out]; exact hx)⟩)
      clear hx
      gi_wp2
      exact ⟨((KeepsOthers.setCell _ _ _).trans (KeepsOthers.setCell _ _ _)).from _, HX.out⟩
  case done =>
    rintro D ys W hD rfl ⟨⟨v, hv, hrow, hgood⟩, hB⟩ hK
    rw [enumT_snd] at hrow
    obtain ⟨va, vc, rfl⟩ : ∃ a c, v = .slice a l.length c := by
      rcases hrow.2 with ⟨e, h0⟩ | ⟨g, cap, cur, e, _⟩
      · exact ⟨none, 0, by rw [e, h0]⟩
      · exact ⟨_, _, e⟩
    have hc := hv.cell
    have hf := hv.frozen
    obtain ⟨B8, B9⟩ := C89.out W hB
    have c8 := B8.cell
    have f8 := B8.frozen
    have N8 := boxed_set (x := .slice va l.length vc) B8
    have B9' := boxed_other (x := .slice va l.length vc) B9 (show w.heap.size + 1 ≠ w.heap.size by omega)
    have c9 := B9'.cell
    have f9 := B9'.frozen
    have N9 := boxed_set (x := .bool true) B9'
    have N8' := boxed_other (x := .bool true) N8 (show w.heap.size ≠ w.heap.size + 1 by omega)
    have d9 := N9.cell
    have d8 := N8'.cell
    clear hseq hen EH
    have hqs := q1.size
    have hBz := hB.size
    have k8 : D ≠ w.heap.size := by omega
    have k9 : D ≠ w.heap.size + 1 := by omega
    obtain ⟨W2, hW2⟩ : ∃ X, (W.setCell ⟨w.heap.size, 0, none⟩ (.slice va l.length vc)).setCell ⟨w.heap.size + 1, 0, none⟩ (.bool true) = X := ⟨_, rfl⟩
    have K2 : ∀ g, g ≠ w.heap.size → g ≠ w.heap.size + 1 → W2.heap[g]? = W.heap[g]? := fun g h8 h9 => by
      rw [← hW2, heap_setCell_other _ _ _ _ (by simpa using h9), heap_setCell_other _ _ _ _ (by simpa using h8)]
    have hK2 : W2.heap[D]? = some (.deferred (some [])) := (K2 D k8 k9).trans hK
    have P8 := boxed_put (o := .deferred none) (hW2 ▸ N8') k8
    have P9 := boxed_put (o := .deferred none) (hW2 ▸ N9) k9
    have row2 : W2.ownsRow 0 9 1 (.slice va l.length vc) l.length (l.map strV) := by
      rcases hrow with ⟨h1, h2⟩
      rcases h2 with h2 | ⟨g, cap, cs, e, hle, hh, rest⟩
      · exact ⟨h1, .inl h2⟩
      · exact ⟨h1, .inr ⟨g, cap, cs, e, Nat.zero_le _, (K2 g (by omega) (by omega)).trans hh, rest⟩⟩
    have row3 := ownsRow_putObj row2 (.deferred none) hK2 rfl
    have new3 : ∀ g, (Value.slice va l.length vc).ownBlock = some g → w.heap.size ≤ g := by
      intro g hg
      rcases hrow.2 with ⟨e, _⟩ | ⟨g', cap, cs, e, hle, _⟩
      · rw [e] at hg
        cases hg
      · rw [e] at hg
        injection hg with hg
        have hg : g' = g := hg
        omega
    have QW : Qt w W := Qt.trans Q1 (Qt.of_below hB)
    have Q2 : Qt w W2 := hW2 ▸ Keeps.setCell (Keeps.setCell QW (fun h => absurd h (by simp)) _) (fun h => absurd h (by simp)) _
    have Q3 : Qt w (W2.putObj D (.deferred none)) := Keeps.grown Q2 (grownBy_putObj' _ _ _) (fun k hk e => by injection e with e; omega)
    gi_wp2
    refine ⟨by simp, .inl ⟨_, _, rfl, run_takeDeferred hK2, ?_⟩⟩
    exact ⟨_, results_cell2 (p := 8) (q := 9) (by kernel_rfl) _ Tryd.prog _ rfl rfl (isAggT _) (isAggB _) P8.cell P9.cell, _, rfl, ⟨row3, new3, Q3⟩⟩
  case stop =>
    rintro D c pre W _ hpre ⟨m, x, rfl, hx⟩ _
    exfalso
    obtain ⟨e1, e2⟩ := enumT_begin hpre
    rcases hx with hx | hx
    · exact hx e1
    · omega
end Go.Proofs.YtggogaaooacooaaDoor
namespace Go.Proofs.YtggogaaooacooaaDoor
open Go.RowKit Go.Shelf
attribute [local go_sem] Oper.semAt_some
set_option maxRecDepth 100000

/-- What has come when k rounds are over. -/
def enumTo (l : List (List UInt8)) (k : Nat) : List (Nat × List UInt8) := (List.range k).map fun j => (j, l.getD j [])
theorem enumTo_succ (l : List (List UInt8)) (k : Nat) : enumTo l (k + 1) = enumTo l k ++ [(k, l.getD k [])] := by simp [enumTo, List.range_succ]
theorem enumTo_length (l : List (List UInt8)) (k : Nat) : (enumTo l k).length = k := by simp [enumTo]
theorem enumTo_prefix (l : List (List UInt8)) {k : Nat} (h : k ≤ l.length) : enumTo l k <+: enumT l := by
  refine ⟨((List.range l.length).drop k).map fun j => (j, l.getD j []), ?_⟩
  unfold enumTo enumT
  rw [← List.map_append]
  congr 1
  rw [← List.take_append_drop k (List.range l.length)]
  congr 1
  · rw [List.take_range, Nat.min_eq_left h]
  · rw [List.take_append_drop]

set_option maxHeartbeats 2000000 in
theorem jeach1_in (F : Fence) (n : Nat) (h8 : F.fn 58) (hro : F.round = none) (hn : 1 ≤ n) (l Bs n₀ b cap : Nat) (ts : List (List UInt8)) (hreach : ts.length ≤ 70000) (hb : b < n₀) (J Jx : List (Nat × List UInt8) → World → Prop)
    (hY : ∀ pre x W, J pre W → pre.length < ts.length → YieldAt F (n - 1) Tryd.prog l (encT x) W fun e W' =>
      (e = .returned (.bool true) ∧ J (pre ++ [x]) W' ∧ Below n₀ W W') ∨ (e = .returned (.bool false) ∧ Jx (pre ++ [x]) W'))
    (W : World) (hBs : W.cell? ⟨Bs, 0, none⟩ = some (.slice (some ⟨b, 0, none⟩) ts.length cap)) (hc : ∀ j, j < ts.length → W.cell? ⟨b, j, none⟩ = some (strV (ts.getD j []))) (h0 : J [] W) :
    CallsIn F n Tryd.prog 58 #[.func (.yield l) #[] #[], .pointer (some ⟨Bs, 0, none⟩)] W fun e W' => (∃ v, e = .returned v) ∧
      ((∃ ys, ys = enumTo ts ts.length ∧ J ys W') ∨ (∃ pre, (∃ k, k ≤ ts.length ∧ pre = enumTo ts k) ∧ Jx pre W')) := by
  refine callsIn_of_wp Tryd.func58 rfl h8 ?_ hro
  simp only [Tryd.ntmps58, List.size_toArray, List.length_cons, List.length_nil, Nat.reduceAdd, Nat.reduceSub, Array.replicate_succ, Array.replicate_zero, List.push_toArray, List.append_toArray, List.nil_append, List.cons_append]
  gi_wp2
  gi_loopw [7] (fun i wr => ∃ k : Nat, k ≤ ts.length ∧ i = .int .i64 k ∧ J (enumTo ts k) wr ∧ Below n₀ W wr)
    (fun i _ => ts.length - (intOf i).toNat)
  case atStart => exact ⟨0, Nat.zero_le _, rfl, h0, Below.refl _ _⟩
  case round =>
    obtain ⟨k, hk, rfl, hJs, hnx⟩ := hrel
    by_cases hlt : k < ts.length
    · have hcx : wr.cell? ⟨b, k, none⟩ = some (strV (ts.getD k [])) := (hnx.cell (p := ⟨b, k, none⟩) hb).trans (hc k hlt)
      obtain ⟨fn, tmps, assign, body, hy, hR⟩ := hY _ (k, ts.getD k []) wr hJs (by rw [enumTo_length]; exact hlt)
      unfold encT at hy
      dsimp only at hy
      have HX := Lib.hid (enumTo_succ ts k)
      generalize ts.getD k [] = t at *
      obtain ⟨s, hs⟩ : ∃ s : ByteArray, strV t = .string s := ⟨_, rfl⟩
      rw [hs] at hcx hy
      gi_wp2
      refine hR.mono ?_
      rintro e W3 (⟨rfl, hJ3, hk3⟩ | ⟨rfl, hJx3⟩)
      · gi_wp2
        go_roundw
        case rel => exact ⟨k + 1, by omega, by simp, by rw [HX.out]; exact hJ3, hnx.trans hk3⟩
        case measure => simp [intOf]; omega
      · gi_wp2
        refine bodyPost_ret (results_none rfl _ _ _) rfl ?_
        exact ⟨⟨_, rfl⟩, .inr ⟨_, ⟨k + 1, by omega, HX.out.symm⟩, hJx3⟩⟩
    · obtain rfl : k = ts.length := by omega
      gi_wp2
      go_end0
      exact ⟨⟨_, rfl⟩, .inl ⟨_, rfl, hJs⟩⟩
set_option maxHeartbeats 1000000 in
theorem jeach0_in (F : Fence) (n : Nat) (h8 : F.fn 58) (hro : F.round = none) (l Bs : Nat) (J : List (Nat × List UInt8) → World → Prop) (W : World) (hBs : W.cell? ⟨Bs, 0, none⟩ = some (.slice none 0 0)) (h0 : J [] W) :
    CallsIn F n Tryd.prog 58 #[.func (.yield l) #[] #[], .pointer (some ⟨Bs, 0, none⟩)] W fun e W' => (∃ v, e = .returned v) ∧ J [] W' := by
  refine callsIn_of_wp Tryd.func58 rfl h8 ?_ hro
  simp only [Tryd.ntmps58, List.size_toArray, List.length_cons, List.length_nil, Nat.reduceAdd, Nat.reduceSub, Array.replicate_succ, Array.replicate_zero, List.push_toArray, List.append_toArray, List.nil_append, List.cons_append]
  gi_wp2
  gi_loopw [7] (fun i wr => i = .int .i64 0 ∧ J [] wr) (fun _ _ => 0)
  case atStart => exact ⟨rfl, h0⟩
  case round =>
    obtain ⟨rfl, hJs⟩ := hrel
    gi_wp2
    go_end0
    exact ⟨⟨_, rfl⟩, hJs⟩

/-- The closure over a box that holds these texts goes over just them. -/
theorem jeach_stops {w0 w : World} {v : Value} {ts : List (List UInt8)} {Bs : Nat} (hN : NewT w0 w v ts) (hl : ts.length ≤ 70000) (hBs : w.cell? ⟨Bs, 0, none⟩ = some v) : EachV w (.func (.func 58) #[] #[.pointer (some ⟨Bs, 0, none⟩)]) ts := by
  have hB := World.block_lt_of_cell? w _ hBs
  refine ⟨58, _, rfl, fun args W => enters_of Tryd.func58 (by kernel_rfl) rfl args W, fun n hn W q => ?_⟩
  intro l J Jx W2 hW _ _ hY h0
  have hz := q.size
  have hc' : W2.cell? ⟨Bs, 0, none⟩ = some v := (hW.cell (p := ⟨Bs, 0, none⟩) (by simp only at hB ⊢; omega)).trans (q.cellv hBs)
  by_cases hne : ts = []
  · subst hne
    rcases hN.own.2 with ⟨e, _⟩ | ⟨g, cap, cur, e, _⟩
    · rw [e] at hc'
      exact (jeach0_in Fence.wide n trivial rfl l Bs J W2 hc' h0).mono fun e W' ⟨he, hj⟩ => ⟨he, .inl ⟨_, rfl, hj⟩⟩
    · rw [e] at hc'
      refine (jeach1_in Fence.wide n trivial rfl hn l Bs w.heap.size g cap [] hl ?_ J Jx hY W2 hc' (fun j hj => by simp at hj) h0).mono ?_
      · exact (ownsRow_lt hN.own (by rw [e]; rfl))
      · rintro e W' ⟨he, ⟨ys, rfl, hj⟩ | ⟨pre, ⟨k, hk, rfl⟩, hj⟩⟩
        · exact ⟨he, .inl ⟨_, rfl, hj⟩⟩
        · exact ⟨he, .inr ⟨_, enumTo_prefix [] hk, hj⟩⟩
  · obtain ⟨a, c, e⟩ := hN.shape
    subst e
    have hpos : 0 < ts.length := List.length_pos_iff.2 hne
    obtain ⟨g, rfl, _⟩ := newT_cell hN (show ts[0]? = some (ts.getD 0 []) by simp [List.getD, List.getElem?_eq_getElem hpos])
    have hg := ownsRow_lt hN.own (k := g) rfl
    refine (jeach1_in Fence.wide n trivial rfl hn l Bs w.heap.size g c ts hl hg J Jx hY W2 hc' (fun j hj => ?_) h0).mono ?_
    · obtain ⟨g', e, hcell⟩ := newT_cell hN (show ts[j]? = some (ts.getD j []) by simp [List.getD, List.getElem?_eq_getElem hj])
      injection e with e
      injection e with e
      subst e
      exact (hW.cell (p := ⟨g, j, none⟩) (by simp only; omega)).trans (q.cellv hcell)
    · rintro e W' ⟨he, ⟨ys, rfl, hj⟩ | ⟨pre, ⟨k, hk, rfl⟩, hj⟩⟩
      · exact ⟨he, .inl ⟨_, rfl, hj⟩⟩
      · exact ⟨he, .inr ⟨_, enumTo_prefix ts hk, hj⟩⟩
end Go.Proofs.YtggogaaooacooaaDoor
