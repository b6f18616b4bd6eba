/-
  What Between's two loops collect.
  The landed batch: Between.
-/
import Derived.Test.YtffjleceogablaaDoorP12
import Derived.Test.YtffjleceogablaaDoorP13
import Derived.Test.YtffjleceogablaaDoorP42
import Derived.RangeFuncCalls
import Derived.RangeFuncFrom
namespace Go.Proofs.YtffjleceogablaaDoor
open Go.Proofs.YtffjleceogablaaDoor.Tb
set_option maxRecDepth 100000
namespace Bt
/-- The deletes of the first loop. -/
def bwD (b l : List R) : List O := l.filterMap fun r => if (get b r.1).isSome then none else some ⟨true, r.1, []⟩
/-- The puts of the second one. -/
def bwP (a l : List R) : List O := l.filterMap fun r => if get a r.1 = some r.2 then none else some ⟨false, r.1, r.2⟩
theorem bwD_snoc (b l : List R) (r : R) : bwD b (l ++ [r]) = bwD b l ++ (if (get b r.1).isSome then [] else [⟨true, r.1, []⟩]) := by
  unfold bwD
  rw [List.filterMap_append]
  congr 1
  simp only [List.filterMap_cons, List.filterMap_nil]
  split <;> simp_all
theorem bwP_snoc (a l : List R) (r : R) : bwP a (l ++ [r]) = bwP a l ++ (if get a r.1 = some r.2 then [] else [⟨false, r.1, r.2⟩]) := by
  unfold bwP
  rw [List.filterMap_append]
  congr 1
  simp only [List.filterMap_cons, List.filterMap_nil]
  split <;> simp_all
theorem bwD_length (b l : List R) : (bwD b l).length ≤ l.length := List.length_filterMap_le _ _
theorem bwP_length (a l : List R) : (bwP a l).length ≤ l.length := List.length_filterMap_le _ _
theorem mem_bwD {b l : List R} {o : O} : o ∈ bwD b l ↔ o.del = true ∧ o.val = [] ∧ (∃ v, (o.key, v) ∈ l) ∧ get b o.key = none := by
  unfold bwD
  rw [List.mem_filterMap]
  constructor
  · rintro ⟨r, hr, h⟩
    split at h
    · cases h
    · rename_i hn
      injection h with h
      subst h
      refine ⟨rfl, rfl, ⟨r.2, hr⟩, ?_⟩
      cases hg : get b r.1 with
      | none => rfl
      | some v => rw [hg] at hn; exact absurd rfl hn
  · rintro ⟨h1, h2, ⟨v, hv⟩, h3⟩
    refine ⟨(o.key, v), hv, ?_⟩
    rw [if_neg (by rw [h3]; decide)]
    obtain ⟨d, k, w⟩ := o
    simp only at h1 h2
    subst h1 h2
    rfl
theorem mem_bwP {a l : List R} {o : O} : o ∈ bwP a l ↔ o.del = false ∧ (o.key, o.val) ∈ l ∧ get a o.key ≠ some o.val := by
  unfold bwP
  rw [List.mem_filterMap]
  constructor
  · rintro ⟨r, hr, h⟩
    split at h
    · cases h
    · rename_i hn
      injection h with h
      subst h
      exact ⟨rfl, hr, hn⟩
  · rintro ⟨h1, h2, h3⟩
    refine ⟨(o.key, o.val), h2, ?_⟩
    rw [if_neg h3]
    obtain ⟨d, k, w⟩ := o
    simp only at h1
    subst h1
    rfl
theorem filterMap_apart {f : R → Option O} (hf : ∀ r o, f r = some o → o.key = r.1) : ∀ {l : List R}, Sorted l → Apart (l.filterMap f)
  | [], _ => List.Pairwise.nil
  | x :: l, h => by
    obtain ⟨h1, h2⟩ := List.pairwise_cons.1 h
    have ih := filterMap_apart hf h2
    rw [List.filterMap_cons]
    cases hx : f x with
    | none => exact ih
    | some o =>
      refine List.pairwise_cons.2 ⟨fun p hp => ?_, ih⟩
      obtain ⟨r, hr, hfr⟩ := List.mem_filterMap.1 hp
      rw [hf x o hx, hf r p hfr]
      exact lt_ne (h1 r hr)
theorem between_is {a b : List R} (ha : Sorted a) (hb : Sorted b) : Apart (bwD b a ++ bwP a b) ∧ ∀ o, o ∈ bwD b a ++ bwP a b ↔ o ∈ between a b := by
  constructor
  · refine List.pairwise_append.2 ⟨filterMap_apart (fun r o h => ?_) ha, filterMap_apart (fun r o h => ?_) hb, fun x hx y hy e => ?_⟩
    · split at h
      · cases h
      · injection h with h; rw [← h]
    · split at h
      · cases h
      · injection h with h; rw [← h]
    · have h1 := (mem_bwD.1 hx).2.2.2
      have h2 := (mem_bwP.1 hy).2.1
      rw [e, (get_some hb).2 h2] at h1
      cases h1
  · intro o
    rw [between_mem a b ha hb, List.mem_append, mem_bwD, mem_bwP]
    unfold Lies
    constructor
    · rintro (⟨h1, h2, h3, h4⟩ | ⟨h1, h2, h3⟩)
      · exact .inl ⟨h1, h2, h3, fun y hy e => by
          have h5 := (get_some hb (k := y.1) (v := y.2)).2 hy
          rw [e, h4] at h5
          cases h5⟩
      · exact .inr ⟨h1, h2, fun h4 => h3 ((get_some ha).2 h4)⟩
    · rintro (⟨h1, h2, h3, h4⟩ | ⟨h1, h2, h3⟩)
      · refine .inl ⟨h1, h2, h3, ?_⟩
        cases hg : get b o.key with
        | none => rfl
        | some v => exact absurd rfl (h4 _ ((get_some hb).1 hg))
      · exact .inr ⟨h1, h2, fun h4 => h3 ((get_some ha).1 h4)⟩
end Bt
end Go.Proofs.YtffjleceogablaaDoor
namespace Go.Proofs.YtffjleceogablaaDoor
open Go.RowKit Go.Shelf Go.WideShapes
attribute [local go_sem] Oper.semAt_some
set_option maxRecDepth 100000

theorem ownB_shape {W : World} {base n : Nat} {E : TypeId} {v : Value} {m : Nat} {xs : List Value} (h : W.ownsRow base E n v m xs) : ∃ a c, v = .slice a m c := by
  rcases h.2 with ⟨e, h0⟩ | ⟨g, cap, cur, e, _⟩
  · exact ⟨none, 0, by rw [e, h0]⟩
  · exact ⟨_, _, e⟩
theorem ownFrom_block12 {β : Type} {B D : Nat} {x : Option Obj} (h : D < B) (hx : x.isSome) : OwnFrom B (fun (_ : β) (W : World) => W.heap[D]? = x) := by
  intro s W W' row hs hg hr
  obtain ⟨o, rfl⟩ := Option.isSome_iff_exists.1 hx
  exact (hg.block D (lt_of_block hs) (fun e => by have := (hr D e.symm).1; omega)).trans hs
set_option maxHeartbeats 8000000 in
theorem between12_any {ba bb : Nat} {la lb : List Tb.R} {Aa Ab : Nat → Prop} (w : World) (ha : Tbl w ba la Aa) (hb : Tbl w bb lb Ab) (hlen : (la.length + lb.length) * 40 ≤ 140737488355328) :
    Calls Tryd.prog 27 #[ptrV ba, ptrV bb] w fun e w' => ∃ v, e = .returned v ∧ NewO w w' v (Bt.between la lb) := by
  refine (callsIn_wide (n := 5)).1 ?_
  obtain ⟨i0, hi, hz0, hz1, hz2⟩ := info_parts infoOp12
  have HA := Lib.hid ha
  have HB := Lib.hid hb
  have HL := Lib.hid hlen
  clear ha hb hlen
  refine callsIn_of_wp_marks Tryd.func27 rfl trivial ?_ rfl
  simp only [Tryd.ntmps27, List.size_toArray, List.length_cons, List.length_nil, Nat.reduceAdd, Nat.reduceSub, Array.replicate_succ, Array.replicate_zero, List.push_toArray, List.append_toArray, List.nil_append, List.cons_append]
  refine wpIn_wide.2 ?_
  go_wp2_with fail
  obtain ⟨W0, hW0⟩ : ∃ W, (((w.alloc (.cells #[ptrV ba] 46)).alloc (.cells #[ptrV bb] 46)).alloc (.cells #[.slice none 0 0] 22)) = W := ⟨_, rfl⟩
  have Q0 : Qt w W0 := hW0 ▸ (((Qt.refl w).alloc _).alloc _).alloc _
  have hs0 : W0.heap.size = w.heap.size + 3 := by rw [← hW0]; simp
  have c2 : Boxed W0 w.heap.size 46 (ptrV ba) := hW0 ▸ ((Boxed.new w 46 (ptrV ba)).alloc _).alloc _
  have c3 : Boxed W0 (w.heap.size + 1) 46 (ptrV bb) := by
    have h := Boxed.new (w.alloc (.cells #[ptrV ba] 46)) 46 (ptrV bb)
    rw [World.size_alloc] at h
    exact hW0 ▸ h.alloc _
  have b5 : Boxed W0 (w.heap.size + 2) 22 (.slice none 0 0) := by
    have h := Boxed.new ((w.alloc (.cells #[ptrV ba] 46)).alloc (.cells #[ptrV bb] 46)) 22 (.slice none 0 0)
    rw [World.size_alloc, World.size_alloc] at h
    exact hW0 ▸ h
  rw [hW0, show w.heap.size + 1 + 1 = w.heap.size + 2 from rfl]
  clear hW0
  have F1 := from11_any (HA.out.qt Q0) ⟨#[]⟩
  rw [show Tb.fromL la (⟨#[]⟩ : ByteArray).data.toList = la from Tb.from_nil la] at F1
  refine F1.mono ?_
  rintro e w2 ⟨fv, X, rfl, ⟨hX, gf, lbd, rfl, hen, hseq⟩, hXA, q2⟩
  have hz2' := q2.size
  have b5 := boxR_qt b5 q2
  have c2 := boxR_qt c2 q2
  have c3 := boxR_qt c3 q2
  have Q2 := Qt.trans Q0 q2
  have hlt := HA.out.lt
  have HOW : ∀ k, BoxOw (w.heap.size + 2) w2 k → k < w2.heap.size ∧ ¬ X k := by
    rintro k (e | ⟨u, hu, e⟩)
    · refine ⟨by omega, fun hx => ?_⟩
      rcases (hXA k hx).1 with h | h
      · have := hlt k h; omega
      · omega
    · rw [b5.cell] at hu
      injection hu with hu
      subst hu
      cases e
  have QT2 := Lib.hid Q2
  have BX2 := Lib.hid (And.intro c2 c3)
  clear F1 hXA hlt Q0 q2 c2 c3
  go_wp2_with fail
  refine (wpIn_wide (n := 5)).1 ?_
  refine' wpIn_rangeFunc_ownG rfl (by omega) (gf := gf) (lb := lbd) rfl trivial hen (hseq 4 (by omega) w2 (Keeps.refl _ _) w2.heap.size _ (boxOw (B := w.heap.size + 2) (by omega)) (Nat.le_refl _) HOW) KpO.trans (KpO.put (boxOw (by omega))) (Below.refl _ _) (fun _ => rfl)
    (fun pre W => (∃ v, Boxed W (w.heap.size + 2) 22 v ∧ W.ownsRow (w.heap.size + 2) 29 3 v (Bt.bwD lb pre).length (opsC (Bt.bwD lb pre)) ∧ True) ∧ Below (w.heap.size + 2) w2 W)
    (fun _ _ _ => False)
    (OwnFrom.and (Own.from (holdsRow_own (w.heap.size + 2) (w.heap.size + 2) 22 29 3 (fun pre => (Bt.bwD lb pre).length) (fun pre => opsC (Bt.bwD lb pre)) (fun _ _ => True)) _) (ownFrom_below (by omega) (by omega)))
    (fun _ _ _ _ _ hs _ _ => hs)
    ⟨⟨_, b5, ⟨rfl, .inl ⟨rfl, rfl⟩⟩, trivial⟩, Below.refl _ _⟩ _ ?assign ?body ?done ?stop
  case assign =>
    intro l x W K hK
    unfold encR
    gi_wp2
    exact hK
  case body =>
    rintro L pre x W ⟨⟨v, hv, hrow, _⟩, hB⟩ hlt
    have QW : Qt w W := ⟨hB.os.trans QT2.out.os, hB.tape.trans QT2.out.tape, hB.output.trans QT2.out.output, Nat.le_trans QT2.out.size hB.size, fun k hk e => (hB.block k (by omega)).trans (QT2.out.block k hk e)⟩
    obtain ⟨K, hK, hKl⟩ : ∃ K : ByteArray, strV x.1 = .string K ∧ K.data.toList = x.1 := ⟨⟨x.1.toArray⟩, rfl, rfl⟩
    obtain ⟨V, hV⟩ : ∃ V : ByteArray, strV x.2 = .string V := ⟨_, rfl⟩
    have GT := get11_any (HB.out.qt QW) K
    rw [hKl] at GT
    unfold GotV at GT
    obtain ⟨G, hG⟩ : ∃ G : ByteArray, strV ((Tb.get lb x.1).getD []) = .string G := ⟨_, rfl⟩
    rw [hG] at GT
    have cB : W.cell? ⟨w.heap.size + 1, 0, none⟩ = some (ptrV bb) := (show Boxed W (w.heap.size + 1) 46 (ptrV bb) from (hB.block _ (by omega)).trans BX2.out.2).cell
    have hc := hv.cell
    have hf := hv.frozen
    have HBl := Lib.hid hB
    have HV := Lib.hid hv
    have HROW := Lib.hid hrow
    have HKV := Lib.hid hK
    have hps : (Bt.bwD lb pre).length ≤ pre.length := Bt.bwD_length lb pre
    have hla : pre.length < la.length := hlt
    have hLN := HL.out
    rw [hK, hV]
    cases hg : Tb.get lb x.1 with
    | some u =>
      rw [hg] at GT
      have FN := Lib.hid (show Bt.bwD lb (pre ++ [x]) = Bt.bwD lb pre by rw [Bt.bwD_snoc, hg]; simp)
      clear hseq hen HOW hX b5 hg hK hV hKl hG hrow hv hB
      gi_wp2_with fail
      refine ⟨trivial, (CallsIn.inRound L (callsIn_wide.2 GT)).mono ?_⟩
      rintro e w' ⟨rfl, rfl⟩
      gi_wp2
      refine ⟨KeepsFrom.refl _ _, KpO.refl _, ⟨v, HV.out, ?_, trivial⟩, HBl.out⟩
      rw [FN.out]
      exact HROW.out
    | none =>
      rw [hg] at GT
      have HX := Lib.hid (show opsC (Bt.bwD lb (pre ++ [x])) = opsC (Bt.bwD lb pre) ++ [.bool true, .string K, .string ⟨#[]⟩] ∧ (Bt.bwD lb (pre ++ [x])).length = (Bt.bwD lb pre).length + 1 by
        rw [Bt.bwD_snoc, hg]
        refine ⟨?_, by simp⟩
        rw [show (if (none : Option Tb.Txt).isSome = true then ([] : List Bt.O) else [⟨true, x.1, []⟩]) = [⟨true, x.1, []⟩] from rfl, opsC_append, opsC_one, hK]
        rfl)
      obtain ⟨va, vc, rfl⟩ := ownB_shape hrow
      have hb1 : (Bt.bwD lb pre).length + 1 ≤ maxLen := by unfold maxLen; omega
      have hb2 : ((Bt.bwD lb pre).length + 1) * 40 ≤ 140737488355328 := by omega
      have hBz := hB.size
      have hb3 : ∀ o : Obj, w.heap.size + 2 ≤ (W.alloc o).heap.size := by intro o; simp; omega
      clear hseq hen HOW hX b5 hg hK hV hKl hG
      gi_wp2_with fail
      refine ⟨trivial, (CallsIn.inRound L (callsIn_wide.2 GT)).mono ?_⟩
      rintro e w' ⟨rfl, rfl⟩
      gi_wp2_with (gi_at_builtin; refine wpListIn_append_own_at _ rfl _ _ 22 rfl (w.heap.size + 2) 29 i0 (.agg #[.bool false, .string ⟨#[]⟩, .string ⟨#[]⟩]) 3 40 Tryd.underlying22 hi hz0 hz1 hz2 rfl (by decide) _ _ _ rfl (hrow.alloc _) ⟨w'.heap.size, 0, none⟩ 1 1 [.bool true, .string K, .string ⟨#[]⟩] rfl rfl (newsG _ _ _) (by intro y hy; simp at hy; rcases hy with rfl | rfl | rfl <;> rfl) hb1 hb2 (hb3 _) ?_; intro v' w3 hown' hgrow _ hnew; obtain ⟨g', cap', rfl⟩ := ownsRow_succ hown'; obtain ⟨hv1, hv2, hr2, hk2, hb2'⟩ := hv.appended (by decide) hrow (by omega) (by omega) hown' hgrow; have hc1 := hv1.cell; have hf1 := hv1.frozen)
      refine ⟨hk2.from _, boxOw_step HV.out hv2 (Keeps.setCell (Keeps.grown ((Keeps.refl _ _).alloc _) hgrow (fun k _ e => .inr e.symm)) (fun _ => .inl rfl) _) (fun x hx => ?_), ⟨_, hv2, ?_, trivial⟩, HBl.out.trans hb2'⟩
      · have hx2 := hown'.lt x hx
        rcases hnew with e | e
        · exact .inl (e ▸ hx)
        · rw [e] at hx
          injection hx with hx
          subst hx
          exact .inr ⟨by simp, by rw [World.size_setCell]; exact hx2.2⟩
      rw [HX.out.1, HX.out.2]
      exact hr2
  case done =>
    rintro D ys W hD hys ⟨⟨v, hv, hrow, _⟩, hB⟩ hK
    have hys2 := hys.symm
    subst hys2
    clear hys
    have QW : Qt w W := ⟨hB.os.trans QT2.out.os, hB.tape.trans QT2.out.tape, hB.output.trans QT2.out.output, Nat.le_trans QT2.out.size hB.size, fun k hk e => (hB.block k (by omega)).trans (QT2.out.block k hk e)⟩
    have F2 := from11_any (HB.out.qt QW) ⟨#[]⟩
    rw [show Tb.fromL lb (⟨#[]⟩ : ByteArray).data.toList = lb from Tb.from_nil lb] at F2
    have cA := (show Boxed W w.heap.size 46 (ptrV ba) from (hB.block _ (by omega)).trans BX2.out.1)
    have cB := (show Boxed W (w.heap.size + 1) 46 (ptrV bb) from (hB.block _ (by omega)).trans BX2.out.2)
    have hcb := cB.cell
    have hBz := hB.size
    clear hseq hen hX HOW b5
    go_wp2_with fail
    refine F2.mono ?_
    rintro e w4 ⟨fv2, X2, rfl, ⟨hX2, gf2, lbd2, rfl, hen2, hseq2⟩, hXA2, q4⟩
    have hz4 := q4.size
    have b5 := boxR_qt hv q4
    have r5 := ownsRow_kept hrow q4 (fun _ _ e => e)
    have Q4 := Lib.hid (Qt.trans QW q4)
    have BX4 := Lib.hid (boxR_qt cA q4)
    have hD4 : w4.heap[D]? = some (.deferred (some [])) := (q4.block D (lt_of_block hK) (fun e => e)).trans hK
    have HD4 := Lib.hid hD4
    have HDL := Lib.hid (show D < w4.heap.size from lt_of_block hD4)
    have HDG := Lib.hid (show w.heap.size + 2 ≤ D ∧ D ≠ w.heap.size + 2 from ⟨by omega, by omega⟩)
    have hlt2 := HB.out.lt
    have HOW : ∀ k, BoxOw (w.heap.size + 2) w4 k → k < w4.heap.size ∧ ¬ X2 k := by
      have hne : ∀ k, w.heap.size + 2 ≤ k → k < W.heap.size → ¬ X2 k := fun k h1 h2 hx => by
        rcases (hXA2 k hx).1 with h | h
        · have := hlt2 k h; omega
        · omega
      rintro k (e | ⟨u, hu, e⟩)
      · exact ⟨by omega, hne k (by omega) (by omega)⟩
      · rw [b5.cell] at hu
        injection hu with hu
        subst hu
        have h1 := hrow.lt k e
        exact ⟨by omega, hne k h1.1 h1.2⟩
    clear F2 hXA2 hlt2 QW cA cB hcb hrow hv hB hK hD4 q4
    go_wp2_with fail
    refine (wpIn_wide (n := 5)).1 ?_
    refine' wpIn_rangeFunc_ownG rfl (by omega) (gf := gf2) (lb := lbd2) rfl trivial hen2 (hseq2 4 (by omega) w4 (Keeps.refl _ _) w4.heap.size _ (boxOw (B := w.heap.size + 2) (by omega)) (Nat.le_refl _) HOW) KpO.trans (KpO.put (boxOw (by omega))) (Below.refl _ _) (fun _ => rfl)
      (fun pre W => ((∃ v, Boxed W (w.heap.size + 2) 22 v ∧ W.ownsRow (w.heap.size + 2) 29 3 v (Bt.bwD lb la ++ Bt.bwP la pre).length (opsC (Bt.bwD lb la ++ Bt.bwP la pre)) ∧ True) ∧ Below (w.heap.size + 2) w4 W) ∧ W.heap[D]? = some (.deferred (some [])))
      (fun _ _ _ => False)
      (OwnFrom.and (OwnFrom.and (Own.from (holdsRow_own (w.heap.size + 2) (w.heap.size + 2) 22 29 3 (fun pre => (Bt.bwD lb la ++ Bt.bwP la pre).length) (fun pre => opsC (Bt.bwD lb la ++ Bt.bwP la pre)) (fun _ _ => True)) _) (ownFrom_below (by omega) (by omega))) (ownFrom_block12 HDL.out rfl))
      (fun _ _ _ _ _ hs _ _ => hs)
      ⟨⟨⟨_, b5, by simpa [Bt.bwP] using r5, trivial⟩, Below.refl _ _⟩, HD4.out⟩ _ ?assign2 ?body2 ?done2 ?stop2
    case assign2 =>
      intro l x W K hK
      unfold encR
      gi_wp2
      exact hK
    case body2 =>
      rintro L pre x W ⟨⟨⟨v, hv, hrow, _⟩, hB⟩, hDD⟩ hlt
      generalize hzs : Bt.bwD lb la ++ Bt.bwP la pre = zs at hrow
      have QW : Qt w W := ⟨hB.os.trans Q4.out.os, hB.tape.trans Q4.out.tape, hB.output.trans Q4.out.output, Nat.le_trans Q4.out.size hB.size, fun k hk e => (hB.block k (by omega)).trans (Q4.out.block k hk e)⟩
      obtain ⟨K, hK, hKl⟩ : ∃ K : ByteArray, strV x.1 = .string K ∧ K.data.toList = x.1 := ⟨⟨x.1.toArray⟩, rfl, rfl⟩
      obtain ⟨V, hV, hVl⟩ : ∃ V : ByteArray, strV x.2 = .string V ∧ V.data.toList = x.2 := ⟨⟨x.2.toArray⟩, rfl, rfl⟩
      have GT := get11_any (HA.out.qt QW) K
      rw [hKl] at GT
      unfold GotV at GT
      obtain ⟨G, hG, hGl⟩ : ∃ G : ByteArray, strV ((Tb.get la x.1).getD []) = .string G ∧ G.data.toList = (Tb.get la x.1).getD [] := ⟨⟨((Tb.get la x.1).getD []).toArray⟩, rfl, rfl⟩
      rw [hG] at GT
      have cB : W.cell? ⟨w.heap.size, 0, none⟩ = some (ptrV ba) := (show Boxed W w.heap.size 46 (ptrV ba) from (hB.block _ (by omega)).trans BX4.out).cell
      have hc := hv.cell
      have hf := hv.frozen
      have HBl := Lib.hid hB
      have HV := Lib.hid hv
      have HROW := Lib.hid hrow
      have HDD := Lib.hid hDD
      have hps : zs.length ≤ la.length + pre.length := by
        rw [← hzs, List.length_append]
        have h1 := Bt.bwD_length lb la
        have h2 := Bt.bwP_length la pre
        omega
      have hlb : pre.length < lb.length := hlt
      have hLN := HL.out
      rw [hK, hV]
      by_cases hsame : Tb.get la x.1 = some x.2
      · rw [hsame] at GT
        have FN := Lib.hid (show Bt.bwD lb la ++ Bt.bwP la (pre ++ [x]) = zs by rw [Bt.bwP_snoc, if_pos hsame, List.append_nil, hzs])
        have hGV : G = V := by
          have h1 : G.data.toList = V.data.toList := by rw [hGl, hsame, hVl]; rfl
          obtain ⟨⟨G⟩⟩ := G
          obtain ⟨⟨V⟩⟩ := V
          simp only at h1
          subst h1
          rfl
        subst hGV
        clear hzs hseq2 hen2 HOW hX2 b5 r5 hsame hK hV hKl hG hGl hVl hrow hv hB hDD
        gi_wp2_with fail
        refine ⟨trivial, (CallsIn.inRound L (callsIn_wide.2 GT)).mono ?_⟩
        rintro e w' ⟨rfl, rfl⟩
        gi_wp2
        refine ⟨KeepsFrom.refl _ _, KpO.refl _, ⟨⟨v, HV.out, ?_, trivial⟩, HBl.out⟩, HDD.out⟩
        rw [FN.out]
        exact HROW.out
      · have HX := Lib.hid (show opsC (Bt.bwD lb la ++ Bt.bwP la (pre ++ [x])) = opsC zs ++ [.bool false, .string K, .string V] ∧ (Bt.bwD lb la ++ Bt.bwP la (pre ++ [x])).length = zs.length + 1 by
          rw [Bt.bwP_snoc, if_neg hsame, ← List.append_assoc, hzs]
          refine ⟨?_, by simp⟩
          rw [opsC_append _ [_], opsC_one, hK, hV])
        obtain ⟨va, vc, rfl⟩ := ownB_shape hrow
        have hb1 : zs.length + 1 ≤ maxLen := by unfold maxLen; omega
        have hb2 : (zs.length + 1) * 40 ≤ 140737488355328 := by omega
        have hBz := hB.size
        have hb3 : ∀ o : Obj, w.heap.size + 2 ≤ (W.alloc o).heap.size := by intro o; simp; omega
        have HNE := Lib.hid (show D ≠ w.heap.size + 2 ∧ (Value.slice va zs.length vc).ownBlock ≠ some D from ⟨HDG.out.2, fun e => by
          rcases hrow.2 with ⟨e2, _⟩ | ⟨g', cap, cs, e2, _, hh, _⟩
          · rw [e2] at e; cases e
          · rw [e2] at e
            have e3 : g' = D := Option.some.inj e
            subst e3
            rw [hDD] at hh
            cases hh⟩)
        have hcase : (Tb.get la x.1).isSome = false ∨ ((Tb.get la x.1).isSome = true ∧ (G.toList == V.toList) = false) := by
          cases hg : Tb.get la x.1 with
          | none => exact .inl rfl
          | some u =>
            refine .inr ⟨rfl, beq_eq_false_iff_ne.2 (fun e => hsame ?_)⟩
            rw [ByteArray.toList_eq, ByteArray.toList_eq, hGl, hVl, hg] at e
            rw [hg, ← e]
            rfl
        clear hzs hseq2 hen2 HOW hX2 b5 r5 hsame hK hV hKl hG hGl hVl hDD
        rcases hcase with hcase | ⟨hcase, hne⟩
        all_goals
          rw [hcase] at GT
          gi_wp2_with fail
          refine ⟨trivial, (CallsIn.inRound L (callsIn_wide.2 GT)).mono ?_⟩
          rintro e w' ⟨rfl, rfl⟩
          gi_wp2_with (gi_at_builtin; refine wpListIn_append_own_at _ rfl _ _ 22 rfl (w.heap.size + 2) 29 i0 (.agg #[.bool false, .string ⟨#[]⟩, .string ⟨#[]⟩]) 3 40 Tryd.underlying22 hi hz0 hz1 hz2 rfl (by decide) _ _ _ rfl (hrow.alloc _) ⟨w'.heap.size, 0, none⟩ 1 1 [.bool false, .string K, .string V] rfl rfl (newsG _ _ _) (by intro y hy; simp at hy; rcases hy with rfl | rfl | rfl <;> rfl) hb1 hb2 (hb3 _) ?_; intro v' w3 hown' hgrow _ hnew; obtain ⟨g', cap', rfl⟩ := ownsRow_succ hown'; obtain ⟨hv1, hv2, hr2, hk2, hb2'⟩ := hv.appended (by decide) hrow (by omega) (by omega) hown' hgrow; have hc1 := hv1.cell; have hf1 := hv1.frozen)
          have KK := Lib.hid (Keeps.setCell (S := fun k => k = w.heap.size + 2 ∨ (Value.slice va zs.length vc).ownBlock = some k) (p := ⟨w.heap.size + 2, 0, none⟩) (Keeps.grown ((Keeps.refl _ _).alloc (.cells #[.bool false, .string K, .string V] 29)) hgrow (fun k _ e => .inr e.symm)) (fun _ => .inl rfl) (.slice (some ⟨g', 0, none⟩) (zs.length + 1) cap'))
          refine ⟨hk2.from _, boxOw_step HV.out hv2 KK.out (fun x hx => ?_), ⟨⟨_, hv2, ?_, trivial⟩, HBl.out.trans hb2'⟩, (KK.out.block D (lt_of_block HDD.out) (fun e => by rcases e with e | e; exact HNE.out.1 e; exact HNE.out.2 e)).trans HDD.out⟩
          · have hx2 := hown'.lt x hx
            rcases hnew with e | e
            · exact .inl (e ▸ hx)
            · rw [e] at hx
              injection hx with hx
              subst hx
              exact .inr ⟨by simp, by rw [World.size_setCell]; exact hx2.2⟩
          rw [HX.out.1, HX.out.2]
          exact hr2
    case done2 =>
      rintro D2 ys2 W2 hD2 hys ⟨⟨⟨v, hv, hrow, _⟩, hB⟩, hDD⟩ hK2
      have hys2 := hys.symm
      subst hys2
      clear hys
      have QW : Qt w W2 := ⟨hB.os.trans Q4.out.os, hB.tape.trans Q4.out.tape, hB.output.trans Q4.out.output, Nat.le_trans Q4.out.size hB.size, fun k hk e => (hB.block k (by omega)).trans (Q4.out.block k hk e)⟩
      have row2 : W2.ownsRow 0 29 3 v (Bt.bwD lb la ++ Bt.bwP la lb).length (opsC (Bt.bwD lb la ++ Bt.bwP la lb)) := by
        rcases hrow with ⟨h1, h2⟩
        rcases h2 with h2 | ⟨g, cap, cs, e, hle, hh, rest⟩
        · exact ⟨h1, .inl h2⟩
        · exact ⟨h1, .inr ⟨g, cap, cs, e, Nat.zero_le _, hh, rest⟩⟩
      have new2 : ∀ g, v.ownBlock = some g → w.heap.size ≤ g := fun g hg => by have := (hrow.lt g hg).1; omega
      have ndef : ∀ z, W2.heap[z]? = some (.deferred (some [])) → v.ownBlock ≠ some z := fun z hz e => by
        rcases hrow.2 with ⟨e2, _⟩ | ⟨g', cap, cs, e2, _, hh, _⟩
        · rw [e2] at e; cases e
        · rw [e2] at e
          have e3 : g' = z := Option.some.inj e
          subst e3
          rw [hz] at hh
          cases hh
      have BI := Bt.between_is HA.out.sorted HB.out.sorted
      have SO := sorted12_any w W2 ⟨row2, new2, QW⟩ BI.1 (Bt.between_norm HA.out.sorted HB.out.sorted) BI.2 (by
        have h1 := Bt.bwD_length lb la
        have h2 := Bt.bwP_length la lb
        rw [List.length_append]
        have := HL.out
        omega)
      have hc := hv.cell
      have D1K := Lib.hid (And.intro hDD (ndef D hDD))
      have D2K := Lib.hid (And.intro hK2 (ndef D2 hK2))
      have HDD := Lib.hid (show D ≠ D2 ∧ w.heap.size ≤ D ∧ w.heap.size ≤ D2 from ⟨by have := HDL.out; omega, by have := HDG.out.1; omega, by have := Q4.out.size; omega⟩)
      clear hseq2 hen2 HOW hX2 b5 r5 hrow hB hDD hK2 row2 new2 ndef BI QW
      go_wp2_with fail
      refine SO.mono ?_
      rintro e w6 ⟨rfl, N6, K6⟩
      have e2 : w6.heap[D2]? = some (.deferred (some [])) := (K6.block D2 (lt_of_block D2K.out.1) D2K.out.2).trans D2K.out.1
      have e1' : w6.heap[D]? = some (.deferred (some [])) := (K6.block D (lt_of_block D1K.out.1) D1K.out.2).trans D1K.out.1
      have e1 : (w6.putObj D2 (.deferred none)).heap[D]? = some (.deferred (some [])) := by
        rw [World.putObj_heap_other HDD.out.1]
        exact e1'
      have q1 : Qt w (w6.putObj D2 (.deferred none)) := Keeps.grown N6.qt (grownBy_putObj' _ _ _) (fun k hk e => by injection e with e; have := HDD.out.2.2; omega)
      have FIN := Lib.hid (show NewO w ((w6.putObj D2 (.deferred none)).putObj D (.deferred none)) v (Bt.between la lb) from
        ⟨ownsRow_putObj (ownsRow_putObj N6.own (.deferred none) e2 rfl) (.deferred none) e1 rfl, N6.new, Keeps.grown q1 (grownBy_putObj' _ _ _) (fun k hk e => by injection e with e; have := HDD.out.2.1; omega)⟩)
      clear SO N6 K6 e1' q1 hv
      go_wp2
      refine ⟨by simp, .inl ⟨_, _, rfl, run_takeDeferred e2, by simp, .inl ⟨_, _, rfl, run_takeDeferred e1, ?_⟩⟩⟩
      exact ⟨_, (results_tmp (t := 4) rfl _ _ _ : _ = Result.ok v _), _, rfl, FIN.out⟩
    case stop2 =>
      rintro D2 c pre W _ _ h _
      exact h.elim
  case stop =>
    rintro D c pre W _ _ h _
    exact h.elim
end Go.Proofs.YtffjleceogablaaDoor
