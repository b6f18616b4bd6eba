/-
  The document's own table: the contracts of Put, Of.
-/
import Derived.Test.YtadocleollndfaaP07
import Derived.Test.YtadocleollndfaaP08
import Derived.Deep.RegionLaw
namespace Go.Proofs.Ytadocleollndfaa
open Go.RowKit Go.WideShapes
set_option maxRecDepth 100000

theorem rowsC_drop : ∀ (l : List Tb.R) (i : Nat), rowsC (l.drop i) = (rowsC l).drop (i * 2)
  | l, 0 => by simp
  | [], i + 1 => by simp [rowsC]
  | r :: l, i + 1 => by
    have e : rowsC (r :: l) = strV r.1 :: strV r.2 :: rowsC l := by simp [rowsC, rowC]
    rw [List.drop_succ_cons, rowsC_drop l i, e, show (i + 1) * 2 = i * 2 + 1 + 1 by omega, List.drop_succ_cons, List.drop_succ_cons]
theorem rowsC_take : ∀ (l : List Tb.R) (i : Nat), rowsC (l.take i) = (rowsC l).take (i * 2)
  | l, 0 => by simp [rowsC]
  | [], i + 1 => by simp [rowsC]
  | r :: l, i + 1 => by
    have e : rowsC (r :: l) = strV r.1 :: strV r.2 :: rowsC l := by simp [rowsC, rowC]
    have e2 : rowsC (r :: l.take i) = strV r.1 :: strV r.2 :: rowsC (l.take i) := by simp [rowsC, rowC]
    rw [List.take_succ_cons, e2, rowsC_take l i, e, show (i + 1) * 2 = i * 2 + 1 + 1 by omega, List.take_succ_cons, List.take_succ_cons]
/-- The first rows, and the others, of a row of one's own, as lists to append. -/
theorem news_take {W : World} {a : Option Addr} {n c g : Nat} {l : List Tb.R} (h : RowsIn W (.slice a n c) g 0 l) (i : Nat) : rowsC (l.take i) ≠ [] → ∃ p, a = some p ∧ ∀ (j : Nat) (u : Value), (rowsC (l.take i))[j]? = some u → W.cell? (p.add j) = some u := by
  intro hne
  have hne2 : rowsC l ≠ [] := by rintro e; rw [rowsC_take, e] at hne; simp at hne
  obtain ⟨p, hp, hc⟩ := rows_news h hne2
  refine ⟨p, hp, fun j u hj => hc j u ?_⟩
  rw [rowsC_take] at hj
  rw [List.getElem?_take] at hj
  split at hj
  · exact hj
  · cases hj
theorem news_drop {W : World} {a : Option Addr} {n c g : Nat} {l : List Tb.R} (h : RowsIn W (.slice a n c) g 0 l) (hc : l.length ≤ c) (i : Nat) : rowsC (l.drop i) ≠ [] → ∃ p, (if c = i then a else a.map (·.add (i * 2))) = some p ∧ ∀ (j : Nat) (u : Value), (rowsC (l.drop i))[j]? = some u → W.cell? (p.add j) = some u := by
  intro hne
  have hi : i < l.length := by
    rcases Nat.lt_or_ge i l.length with k | k
    · exact k
    · rw [List.drop_eq_nil_of_le k] at hne
      exact absurd rfl hne
  have hl : l ≠ [] := by rintro rfl; simp at hi
  obtain ⟨a', cap, e, ha⟩ := h.val
  injection e with e1 e2 e3
  rw [if_neg (by omega), e1, ha hl]
  refine ⟨⟨g, i * 2, none⟩, by rw [Option.map_some, add_plain, Nat.zero_add], fun j u hj => ?_⟩
  rw [rowsC_drop, List.getElem?_drop] at hj
  rw [add_plain]
  exact rows_flat h hj

/-! ### Put -/
/-- The box out in block B holds the rows xs. -/
structure PtS (w5 : World) (B : Nat) (xs : List Tb.R) (v : Value) (W : World) : Prop where
  box : Boxed W B 42 v
  own : W.ownsRow 0 36 2 v xs.length (rowsC xs)
  new : ∀ g, v.ownBlock = some g → B < g
  keep : Keeps (fun x => B ≤ x) w5 W
section
variable {w5 W W' w7 : World} {B m : Nat} {xs ys : List Tb.R} {v v' : Value}
theorem PtS.push (h : PtS w5 B xs v W) (q : Qt W W') (hm : m = (xs ++ ys).length) (own : w7.ownsRow 0 36 2 v' m (rowsC xs ++ rowsC ys)) (gr : W'.grownBy w7 v.ownBlock) (la : Later W' v.ownBlock v'.ownBlock) :
    Boxed w7 B 42 v ∧ PtS w5 B (xs ++ ys) v' (w7.setCell ⟨B, 0, none⟩ v') := by
  have hB := h.box.lt
  have hz := q.size
  have hn : ∀ g, v'.ownBlock = some g → B < g := fun g eg => by
    rcases la with r | ⟨x, r, hx⟩
    · exact h.new g (r ▸ eg)
    · rw [r] at eg; injection eg with eg; subst eg; omega
  have K7 : Keeps (fun x => v.ownBlock = some x) W w7 := Keeps.grown (q.mono (fun _ _ e => e.elim)) gr (fun j _ ej => ej.symm)
  have b7 : Boxed w7 B 42 v := (K7.block B hB (fun eb => by have := h.new B eb; omega)).trans h.box
  have K8 : Keeps (fun x => x = B) w7 (w7.setCell ⟨B, 0, none⟩ v') := Keeps.setCell (p := ⟨B, 0, none⟩) (Keeps.refl (fun x => x = B) w7) (fun _ => rfl) v'
  refine ⟨b7, boxR_set b7, ?_, hn, Keeps.trans (Keeps.trans h.keep K7 (fun j _ ej => Nat.le_of_lt (h.new j ej))) K8 (fun j _ ej => by omega)⟩
  rw [rowsC_append, ← hm]
  exact ownsRow_kept own K8 (fun g hg eg => by have := hn g hg; omega)
end
theorem ownR_cap {w : World} {a : Option Addr} {n m c : Nat} {xs : List Value} (h : w.ownsRow 0 36 2 (.slice a n c) m xs) : m ≤ c ∧ (a = none ∨ ∃ g, a = some ⟨g, 0, none⟩) := by
  rcases h.2 with ⟨e, h0⟩ | ⟨g, cap, cur, e, _, _, hl, _⟩
  · injection e with e1 _ e3
    exact ⟨by omega, .inl e1⟩
  · injection e with e1 _ e3
    exact ⟨by omega, .inr ⟨g, e1⟩⟩
theorem ownR_shapeN {w : World} {v : Value} {n : Nat} {xs : List Value} (h : w.ownsRow 0 36 2 v n xs) : ∃ a c, v = .slice a n c := by
  rcases h.2 with ⟨e, h0⟩ | ⟨g, cap, cur, e, _⟩
  · exact ⟨none, 0, by rw [e, h0]⟩
  · exact ⟨_, _, e⟩
theorem rowsIn_lt {W : World} {v : Value} {g o : Nat} {l : List Tb.R} (h : RowsIn W v g o l) (hne : l ≠ []) : g < W.heap.size := by
  obtain ⟨r, l', rfl⟩ := List.exists_cons_of_ne_nil hne
  exact World.block_lt_of_cell? W _ (h.cell (k := 0) rfl).1
/-- What PtS keeps of what lay ahead. -/
theorem PtS.rows {w5 W : World} {B g o : Nat} {xs l : List Tb.R} {v u : Value} (h : PtS w5 B xs v W) (hB : B = w5.heap.size) (hr : RowsIn w5 u g o l) : RowsIn W u g o l :=
  hr.kept h.keep (fun hne e => by have := rowsIn_lt hr hne; omega)
theorem PtS.boxed {w5 W : World} {B b : Nat} {t : TypeId} {xs : List Tb.R} {v u : Value} (h : PtS w5 B xs v W) (hB : B = w5.heap.size) (hb : Boxed w5 b t u) : Boxed W b t u := (h.keep.block b hb.lt (fun e => by have := hb.lt; omega)).trans hb
set_option maxHeartbeats 3200000 in
theorem refPut_any {v : Value} {g o : Nat} {l : List Tb.R} (k val : ByteArray) (w : World) (hr : RowsIn w v g o l) (hl : l.length ≤ 1048576) :
    Calls Try.prog 26 #[.agg #[v], .string k, .string val] w fun e w' => ∃ v', e = .returned (.tuple #[.agg #[v'], .bool (Tb.has l k.data.toList)]) ∧ NewR w w' v' (Tb.put l k.data.toList val.data.toList) := by
  obtain ⟨W1, hW1⟩ : ∃ W, (w.alloc (.cells #[v] 42)).alloc (.cells #[.slice none 0 0] 42) = W := ⟨_, rfl⟩
  have Q1 := Lib.hid (show Qt w W1 from hW1 ▸ ((Qt.refl w).alloc _).alloc _)
  have ZS := Lib.hid (show W1.heap.size = w.heap.size + 2 from by rw [← hW1]; simp)
  have BR := Lib.hid (show Boxed W1 (w.heap.size + 1) 42 (.slice none 0 0) from by
    have h := Boxed.new (w.alloc (.cells #[v] 42)) 42 (.slice none 0 0)
    rw [World.size_alloc] at h
    exact hW1 ▸ h)
  have BV := Lib.hid (show Boxed W1 w.heap.size 42 v from hW1 ▸ (Boxed.new w 42 v).alloc _)
  have DL := refDelete_any k W1 (hr.turn Q1.out) hl
  obtain ⟨a, cap, rfl, _⟩ := hr.val
  have DBL := Lib.hid (show (Tb.del l k.data.toList).length ≤ 1048576 from Nat.le_trans (List.length_filter_le _ _) hl)
  have HP := Lib.hid (show Tb.put l k.data.toList val.data.toList = (Tb.del l k.data.toList).take (Tb.place (Tb.del l k.data.toList) k.data.toList) ++ [(k.data.toList, val.data.toList)] ++ (Tb.del l k.data.toList).drop (Tb.place (Tb.del l k.data.toList) k.data.toList) from by
    rw [List.append_assoc]; rfl)
  obtain ⟨i0, hi0, hz0, hz1, hz2⟩ := info_parts infoRow
  have PL := Lib.hid (Tb.place_le (Tb.del l k.data.toList) k.data.toList)
  generalize hrest : Tb.del l k.data.toList = rest at *
  clear hrest hr hl
  have HW1 := Lib.hid hW1
  clear hW1
  go_enter Try.func26, Try.ntmps26
  go_wp2_with fail
  rw [HW1.out]
  clear HW1
  refine DL.mono ?_
  rintro e w2 ⟨vr, rfl, N2⟩
  obtain ⟨ra, rc, rfl⟩ := ownR_shape N2.own
  obtain ⟨hcap, hra⟩ := ownR_cap N2.own
  obtain ⟨w3, hw3⟩ : ∃ W, w2.alloc (.cells #[.slice ra rest.length rc] 42) = W := ⟨_, rfl⟩
  have N3 := Lib.hid (N2.quiet (hw3 ▸ (Qt.refl w2).alloc _ : Qt w2 w3))
  have B3 := Lib.hid (show Boxed w3 w2.heap.size 42 (.slice ra rest.length rc) from hw3 ▸ Boxed.new w2 42 _)
  obtain ⟨gr, RR⟩ := N3.out.rows (by have := DBL.out; omega)
  have PC := refPlace_any k w3 RR
  have HCP := Lib.hid hcap
  have HRA := Lib.hid hra
  have HRR := Lib.hid RR
  have HW3 := Lib.hid hw3
  clear DL N2 hcap hra RR hw3
  go_wp2_with fail
  rw [HW3.out]
  refine PC.mono ?_
  rintro e w4 ⟨rfl, q4⟩
  generalize Tb.place rest k.data.toList = i at *
  obtain ⟨w5, hw5⟩ : ∃ W, w4.alloc (.cells #[.slice none 0 0] 42) = W := ⟨_, rfl⟩
  have q5 : Qt w4 w5 := hw5 ▸ (Qt.refl w4).alloc _
  have P5 := Lib.hid (show PtS w4 w4.heap.size [] (.slice none 0 0) w5 from ⟨hw5 ▸ Boxed.new w4 42 _, World.ownsRow_nil w5 0 _ 2, fun g hg => (by cases hg), q5.mono (fun _ _ e => e.elim)⟩)
  have N4 := Lib.hid (N3.out.quiet q4)
  have R5 := Lib.hid (HRR.out.turn (Qt.trans q4 q5))
  have B4 := Lib.hid (boxR_qt B3.out q4)
  have R4 := Lib.hid (HRR.out.turn q4)
  have c8 := (boxR_qt B4.out q5).cell
  have c11 := P5.out.box.cell
  have f11 := P5.out.box.frozen
  have SH := fun W => sliceR_h HRA.out rest.length rc i (by have := HCP.out; have := PL.out; omega) W
  have NT := Lib.hid (fun W (q : Qt w5 W) => news_take (R5.out.turn q) i)
  have LT := Lib.hid (show (rest.take i).length = i by rw [List.length_take]; have := PL.out; omega)
  have hb1 : 0 + i ≤ maxLen := by have := PL.out; have := DBL.out; unfold maxLen; omega
  have hb2 : (0 + i) * 32 ≤ 140737488355328 := by have := PL.out; have := DBL.out; omega
  have HW5 := Lib.hid hw5
  have HB := Lib.hid (show w2.heap.size ≠ w4.heap.size from by have := B4.out.lt; omega)
  clear hw5 q5 q4 PC hb1 hb2
  have hb1 := Lib.hid (show 0 + i ≤ maxLen by have := PL.out; have := DBL.out; unfold maxLen; omega)
  have hb2 := Lib.hid (show (0 + i) * 32 ≤ 140737488355328 by have := PL.out; have := DBL.out; omega)
  have DR := Lib.hid (show Qt w5 w5.drew from Keeps.drew (Qt.refl w5))
  have OW0 := Lib.hid (show w5.drew.ownsRow 0 36 2 (.slice none 0 0) 0 (rowsC []) from World.ownsRow_nil _ 0 _ 2)
  have LEN := Lib.hid (show (rowsC (rest.take i)).length = i * 2 by rw [rowsC_length, LT.out])
  go_wp2_with fail
  rw [HW5.out]
  go_region_law ((refine step_append_rows (by rfl) _ _ 22 (by rfl) 36 i0 (.agg #[.string ⟨#[]⟩, .string ⟨#[]⟩]) 2 32 Try.underlying22 hi0 hz0 hz1 hz2 rfl (by decide) (.slice none 0 0) 0 (rowsC []) (by rfl) OW0.out ra i rc (rowsC (rest.take i)) (by rfl) LEN.out (NT.out _ DR.out) (rowsC_one' _) hb1.out hb2.out ?_; intro v1 w6 own6 gr6 la6; obtain ⟨b6, s6⟩ := PtS.push P5.out DR.out (ys := rest.take i) (by rw [List.nil_append, LT.out, Nat.zero_add]) own6 gr6 la6; rw [Nat.zero_add] at own6; obtain ⟨a1, c1, rfl⟩ := ownR_shapeN own6; have c6 := b6.cell; have f6 := b6.frozen; have S6 := Lib.hid s6; have B6 := Lib.hid b6; clear own6 gr6 la6 s6 b6))
  all_goals
    obtain ⟨y6, hy6⟩ : ∃ W, w6.setCell ⟨w4.heap.size, 0, none⟩ (.slice a1 i c1) = W := ⟨_, rfl⟩
    rw [hy6] at S6
    rw [hy6]
    have P6 := Lib.hid (show PtS w4 w4.heap.size (rest.take i) (.slice a1 i c1) y6 from by have h := S6.out; rw [List.nil_append] at h; exact h)
    clear S6 c6 f6 c8 c11 f11 hy6 B6
    have c6 := P6.out.box.cell
    have c8 := (P6.out.boxed rfl B4.out).cell
    have OW := Lib.hid (fun o => (show (y6.alloc o).ownsRow 0 36 2 (.slice a1 i c1) i (rowsC (rest.take i)) from by
      have h := P6.out.own
      rw [LT.out] at h
      exact ownsRow_kept h ((Keeps.refl (fun _ => False) y6).alloc o) (fun _ _ e => e)))
    have hd1 : i + 1 ≤ maxLen := by have := PL.out; have := DBL.out; unfold maxLen; omega
    have hd2 : (i + 1) * 32 ≤ 140737488355328 := by have := PL.out; have := DBL.out; omega
    go_wp2_with (at_builtin; refine wpList_append_rows _ rfl _ _ 22 rfl 36 i0 (.agg #[.string ⟨#[]⟩, .string ⟨#[]⟩]) 2 32 Try.underlying22 hi0 hz0 hz1 hz2 rfl (by decide) _ i (rowsC (rest.take i)) rfl (OW.out _) (some ⟨y6.heap.size, 0, none⟩) 1 1 [.string k, .string val] rfl rfl (fun _ => ⟨_, rfl, news2 _ _ _ _⟩) (by intro y hy; simp at hy; rcases hy with rfl | rfl <;> rfl) hd1 hd2 ?_)
    intro v2 w7 own7 gr7 la7
    obtain ⟨b7, s7⟩ := PtS.push P6.out ((Qt.refl y6).alloc _) (ys := [(k.data.toList, val.data.toList)]) (m := i + 1) (by rw [List.length_append, LT.out]; rfl) (by rw [rowsC_one, strV_str, strV_str]; exact own7) gr7 la7
    obtain ⟨a2, c2, rfl⟩ := ownR_shapeN own7
    have c7 := b7.cell
    have f7 := b7.frozen
    have S7 := Lib.hid s7
    clear own7 gr7 la7 b7 s7 c6 hd1 hd2 c8
    go_wp2_with fail
    obtain ⟨y7, hy7⟩ : ∃ W, w7.setCell ⟨w4.heap.size, 0, none⟩ (.slice a2 (i + 1) c2) = W := ⟨_, rfl⟩
    have P7 := Lib.hid (show PtS w4 w4.heap.size (rest.take i ++ [(k.data.toList, val.data.toList)]) (.slice a2 (i + 1) c2) y7 from hy7 ▸ S7.out)
    try rw [hy7]
    clear S7 c7 f7 hy7 P6
    have c7 := P7.out.box.cell
    have f7 := P7.out.box.frozen
    have c8 := (P7.out.boxed rfl B4.out).cell
    have SL := fun W => sliceR_l ra rest.length rc i PL.out W
    have ND := Lib.hid (fun W (q : Qt y7 W) => news_drop ((P7.out.rows rfl R4.out).turn q) HCP.out i)
    generalize (if rc = i then ra else ra.map (·.add (i * 2))) = ad7 at SL ND
    have hd1 := Lib.hid (show i + 1 + (rest.length - i) ≤ maxLen by have := PL.out; have := DBL.out; unfold maxLen; omega)
    have hd2 := Lib.hid (show (i + 1 + (rest.length - i)) * 32 ≤ 140737488355328 by have := PL.out; have := DBL.out; omega)
    have OW7 := Lib.hid (show y7.drew.ownsRow 0 36 2 (.slice a2 (i + 1) c2) (i + 1) (rowsC (rest.take i ++ [(k.data.toList, val.data.toList)])) from by
      have h := P7.out.own
      rw [show (rest.take i ++ [(k.data.toList, val.data.toList)]).length = i + 1 by rw [List.length_append, LT.out]; rfl] at h
      exact ownsRow_kept h (Keeps.drew (Keeps.refl (fun _ => False) y7)) (fun _ _ e => e))
    have LEN7 := Lib.hid (show (rowsC (rest.drop i)).length = (rest.length - i) * 2 by rw [rowsC_length, List.length_drop])
    have DR7 := Lib.hid (show Qt y7 y7.drew from Keeps.drew (Qt.refl y7))
    go_region_law ((refine step_append_rows (by rfl) _ _ 22 (by rfl) 36 i0 (.agg #[.string ⟨#[]⟩, .string ⟨#[]⟩]) 2 32 Try.underlying22 hi0 hz0 hz1 hz2 rfl (by decide) (.slice a2 (i + 1) c2) (i + 1) (rowsC (rest.take i ++ [(k.data.toList, val.data.toList)])) (by rfl) OW7.out ad7 (rest.length - i) (rc - i) (rowsC (rest.drop i)) (by rfl) LEN7.out (ND.out _ DR7.out) (rowsC_one' _) hd1.out hd2.out ?_; intro v3 w8 own8 gr8 la8; obtain ⟨b8, s8⟩ := PtS.push P7.out DR7.out (ys := rest.drop i) (by rw [List.length_append, List.length_append, LT.out, List.length_drop]; rfl) own8 gr8 la8; obtain ⟨a3, c3, rfl⟩ := ownR_shapeN own8; have c9 := b8.cell; have f9 := b8.frozen; have S8 := Lib.hid s8; clear own8 gr8 la8 s8 b8))
    all_goals
      obtain ⟨y8, hy8⟩ : ∃ W, w8.setCell ⟨w4.heap.size, 0, none⟩ (.slice a3 (i + 1 + (rest.length - i)) c3) = W := ⟨_, rfl⟩
      have P8 := Lib.hid (show PtS w4 w4.heap.size (Tb.put l k.data.toList val.data.toList) (.slice a3 (i + 1 + (rest.length - i)) c3) y8 from by rw [HP.out]; exact hy8 ▸ S8.out)
      rw [hy8]
      clear S8 c9 f9 hy8 P7 c7 f7 c8 SL
      have c9 := P8.out.box.cell
      have BQ := Lib.hid (P8.out.boxed rfl (boxR_qt BR.out N4.out.qt))
      have cr := BQ.out.cell
      have fr := BQ.out.frozen
      go_wp2
      refine bodyPost_ret (resultsT (p := 6) (u := 7) (by kernel_rfl) _ _ (w.heap.size + 1) _ rfl (boxR_set BQ.out)) rfl ⟨_, rfl, ?_⟩
      have hz : w.heap.size + 2 ≤ w4.heap.size := by have := N4.out.qt.size; have := ZS.out; omega
      have hnew := P8.out.new
      have q18 : Qt w y8 := Keeps.trans (Qt.trans Q1.out N4.out.qt) P8.out.keep (fun j hj e => by omega)
      exact ⟨ownsRow_kept P8.out.own (Keeps.setCell (p := ⟨w.heap.size + 1, 0, none⟩) (Keeps.refl (fun x => x = w.heap.size + 1) y8) (fun _ => rfl) _) (fun g hg e => by have := hnew g hg; omega), fun g hg => by have := hnew g hg; omega, Keeps.setCell (p := ⟨w.heap.size + 1, 0, none⟩) q18 (fun h => by simp only at h; omega) _⟩

/-! ### Of -/
structure OfS (W0 : World) (B : Nat) (rows : List Tb.R) (i : Nat) (v : Value) (wr : World) : Prop where
  box : Boxed wr B 42 v
  own : wr.ownsRow 0 36 2 v (Tb.ofL (rows.take i)).length (rowsC (Tb.ofL (rows.take i)))
  new : ∀ g, v.ownBlock = some g → B < g
  keep : Keeps (fun x => B ≤ x) W0 wr
def OfAt (W0 : World) (B : Nat) (rows : List Tb.R) (iv : Value) (wr : World) : Prop := ∃ (i : Nat) (v : Value), i ≤ rows.length ∧ iv = .int .i64 i ∧ OfS W0 B rows i v wr
set_option maxHeartbeats 3200000 in
theorem refOf_any {v : Value} {g o : Nat} {rows : List Tb.R} (w : World) (hr : RowsIn w v g o rows) (hl : rows.length ≤ 1048576) :
    Calls Try.prog 17 #[v] w fun e w' => ∃ v', e = .returned (.agg #[v']) ∧ NewR w w' v' (Tb.ofL rows) := by
  have HR := Lib.hid hr
  have HL := Lib.hid hl
  obtain ⟨a, cap, rfl, ha⟩ := hr.val
  clear hr ha hl
  obtain ⟨W0, hW0⟩ : ∃ W, (w.alloc (.cells #[.slice none 0 0] 42)).alloc (.cells #[.slice none 0 0] 42) = W := ⟨_, rfl⟩
  have Q0 := Lib.hid (show Qt w W0 from hW0 ▸ ((Qt.refl w).alloc _).alloc _)
  have ZS := Lib.hid (show W0.heap.size = w.heap.size + 2 from by rw [← hW0]; simp)
  have BR := Lib.hid (show Boxed W0 w.heap.size 42 (.slice none 0 0) from hW0 ▸ (Boxed.new w 42 (.slice none 0 0)).alloc _)
  have BO : Boxed W0 (w.heap.size + 1) 42 (.slice none 0 0) := by
    have h := Boxed.new (w.alloc (.cells #[.slice none 0 0] 42)) 42 (.slice none 0 0)
    rw [World.size_alloc] at h
    exact hW0 ▸ h
  have START := Lib.hid (show OfAt W0 (w.heap.size + 1) rows (.int .i64 0) W0 from ⟨0, _, Nat.zero_le _, rfl, ⟨BO, World.ownsRow_nil W0 0 _ 2, fun g hg => (by cases hg), Keeps.refl _ _⟩⟩)
  have HW0 := Lib.hid hW0
  clear BO hW0
  go_enter Try.func17, Try.ntmps17
  go_wp2
  rw [HW0.out]
  clear HW0
  go_loopw [9] (fun iv wr => OfAt W0 (w.heap.size + 1) rows iv wr) (fun iv _ => rows.length - (intOf iv).toNat)
  case atStart => exact START.out
  case round =>
    obtain ⟨i, v', hi, rfl, hS⟩ := hrel
    have HS := Lib.hid hS
    have QW := Lib.hid (show Qt w wr from Keeps.trans Q0.out hS.keep (fun j hj e => by have := ZS.out; omega))
    by_cases hlt : i < rows.length
    · have zlt : decide ((i : Int) < (rows.length : Int)) = true := decide_eq_true (by omega)
      have zlt' : decide (i < rows.length) = true := decide_eq_true hlt
      obtain ⟨r, c1, hri, e0⟩ := HR.out.elem hlt
      injection e0 with e0 q1 q2
      clear q1 q2
      subst e0
      obtain ⟨x1, x2⟩ := HR.out.cell hri
      have x1 := QW.out.cellv x1
      have x2 := QW.out.cellv x2
      obtain ⟨K, hK, hKl⟩ : ∃ K : ByteArray, strV r.1 = .string K ∧ K.data.toList = r.1 := ⟨⟨r.1.toArray⟩, rfl, rfl⟩
      obtain ⟨V, hV, hVl⟩ : ∃ V : ByteArray, strV r.2 = .string V ∧ V.data.toList = r.2 := ⟨⟨r.2.toArray⟩, rfl, rfl⟩
      rw [hK] at x1
      rw [hV] at x2
      have k0 : (0 : Int) ≤ (i : Int) := by omega
      have k1 : (i : Int) < (rows.length : Int) := by omega
      have hw1 := pl_w1 (k := i) (by have := HL.out; omega)
      have HM := Lib.hid (pl_meas hlt)
      have HT := Lib.hid (show Tb.ofL (rows.take (i + 1)) = Tb.put (Tb.ofL (rows.take i)) r.1 r.2 by rw [List.take_add_one, hri]; exact Tb.ofL_snoc _ _)
      obtain ⟨wb, hwb⟩ : ∃ W, wr.alloc (.cells #[.string K, .string V] 36) = W := ⟨_, rfl⟩
      have qb : Qt wr wb := hwb ▸ (Qt.refl wr).alloc _
      have c1 : wb.cell? ⟨wr.heap.size, 0, none⟩ = some (.string K) := by rw [← hwb, cell_of_row _ _ _ _ _ _ (heap_alloc_new wr _)]; rfl
      have c2 : wb.cell? ⟨wr.heap.size, 1, none⟩ = some (.string V) := by rw [← hwb, cell_of_row _ _ _ _ _ _ (heap_alloc_new wr _)]; rfl
      have BB := Lib.hid (boxR_qt hS.box qb)
      have KB := Lib.hid (show Keeps (fun x => w.heap.size + 1 ≤ x) W0 wb from Keeps.trans hS.keep qb (fun _ _ e => e.elim))
      have OB := Lib.hid (ownsRow_kept hS.own qb (fun _ _ e => e))
      have hlen : (Tb.ofL (rows.take i)).length ≤ 1048576 := by
        have h1 := Tb.ofL_length (rows.take i)
        have h2 := List.length_take_le i rows
        have := HL.out
        omega
      obtain ⟨gb, hgb, _⟩ := ownR_rows OB.out (by omega)
      have PU := refPut_any K V wb hgb hlen
      rw [hKl, hVl] at PU
      have c3 := BB.out.cell
      have f3 := BB.out.frozen
      have HLT := Lib.hid hlt
      have HNW := Lib.hid hS.new
      obtain ⟨va, vc, rfl⟩ := ownR_shape hS.own
      have ZB := Lib.hid (show w.heap.size + 1 < wb.heap.size from by have := KB.out.size; have := ZS.out; omega)
      clear hK hKl hV hVl hri hlt hi hS qb hgb hlen
      go_wp2_with fail
      refine PU.mono ?_
      rintro e w7 ⟨v7, rfl, N7⟩
      obtain ⟨a7, c7, rfl⟩ := ownR_shape N7.own
      have b7 := boxR_qt BB.out N7.qt
      have c3 := b7.cell
      have f3 := b7.frozen
      have FN := Lib.hid (show OfAt W0 (w.heap.size + 1) rows (.int .i64 ((i : Int) + 1)) (w7.setCell ⟨w.heap.size + 1, 0, none⟩ (.slice a7 (Tb.put (Tb.ofL (rows.take i)) r.1 r.2).length c7)) from
        ⟨i + 1, _, HLT.out, by push_cast; rfl, ⟨boxR_set b7, by rw [HT.out]; exact ownsRow_kept N7.own (Keeps.setCell (p := ⟨w.heap.size + 1, 0, none⟩) (Keeps.refl (fun x => x = w.heap.size + 1) w7) (fun _ => rfl) _) (fun g hg e => by have := N7.new g hg; have := ZB.out; omega), fun g hg => by have := N7.new g hg; have := ZB.out; omega, Keeps.setCell (p := ⟨w.heap.size + 1, 0, none⟩) (Keeps.trans KB.out N7.qt (fun _ _ e => e.elim)) (fun _ => Nat.le_refl _) _⟩⟩)
      clear N7 b7 PU hwb c1 c2 x1 x2
      go_wp2
      first | exact ⟨FN.out, HM.out⟩ | (rw [hw1]; exact ⟨FN.out, HM.out⟩)
    · obtain rfl : i = rows.length := by omega
      have zlt : decide ((rows.length : Int) < (rows.length : Int)) = false := decide_eq_false (by omega)
      have zlt' : decide (rows.length < rows.length) = false := decide_eq_false (by omega)
      have c3 := hS.box.cell
      have br : Boxed wr w.heap.size 42 (.slice none 0 0) := (hS.keep.block _ (by have := ZS.out; omega) (by omega)).trans BR.out
      have cr := br.cell
      have fr := br.frozen
      have BRR := Lib.hid br
      clear hi hS hlt br
      obtain ⟨va, vc, rfl⟩ := ownR_shape HS.out.own
      go_wp2
      refine bodyPost_ret (results_cell_row (p := 2) (ty := 42) (by kernel_rfl) _ _ w.heap.size 42 #[_] (0, 0) _ rfl (boxR_set BRR.out) Try.underlying42 rfl (by kernel_rfl)) rfl ⟨_, rfl, ?_⟩
      have hown := HS.out.own
      have hnew := HS.out.new
      rw [List.take_length] at hown hnew
      exact ⟨ownsRow_kept hown (Keeps.setCell (p := ⟨w.heap.size, 0, none⟩) (Keeps.refl (fun x => x = w.heap.size) wr) (fun _ => rfl) _) (fun g hg e => by have := hnew g hg; omega), fun g hg => by have := hnew g hg; omega, Keeps.setCell (p := ⟨w.heap.size, 0, none⟩) QW.out (fun h => by simp only at h; omega) _⟩
end Go.Proofs.Ytadocleollndfaa
