/-
  Append of a list of structs (nil or not): what it leaves; as a step of a region that draws.
  A row of structs of one's own: grown by one, cut, stored into (for rows).
-/
import Derived.Test.YtffjleceogablaaDoorP06
import Derived.Test.YtffjleceogablaaDoorP07
import Derived.Deep.RegionLaw
import Derived.Test.YtffjleceogablaaDoorP17
import Derived.Test.YtffjleceogablaaDoorP30
namespace Go.Proofs.YtffjleceogablaaDoor
open Go.RowKit Go.WideShapes
set_option maxRecDepth 100000

section
variable {P : Program} {w : World}
/-- Append of a list (nil or not), of elements of any number of cells: what it leaves. -/
theorem run_append_rows (t ty : TypeId) (e : TypeId) (i : TypeInfo) (z : Value) (size bytes : Nat) (ht : P.underlying t = some (.slice e)) (hi : P.info? e = some i) (hz : i.zero = some z)
    (hsize : i.size = size) (hby : i.bytes = bytes) (hzs : z.cells.size = size) (hsz : 0 < size)
    (v : Value) (n : Nat) (xs : List Value) (hown : w.ownsRow 0 e size v n xs)
    (ad : Option Addr) (m c : Nat) (news : List Value) (hl : news.length = m * size) (ha : news ≠ [] → ∃ p, ad = some p ∧ ∀ (j : Nat) u, news[j]? = some u → w.cell? (p.add j) = some u) (h1 : ∀ u ∈ news, u.oneCell' = true)
    (h63 : n + m ≤ maxLen) (hbytes : (n + m) * bytes ≤ 140737488355328) :
    ∃ v' w', (Builtin.append_ #[t, t] ty #[v, .slice ad m c]).run P w = .ok v' w' ∧ w'.ownsRow 0 e size v' (n + m) (xs ++ news) ∧ w.grownBy w' v.ownBlock ∧ Later w v.ownBlock v'.ownBlock := by
  cases ad with
  | some ad =>
    have hnews : ∀ j u, news[j]? = some u → w.cell? (ad.add j) = some u := fun j u hj => by
      have hne : news ≠ [] := by rintro rfl; simp at hj
      obtain ⟨p, hp, hc⟩ := ha hne
      injection hp with hp
      subst hp
      exact hc j u hj
    obtain ⟨v', w', hr, p1, p2, p3, _⟩ := run_append_cells0 (P := P) w t ty e i z size bytes ht hi hz hsize hby hzs hsz v n xs hown ad m c news hl hnews h1 h63 hbytes
    exact ⟨v', w', hr, p1, p2, p3⟩
  | none =>
    have hn : news = [] := by
      apply Classical.byContradiction
      intro hne
      obtain ⟨p, hp, _⟩ := ha hne
      cases hp
    subst hn
    have hm : m = 0 := by
      have : m * size = 0 := by simpa using hl.symm
      rcases Nat.mul_eq_zero.1 this with h | h
      · exact h
      · omega
    subst hm
    exact ⟨v, w, run_append_none (P := P) w t ty e i ht hi v n xs size hown c, by simpa using hown, ⟨rfl, rfl, rfl, Nat.le_refl _, fun _ _ _ => rfl⟩, .inl rfl⟩
/-- .. as a step of a region that draws. -/
theorem step_append_rows {ops : Array Oper} {o : Oper} {a : Act} {K : Act → World → Prop} {Q : Exit → Act → World → Prop} {E : Prop} (hgd : o.guard = none) (s x : Operand) (t : TypeId)
    (ho : o.op = .call { callee := .builtin .append, args := #[s, x], argTypes := #[t, t] })
    (e : TypeId) (i : TypeInfo) (z : Value) (size bytes : Nat) (ht : P.underlying t = some (.slice e)) (hi : P.info? e = some i) (hz : i.zero = some z)
    (hsize : i.size = size) (hby : i.bytes = bytes) (hzs : z.cells.size = size) (hsz : 0 < size)
    (v : Value) (n : Nat) (xs : List Value) (hs : a.eval s = v) (hown : w.ownsRow 0 e size v n xs)
    (ad : Option Addr) (m c : Nat) (news : List Value) (hx : a.eval x = .slice ad m c) (hl : news.length = m * size) (ha : news ≠ [] → ∃ p, ad = some p ∧ ∀ (j : Nat) u, news[j]? = some u → w.cell? (p.add j) = some u) (h1 : ∀ u ∈ news, u.oneCell' = true)
    (h63 : n + m ≤ maxLen) (hbytes : (n + m) * bytes ≤ 140737488355328)
    (h : ∀ v' w', w'.ownsRow 0 e size v' (n + m) (xs ++ news) → w.grownBy w' v.ownBlock → Later w v.ownBlock v'.ownBlock → K (a.put o.dst v') w') :
    if Region.wanted o (yielded ops a.tmps) = true then Oper.wp P o a w K Q else E := by
  have hw : Region.wanted o (yielded ops a.tmps) = true := by simp [Region.wanted, hgd]
  rw [if_pos hw]
  obtain ⟨v', w', hr, h2, h3, h4⟩ := run_append_rows (P := P) t o.type e i z size bytes ht hi hz hsize hby hzs hsz v n xs hown ad m c news hl ha h1 h63 hbytes
  unfold Oper.wp execOp
  simp only [ho, resolve, invoke, builtin, Sem.run_bind, Sem.run_pure, Result.andThen_ok, List.map_toArray, List.map_cons, List.map_nil, hs, hx, hr]
  exact h v' w' h2 h3 h4
end
end Go.Proofs.YtffjleceogablaaDoor
namespace Go.Proofs.YtffjleceogablaaDoor
open Go.RowKit Go.WideShapes
set_option maxRecDepth 100000

section
variable {α : Type} {f : α → List Value} {n : Nat} {E : TypeId} {w W y : World} {v v' : Value} {l : List α} {o : Obj}
theorem ownG_prefix (hf : ∀ x, (f x).length = n) (hn : 0 < n) {g N m c : Nat} {k : List α} (h : w.ownsRow 0 E n (.slice (some ⟨g, 0, none⟩) N c) m (cellsG f (l ++ k))) : w.ownsRow 0 E n (.slice (some ⟨g, 0, none⟩) l.length c) l.length (cellsG f l) := by
  refine ⟨cellsG_length hf l, ?_⟩
  have hlen := h.1
  rw [cellsG_append, List.length_append, cellsG_length hf] at hlen
  rcases h.2 with ⟨e, _⟩ | ⟨g', cap, cur, e, hb, hg, hnc, hcm, hcs, htake⟩
  · cases e
  · injection e with e1 e2 e3
    injection e1 with e1
    injection e1 with e1
    subst e1 e3
    have hl : l.length * n ≤ m * n := by omega
    have hln : l.length ≤ c := Nat.le_trans (Nat.le_of_mul_le_mul_right hl hn) hnc
    refine .inr ⟨g, c, cur, rfl, hb, hg, hln, hcm, hcs, ?_⟩
    have h1 := congrArg (List.take (l.length * n)) htake
    rw [List.take_take, Nat.min_eq_left hl, cellsG_append] at h1
    rw [h1, ← cellsG_length hf l, List.take_left]
theorem NewG.turn {w2 : World} {S : Nat → Prop} (h : NewG f n E w W v l) (q : Keeps S W w2) (h1 : ∀ k, S k → w.heap.size ≤ k) (h2 : ∀ k, S k → v.ownBlock ≠ some k) : NewG f n E w w2 v l :=
  ⟨ownsRow_kept h.own q (fun k e s => h2 k s e), h.new, Keeps.trans h.qt q (fun i hi s => by have := h1 i s; omega)⟩
theorem NewG.grow (h : NewG f n E w W v l) {z : α} (own : y.ownsRow 0 E n v' (l.length + 1) (cellsG f l ++ f z)) (gr : (W.alloc o).grownBy y v.ownBlock) (la : Later (W.alloc o) v.ownBlock v'.ownBlock) :
    NewG f n E w y v' (l ++ [z]) ∧ Keeps (fun k => v.ownBlock = some k) W y :=
  ⟨ownG_more h.new (Qt.trans h.qt ((Qt.refl W).alloc o)) (by simp) (by rw [cellsG_append, cellsG_one]) own gr la, Keeps.grown ((Keeps.refl _ W).alloc o) gr (fun j _ e => e.symm)⟩
theorem NewG.growQ {W1 : World} (h : NewG f n E w W v l) (q : Qt W W1) {z : α} (own : y.ownsRow 0 E n v' (l.length + 1) (cellsG f l ++ f z)) (gr : W1.grownBy y v.ownBlock) (la : Later W1 v.ownBlock v'.ownBlock) :
    NewG f n E w y v' (l ++ [z]) ∧ Keeps (fun k => v.ownBlock = some k) W y :=
  ⟨ownG_more h.new (Qt.trans h.qt q) (by simp) (by rw [cellsG_append, cellsG_one]) own gr la, Keeps.grown (q.mono (fun _ _ e => e.elim)) gr (fun j _ e => e.symm)⟩
end
section
variable {w W y : World} {v' : Value} {l : List Tb.R} {o : Obj} {g N c i : Nat}
theorem newR_set (h : NewG rowC 2 64 w W (.slice (some ⟨g, 0, none⟩) N c) l) (hi : i < l.length) (r : Tb.R) :
    NewG rowC 2 64 w ((W.setCell ⟨g, i * 2, none⟩ (strV r.1)).setCell ⟨g, i * 2 + 1, none⟩ (strV r.2)) (.slice (some ⟨g, 0, none⟩) N c) (l.set i r) :=
  ⟨own_setR h.own hi r, h.new, keeps_set2 h.qt (fun hlt => by have := h.new g rfl; omega) i _ _⟩
theorem newR_val (h : NewG rowC 2 64 w W (.slice (some ⟨g, 0, none⟩) N c) l) {r : Tb.R} (hi : l[i]? = some r) (x : Tb.Txt) :
    NewG rowC 2 64 w (W.setCell ⟨g, i * 2 + 1, none⟩ (strV x)) (.slice (some ⟨g, 0, none⟩) N c) (l.set i (r.1, x)) := by
  refine ⟨?_, h.new, Keeps.setCell (p := ⟨g, i * 2 + 1, none⟩) h.qt (fun hlt => by have := h.new g rfl; simp only at hlt; omega) _⟩
  obtain ⟨a, c', e⟩ := ownG_shape h.own
  injection e with e1 e2 e3
  subst e2
  rw [List.length_set]
  exact ownG_set rowC_len h.own hi (j := 1) (by decide) rfl
/-- A row taken out. -/
theorem newR_cut {x : World} (h : NewG rowC 2 64 w W (.slice (some ⟨g, 0, none⟩) N c) l) {m : Nat} (q : Qt W x) (hm : m = (l.take i ++ l.drop (i + 1)).length) (own : y.ownsRow 0 64 2 v' m (cellsG rowC (l.take i) ++ cellsG rowC (l.drop (i + 1))))
    (gr : x.grownBy y (some g)) (la : Later x (some g) v'.ownBlock) : NewG rowC 2 64 w y v' (l.take i ++ l.drop (i + 1)) :=
  ownG_more (v := .slice (some ⟨g, 0, none⟩) i c) (fun k e => h.new k e) (Qt.trans h.qt q) hm (by rw [cellsG_append]) own gr la
theorem news_dropG (h : W.ownsRow 0 64 2 (.slice (some ⟨g, 0, none⟩) N c) l.length (cellsG rowC l)) (k : Nat) (hc : l.length ≤ c) : cellsG rowC (l.drop k) ≠ [] → ∃ p, (if c = k then some (⟨g, 0, none⟩ : Addr) else (some (⟨g, 0, none⟩ : Addr)).map (·.add (k * 2))) = some p ∧ ∀ (j : Nat) (u : Value), (cellsG rowC (l.drop k))[j]? = some u → W.cell? (p.add j) = some u := by
  intro hne
  have hk : k < l.length := by
    rcases Nat.lt_or_ge k l.length with e | e
    · exact e
    · rw [List.drop_eq_nil_of_le e] at hne
      exact absurd rfl hne
  rw [if_neg (by omega), Option.map_some, add_plain, Nat.zero_add]
  refine ⟨_, rfl, fun j u hj => ?_⟩
  rw [add_plain]
  obtain ⟨x, h1, h2⟩ := cellsG_at rowC_len (by decide) hj
  rw [List.getElem?_drop] at h1
  have := ownG_cell1 rowC_len h h1 h2
  rwa [show (k + j / 2) * 2 + j % 2 = k * 2 + j by rw [Nat.add_mul, Nat.add_assoc, Nat.div_add_mod']] at this
end
end Go.Proofs.YtffjleceogablaaDoor
