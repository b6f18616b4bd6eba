/-
  WireWrites: a Writer and the bytes that the document says, side by side.
-/
import Derived.Test.YtilhkbohemghlaaDoorPut7
import Derived.Test.YtilhkbohemghlaaDoorScript
namespace Go.Proofs.YtilhkbohemghlaaDoor
open Go.ChangeShapes Go.WideShapes Go.ChangeAt Go.RowKit
set_option maxRecDepth 100000

/-- A Writer in block b, and a []byte variable in block bx that holds the same bytes; all of their blocks are F's. -/
structure Side (b bx : Nat) (r : Option Nat) (v : Value) (l : List UInt8) (F : Nat → Prop) (w : World) : Prop where
  wr : Wr b r l w
  blk : w.heap[bx]? = some (.cells #[v] 26 (0, 0))
  own : w.ownsRowF 0 5 1 v l.length (Lib.byteCells l)
  n1 : bx ≠ b
  n2 : r ≠ some bx
  n3 : v.ownBlock ≠ some b
  n4 : v.ownBlock ≠ some bx
  n5 : ∀ k, v.ownBlock = some k → r ≠ some k
  f1 : F b
  f2 : F bx
  f3 : ∀ k, r = some k → F k
  f4 : ∀ k, v.ownBlock = some k → F k

theorem Side.kept {b bx : Nat} {r : Option Nat} {v : Value} {l : List UInt8} {F S : Nat → Prop} {w w' : World} (h : Side b bx r v l F w) (k : Keeps S w w') (hS : ∀ j, F j → ¬ S j) : Side b bx r v l F w' :=
  ⟨h.wr.kept k (hS _ h.f1) (fun j e => hS j (h.f3 j e)), by rw [k.block bx (lt_of_block h.blk) (hS _ h.f2)]; exact h.blk, ownsRowF_kept h.own k (fun j e => hS j (h.f4 j e)), h.n1, h.n2, h.n3, h.n4, h.n5, h.f1, h.f2, h.f3, h.f4⟩

theorem Side.lt {b bx : Nat} {r : Option Nat} {v : Value} {l : List UInt8} {F : Nat → Prop} {w : World} (h : Side b bx r v l F w) {k : Nat} (e : v.ownBlock = some k) : k < w.heap.size := ownsRowF_lt h.own e

/-- Behind the Writer's call. -/
structure Mid (b bx : Nat) (r1 : Option Nat) (v : Value) (l y : List UInt8) (F : Nat → Prop) (wr w1 : World) : Prop where
  hw : Wr b r1 (l ++ y) w1
  blk : w1.heap[bx]? = some (.cells #[v] 26 (0, 0))
  own : w1.ownsRowF 0 5 1 v l.length (Lib.byteCells l)
  keeps : Keeps F wr w1
  n2 : r1 ≠ some bx
  n5 : ∀ k, v.ownBlock = some k → r1 ≠ some k
  f3 : ∀ k, r1 = some k → F k ∨ wr.heap.size ≤ k

theorem Side.mid {b bx : Nat} {r : Option Nat} {v : Value} {l y : List UInt8} {F : Nat → Prop} {wr W w1 : World} (h : Side b bx r v l F wr) (k1 : Keeps (fun _ => False) wr W) (hw : Wrote b r (l ++ y) W w1) : ∃ r1, Mid b bx r1 v l y F wr w1 := by
  have h1 := h.kept k1 (fun _ _ e => e)
  obtain ⟨r1, hw1, hk⟩ := hw
  have hs := k1.size
  refine ⟨r1, hw1, ?_, ?_, (k1.mono (T := F) (fun _ _ e => e.elim)).trans hk.keeps ?_, ?_, ?_, ?_⟩
  · rw [hk.keeps.block bx (lt_of_block h1.blk) (fun e => by rcases e with e | e; exact h.n1 e; exact h.n2 e.symm)]
    exact h1.blk
  · exact ownsRowF_kept h1.own hk.keeps (fun j e q => by rcases q with q | q; exact h.n3 (q ▸ e); exact h.n5 j e q.symm)
  · intro i _ e
    rcases e with e | e
    · exact e ▸ h.f1
    · exact h.f3 i e.symm
  · rcases hk.later with e | ⟨g, e, hg⟩
    · rw [e]; exact h.n2
    · rw [e]; intro q; injection q with q; have := lt_of_block h1.blk; omega
  · intro k e
    rcases hk.later with q | ⟨g, q, hg⟩
    · rw [q]; exact h.n5 k e
    · rw [q]; intro x; injection x with x; have := h1.lt e; omega
  · intro k e
    rcases hk.later with q | ⟨g, q, hg⟩
    · exact .inl (h.f3 k (q ▸ e))
    · rw [q] at e; injection e with e; exact .inr (by omega)

/-- Behind the append of the document's bytes, and the store. -/
theorem Mid.done {b bx : Nat} {r r1 : Option Nat} {v v' : Value} {l y : List UInt8} {F : Nat → Prop} {wr w1 w2 : World} (hs : Side b bx r v l F wr) (h : Mid b bx r1 v l y F wr w1) (hg : w1.grownBy w2 v.ownBlock) (hl : Later w1 v.ownBlock v'.ownBlock)
    (hown : w2.ownsRowF 0 5 1 v' (l.length + (⟨y.toArray⟩ : ByteArray).size) (Lib.byteCells l ++ Lib.strCells ⟨y.toArray⟩)) :
    Side b bx r1 v' (l ++ y) (fun j => F j ∨ (wr.heap.size ≤ j ∧ j < w2.heap.size)) (w2.setCell ⟨bx, 0, none⟩ v') ∧ Keeps F wr (w2.setCell ⟨bx, 0, none⟩ v') := by
  have hz := h.keeps.size
  have hb1 := h.hw.lt
  have hbx := lt_of_block h.blk
  have K2 : Keeps (fun k => some k = v.ownBlock) w1 w2 := Keeps.grown (Keeps.refl _ _) hg (fun j _ e => e)
  have hb2 : w2.heap[bx]? = some (.cells #[v] 26 (0, 0)) := by rw [K2.block bx hbx (fun e => hs.n4 e.symm)]; exact h.blk
  have hset : (w2.setCell ⟨bx, 0, none⟩ v').heap[bx]? = some (.cells #[v'] 26 (0, 0)) := by
    rw [setCell_eq_setRow w2 bx 0 #[v] _ (0, 0) v' hb2]
    exact setRow_heap w2 bx _ _ _ _ hb2
  have hne : ∀ k, v'.ownBlock = some k → k ≠ b ∧ k ≠ bx ∧ r1 ≠ some k := by
    intro k e
    rcases hl with q | ⟨g, q, hg'⟩
    · rw [q] at e
      exact ⟨fun x => hs.n3 (x ▸ e), fun x => hs.n4 (x ▸ e), h.n5 k e⟩
    · rw [q] at e; injection e with e
      exact ⟨by omega, by omega, fun x => by have := h.hw.rlt x; omega⟩
  have K3 : Keeps (fun k => k = bx) w2 (w2.setCell ⟨bx, 0, none⟩ v') := (Keeps.refl (fun k => k = bx) w2).setCell (p := ⟨bx, 0, none⟩) (fun _ => rfl) v'
  have hw2 := h.hw.kept K2 (fun e => hs.n3 e.symm) (fun k e q => h.n5 k q.symm e)
  refine ⟨⟨hw2.kept K3 (fun e => hs.n1 e.symm) (fun k e q => h.n2 (q ▸ e)), hset, ?_, hs.n1, h.n2, fun e => (hne _ e).1 rfl, fun e => (hne _ e).2.1 rfl, fun k e => (hne k e).2.2, .inl hs.f1, .inl hs.f2, fun k e => (h.f3 k e).imp id (fun x => ⟨x, by have := h.hw.rlt e; have := K2.size; omega⟩), ?_⟩, ?_⟩
  · have h5 := ownsRowF_kept hown K3 (fun k e q => (hne k e).2.1 q)
    rw [strCells_eq] at h5
    rw [List.length_append, Lib.byteCells_append]
    exact h5
  · intro k e
    rcases hl with q | ⟨g, q, hg'⟩
    · exact .inl (hs.f4 k (q ▸ e))
    · have := ownsRowF_lt hown e
      rw [q] at e; injection e with e; exact .inr (by omega)
  · exact (h.keeps.trans K2 (fun i _ e => hs.f4 i e.symm)).trans K3 (fun i _ e => e ▸ hs.f2)

theorem Mid.slot {b bx : Nat} {r r1 : Option Nat} {v : Value} {l y : List UInt8} {F : Nat → Prop} {wr w1 w2 : World} (hs : Side b bx r v l F wr) (h : Mid b bx r1 v l y F wr w1) (hg : w1.grownBy w2 v.ownBlock) : w2.cell? ⟨bx, 0, none⟩ = some v ∧ w2.frozen? ⟨bx, 0, none⟩ = false := by
  have K2 : Keeps (fun k => some k = v.ownBlock) w1 w2 := Keeps.grown (Keeps.refl _ _) hg (fun j _ e => e)
  have hb2 : w2.heap[bx]? = some (.cells #[v] 26 (0, 0)) := by rw [K2.block bx (lt_of_block h.blk) (fun e => hs.n4 e.symm)]; exact h.blk
  exact ⟨by rw [Lib.cell_of_heap hb2]; rfl, Lib.frozen_of_heap hb2 0⟩
theorem Mid.cell {b bx : Nat} {r1 : Option Nat} {v : Value} {l y : List UInt8} {F : Nat → Prop} {wr w1 : World} (h : Mid b bx r1 v l y F wr w1) : w1.cell? ⟨bx, 0, none⟩ = some v := by rw [Lib.cell_of_heap h.blk]; rfl

/-- What a Writer's Out leaves (a frozen range): everything stands. -/
theorem Side.out {b bx : Nat} {r : Option Nat} {v : Value} {l : List UInt8} {F : Nat → Prop} {w w' : World} (h : Side b bx r v l F w) (hw : Wr b r l w') (k : Keeps (fun k => some k = r) w w') : Side b bx r v l F w' ∧ Keeps F w w' :=
  ⟨⟨hw, by rw [k.block bx (lt_of_block h.blk) (fun e => h.n2 e.symm)]; exact h.blk, ownsRowF_kept h.own k (fun j e q => h.n5 j e q.symm), h.n1, h.n2, h.n3, h.n4, h.n5, h.f1, h.f2, h.f3, h.f4⟩, k.mono (fun i _ e => h.f3 i e.symm)⟩

theorem Side.shape {b bx : Nat} {r : Option Nat} {v : Value} {l : List UInt8} {F : Nat → Prop} {w : World} (h : Side b bx r v l F w) : ∃ a c, v = .slice a l.length c := by
  rcases h.own.2 with ⟨rfl, h0⟩ | ⟨g, cap, cur, fz, rfl, _⟩
  · rw [h0]; exact ⟨_, _, rfl⟩
  · exact ⟨_, _, rfl⟩
theorem Side.shapeN {b bx : Nat} {r : Option Nat} {v : Value} {l : List UInt8} {F : Nat → Prop} {w : World} (h : Side b bx r v l F w) : ∃ a c n, n = l.length ∧ v = .slice a n c := by
  obtain ⟨a, c, e⟩ := h.shape
  exact ⟨a, c, _, rfl, e⟩
theorem Side.drewN {b bx : Nat} {r : Option Nat} {v : Value} {l : List UInt8} {F : Nat → Prop} {w : World} (h : Side b bx r v l F w) (n : Nat) : Side b bx r v l F (w.drewN n) := h.kept (S := fun _ => False) ((Keeps.refl _ _).drewN n) (fun _ _ e => e)
theorem Side.cell {b bx : Nat} {r : Option Nat} {v : Value} {l : List UInt8} {F : Nat → Prop} {w : World} (h : Side b bx r v l F w) : w.cell? ⟨bx, 0, none⟩ = some v := by rw [Lib.cell_of_heap h.blk]; rfl
theorem Side.conv {b bx : Nat} {r : Option Nat} {v : Value} {l : List UInt8} {F : Nat → Prop} {w : World} (h : Side b bx r v l F w) : (convert 26 9 v).run Tryd.prog w = .ok (.string ⟨l.toArray⟩) w := own_conv h.own
theorem Side.drew {b bx : Nat} {r : Option Nat} {v : Value} {l : List UInt8} {F : Nat → Prop} {w : World} (h : Side b bx r v l F w) : Side b bx r v l F w.drew := h.kept (S := fun _ => False) (Keeps.refl _ _).drew (fun _ _ e => e)

/-- Both sides, at the end: nothing turns but frozen ranges. -/
structure OutsAt (ba bx bb b2 : Nat) (ra rb : Option Nat) (va vb : Value) (la lb : List UInt8) (F G : Nat → Prop) (w W : World) : Prop where
  a : Side ba bx ra va la F W
  b : Side bb b2 rb vb lb G W
  keeps : Keeps (fun k => F k ∨ G k) w W

section
variable {ba bx bb b2 : Nat} {ra rb : Option Nat} {va vb : Value} {la lb : List UInt8} {F G : Nat → Prop} {w W : World}
theorem OutsAt.drew (h : OutsAt ba bx bb b2 ra rb va vb la lb F G w W) : OutsAt ba bx bb b2 ra rb va vb la lb F G w W.drew := ⟨h.a.drew, h.b.drew, h.keeps.drew⟩
theorem OutsAt.outA (h : OutsAt ba bx bb b2 ra rb va vb la lb F G w W) (hd : ∀ j, F j → G j → False) : Calls Tryd.prog 13 #[.pointer (some ⟨ba, 0, none⟩)] W fun e w' => e = .returned (.string ⟨la.toArray⟩) ∧ OutsAt ba bx bb b2 ra rb va vb la lb F G w w' :=
  (wout_any _ _ _ _ h.a.wr).mono fun e w' ⟨h1, h2, h3⟩ => ⟨h1, (h.a.out h2 h3).1, h.b.kept (h.a.out h2 h3).2 (fun j g f => hd j f g), h.keeps.trans (h.a.out h2 h3).2 (fun _ _ f => .inl f)⟩
theorem OutsAt.outB (h : OutsAt ba bx bb b2 ra rb va vb la lb F G w W) (hd : ∀ j, F j → G j → False) : Calls Tryd.prog 13 #[.pointer (some ⟨bb, 0, none⟩)] W fun e w' => e = .returned (.string ⟨lb.toArray⟩) ∧ OutsAt ba bx bb b2 ra rb va vb la lb F G w w' :=
  (wout_any _ _ _ _ h.b.wr).mono fun e w' ⟨h1, h2, h3⟩ => ⟨h1, h.a.kept (h.b.out h2 h3).2 (fun j f g => hd j f g), (h.b.out h2 h3).1, h.keeps.trans (h.b.out h2 h3).2 (fun _ _ f => .inr f)⟩
theorem OutsAt.lenA (h : OutsAt ba bx bb b2 ra rb va vb la lb F G w W) {n : Nat} (hn : n = la.length) : Calls Tryd.prog 12 #[.pointer (some ⟨ba, 0, none⟩)] W fun e w' => e = .returned (.int .i64 n) ∧ W = w' := hn ▸ wlen_any _ _ _ _ h.a.wr
theorem OutsAt.lenB (h : OutsAt ba bx bb b2 ra rb va vb la lb F G w W) {n : Nat} (hn : n = lb.length) : Calls Tryd.prog 12 #[.pointer (some ⟨bb, 0, none⟩)] W fun e w' => e = .returned (.int .i64 n) ∧ W = w' := hn ▸ wlen_any _ _ _ _ h.b.wr
end

/-- The bytes of one Writer's Ops. -/
def encsOf (s : Bool) (os : List OpD) : List UInt8 := encs (os.filter fun o => o.second == s)
theorem encsOf_take {os : List OpD} {k : Nat} {o : OpD} (s : Bool) (h : os[k]? = some o) : encsOf s (os.take (k + 1)) = encsOf s (os.take k) ++ if o.second == s then (o.enc).getD [] else [] := by
  unfold encsOf
  rw [List.take_add_one, h, List.filter_append, encs_append]
  congr 1
  by_cases e : o.second == s
  · rw [if_pos e]; simp [List.filter, e, encs]
  · rw [if_neg e]; simp [List.filter, e, encs]
theorem encs_filter_le (p : OpD → Bool) : ∀ os : List OpD, (encs (os.filter p)).length ≤ (encs os).length
  | [] => by simp [encs]
  | o :: r => by
    have h := encs_filter_le p r
    by_cases e : p o
    · simp only [List.filter_cons, e, if_true, encs, List.length_append]; omega
    · simp only [List.filter_cons, e, encs, List.length_append]; simp; omega
theorem encsOf_le (s : Bool) (os : List OpD) (k : Nat) : (encsOf s (os.take k)).length ≤ (encs os).length := by
  have h1 := encs_filter_le (fun o => o.second == s) (os.take k)
  have h2 : (encs (os.take k)).length ≤ (encs os).length := by
    conv => rhs; rw [← List.take_append_drop k os]
    rw [encs_append, List.length_append]
    omega
  unfold encsOf
  omega

/-- The loop: k Ops done. -/
def WritesAt (os : List OpD) (ba bb bx b2 : Nat) (w : World) (i : Value) (wr : World) : Prop :=
  ∃ (k : Nat) (ra rb : Option Nat) (va vb : Value) (F G : Nat → Prop), k ≤ os.length ∧ i = .int .i64 k ∧ Side ba bx ra va (encsOf false (os.take k)) F wr ∧ Side bb b2 rb vb (encsOf true (os.take k)) G wr ∧
    (∀ j, F j → w.heap.size ≤ j ∧ j < wr.heap.size) ∧ (∀ j, G j → w.heap.size ≤ j ∧ j < wr.heap.size) ∧ (∀ j, F j → G j → False) ∧ Since w.heap.size w wr

theorem WritesAt.left {os : List OpD} {ba bb bx b2 k : Nat} {ra rb r1 : Option Nat} {va vb v' : Value} {F G : Nat → Prop} {y : List UInt8} {w wr W w2 w' : World} (hk : k < os.length) (hA : Side ba bx ra va (encsOf false (os.take k)) F wr) (hB : Side bb b2 rb vb (encsOf true (os.take k)) G wr)
    (hF : ∀ j, F j → w.heap.size ≤ j ∧ j < wr.heap.size) (hG : ∀ j, G j → w.heap.size ≤ j ∧ j < wr.heap.size) (hFG : ∀ j, F j → G j → False) (hS : Since w.heap.size w wr) (hW : Keeps (fun _ => False) wr W)
    (h1 : encsOf false (os.take (k + 1)) = encsOf false (os.take k) ++ y) (h2 : encsOf true (os.take (k + 1)) = encsOf true (os.take k))
    (hs : Side ba bx r1 v' (encsOf false (os.take k) ++ y) (fun j => F j ∨ (W.heap.size ≤ j ∧ j < w2.heap.size)) w') (hz : w2.heap.size ≤ w'.heap.size) (kk : Keeps F W w') : WritesAt os ba bb bx b2 w (.int .i64 ((k + 1 : Nat) : Int)) w' := by
  have z1 := hW.size
  have z2 := kk.size
  have z3 := hS.size
  exact ⟨k + 1, r1, rb, v', vb, _, G, hk, rfl, by rw [h1]; exact hs, by rw [h2]; exact (hB.kept hW (fun _ _ e => e)).kept kk (fun j g f => hFG j f g),
    fun j h => by rcases h with h | h; have := hF j h; omega; omega, fun j h => by have := hG j h; omega, fun j h g => by rcases h with h | h; exact hFG j h g; have := hG j g; omega,
    (hS.step hW (fun _ e => e.elim)).step kk (fun j f => (hF j f).1)⟩

theorem WritesAt.right {os : List OpD} {ba bb bx b2 k : Nat} {ra rb r1 : Option Nat} {va vb v' : Value} {F G : Nat → Prop} {y : List UInt8} {w wr W w2 w' : World} (hk : k < os.length) (hA : Side ba bx ra va (encsOf false (os.take k)) F wr) (hB : Side bb b2 rb vb (encsOf true (os.take k)) G wr)
    (hF : ∀ j, F j → w.heap.size ≤ j ∧ j < wr.heap.size) (hG : ∀ j, G j → w.heap.size ≤ j ∧ j < wr.heap.size) (hFG : ∀ j, F j → G j → False) (hS : Since w.heap.size w wr) (hW : Keeps (fun _ => False) wr W)
    (h1 : encsOf false (os.take (k + 1)) = encsOf false (os.take k)) (h2 : encsOf true (os.take (k + 1)) = encsOf true (os.take k) ++ y)
    (hs : Side bb b2 r1 v' (encsOf true (os.take k) ++ y) (fun j => G j ∨ (W.heap.size ≤ j ∧ j < w2.heap.size)) w') (hz : w2.heap.size ≤ w'.heap.size) (kk : Keeps G W w') : WritesAt os ba bb bx b2 w (.int .i64 ((k + 1 : Nat) : Int)) w' := by
  have z1 := hW.size
  have z2 := kk.size
  have z3 := hS.size
  exact ⟨k + 1, ra, r1, va, v', F, _, hk, rfl, by rw [h1]; exact (hA.kept hW (fun _ _ e => e)).kept kk (fun j g f => hFG j g f), by rw [h2]; exact hs,
    fun j h => by have := hF j h; omega, fun j h => by rcases h with h | h; have := hG j h; omega; omega, fun j g h => by rcases h with h | h; exact hFG j g h; have := hF j g; omega,
    (hS.step hW (fun _ e => e.elim)).step kk (fun j f => (hG j f).1)⟩
end Go.Proofs.YtilhkbohemghlaaDoor
