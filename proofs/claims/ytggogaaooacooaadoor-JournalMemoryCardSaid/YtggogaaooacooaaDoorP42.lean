/-
  The contract of remitlaw10.lives: a version's life and its crash.
  What the loops of remitlaw10.JournalMemory keep.
-/
import Derived.Test.YtggogaaooacooaaDoorP41
import Derived.Test.YtggogaaooacooaaDoorP08
import Derived.Test.YtggogaaooacooaaDoorP32
import Derived.Test.YtggogaaooacooaaDoorP36
import Derived.Test.YtggogaaooacooaaDoorP31
import Derived.Test.YtggogaaooacooaaDoorP09
import Derived.Test.YtggogaaooacooaaDoorP40
namespace Go.Proofs.YtggogaaooacooaaDoor
open Go.RowKit Go.WideShapes
set_option maxRecDepth 100000

/-- A []int that came in. -/
def Nums (W : World) (v : Value) (l : List Int) : Prop := ∃ a c, v = .slice a l.length c ∧ ∀ (k : Nat) (x : Int), l[k]? = some x → ∃ g o, a = some ⟨g, o, none⟩ ∧ W.cell? ⟨g, o + k, none⟩ = some (.int .i64 x)
/-- A Life of remitlaw10. -/
structure LfV where
  more : Int
  sv : Value
  sizes : List Int
  yv : Value
  syncs : List Bool
  arm : Int
  kv : Value
  f : FT
def LfV.list (o : LfV) : List Value := [.int .i64 o.more, o.sv, o.yv, .int .i64 o.arm, o.kv, .int .i64 o.f.torn, .int .i64 o.f.bytes]
structure LfV.Ok (W : World) (o : LfV) : Prop where
  sizes : Nums W o.sv o.sizes
  slen : o.sizes.length ≤ 140737488355328
  syncs : Bools W o.yv o.syncs
  ylen : o.syncs.length ≤ 140737488355328
  arm : o.arm ≤ 9223372036854775807
  kept : Bools W o.kv o.f.kept

/-! ### A row of the law's own -/
def RowT (W : World) (v : Value) (l : List (List UInt8)) : Prop := W.ownsRow 0 9 1 v l.length (l.map strV)
theorem rowT_nil (W : World) : RowT W (.slice none 0 0) [] := World.ownsRow_nil W 0 _ 1
theorem RowT.shape {W : World} {v : Value} {l : List (List UInt8)} (h : RowT W v l) : ∃ a c, v = .slice a l.length c ∧ l.length ≤ c ∧ (a = none ∨ ∃ g, a = some ⟨g, 0, none⟩) := by
  rcases h.2 with ⟨e, h0⟩ | ⟨g, cap, cur, e, _, _, hl, _⟩
  · exact ⟨none, 0, by rw [e, h0], by omega, .inl rfl⟩
  · exact ⟨_, _, e, hl, .inr ⟨g, rfl⟩⟩
theorem RowT.texts {W : World} {v : Value} {l : List (List UInt8)} (h : RowT W v l) : TextsIn W v l := by
  rcases h.2 with ⟨e, h0⟩ | ⟨g, cap, cur, e, _⟩
  · have h1 : l = [] := List.length_eq_zero_iff.1 h0
    subst h1
    exact ⟨0, 0, 0, .inr ⟨e, rfl⟩, fun k t hk => by simp at hk⟩
  · subst e
    refine ⟨g, 0, cap, .inl rfl, fun k t hk => ?_⟩
    have hx : (l.map strV)[k]? = some (strV t) := by rw [List.getElem?_map, hk]; rfl
    have hc := h.cells (g := g) rfl k (strV t) hx
    have e : ((⟨g, 0, none⟩ : Addr).add k) = ⟨g, k, none⟩ := by unfold Addr.add; split <;> simp_all
    rw [e] at hc
    rw [Nat.zero_add]
    exact hc
theorem TextsIn.take {W : World} {a : Option Addr} {n c : Nat} {l : List (List UInt8)} (h : TextsIn W (.slice a n c) l) {m : Nat} (hm : m ≤ l.length) : TextsIn W (.slice a m c) (l.take m) := by
  obtain ⟨g, off, c', h1 | ⟨h1, rfl⟩, h2⟩ := h
  · injection h1 with e1 e2 e3
    subst e1 e3
    refine ⟨g, off, c, .inl (by rw [List.length_take, Nat.min_eq_left hm]), fun k t hk => h2 k t ?_⟩
    rw [List.getElem?_take] at hk
    split at hk
    · exact hk
    · cases hk
  · injection h1 with e1 e2 e3
    subst e1 e3
    obtain rfl : m = 0 := by simpa using hm
    exact ⟨0, 0, c, .inr ⟨by simp, by simp⟩, fun k t hk => by simp at hk⟩
theorem RowT.kept {S : Nat → Prop} {W W' : World} {v : Value} {l : List (List UInt8)} (h : RowT W v l) (K : Keeps S W W') (hS : ∀ g, v.ownBlock = some g → ¬ S g) : RowT W' v l := ownsRow_kept h K hS
theorem sizeOf_str (P : Program) (h : (P.info? (P.elem 66)).map (·.size) = some 1) (W : World) : (sizeOf (P.elem 66)).run P W = .ok 1 W := by
  obtain ⟨i, hi, hs⟩ := Option.map_eq_some_iff.1 h
  simp [sizeOf, typeInfo, hi, hs]
theorem slice_row (a : Option Addr) (ha : a = none ∨ ∃ g, a = some ⟨g, 0, none⟩) (n c m : Nat) (hm : m ≤ c) (h0 : a = none → m = 0) (W : World) : (Instr.slice 66 (.slice a n c) none (some (.int .i64 (m : Int))) none).run Tryd.prog W = .ok (.slice a m c) W := by
  have h := run_slice_h (P := Tryd.prog) (w := W) 66 a n c (by kernel_rfl) .i64 (m : Int) (by omega) (by omega)
  rw [h, sizeOf_str Tryd.prog (by kernel_rfl)]
  simp only [Result.andThen_ok, Int.toNat_natCast]
  rcases ha with rfl | ⟨g, rfl⟩
  · simp [sliced]
  · simp [sliced, Addr.add]
/-- The disk behind a step of a row. -/
theorem dk_row {w0 w w' : World} {G G' : Nat → Prop} {b : Nat} {d : DS} (h : DK G w0 w b d) (hG : ∀ k, G k → w0.heap.size ≤ k) (K : Keeps G w w') (hG' : ∀ k, G' k → G k ∨ w.heap.size ≤ k) : DK G' w0 w' b d := by
  have hz := h.since.size
  have h1 : DK (fun k => G k ∨ G' k) w0 w b d := h.more (fun k e => by
    rcases e with e | e
    · exact .inl e
    · exact hG' k e)
  have h2 := h1.turn (fun k e => by
    rcases e with e | e
    · exact hG k e
    · rcases hG' k e with r | r
      · exact hG k r
      · omega) (K.mono (fun _ _ e => .inl e))
  exact h2.more (fun k e => .inl (.inr e))
/-- What is the law's own: the journal, the box, the row. -/
def GV (q lb : Nat) (v : Value) (k : Nat) : Prop := k = q ∨ k = lb ∨ v.ownBlock = some k
/-- The journal of a version. -/
def jOf (i n v life u : Nat) : J.JS := ⟨i, n, v, u, false, life⟩

/-- What the loop keeps. -/
structure LvS (ad : Nat → Addr) (w0 wr : World) (b q lb B : Nat) (cells : Array Value) (D : List (List UInt8)) (i n v life m : Nat) (av : Value) (all : List (List UInt8)) (s : Nat) (d : DS) : Prop where
  row : RowT wr av all
  new : ∀ g, av.ownBlock = some g → B ≤ g
  alive : J.Alive D all s (jOf i n v life (J.total all)) d
  cnt : J.Cnt m all d
  dk : DK (GV q lb av) w0 wr b d
  cj : CJ wr q b (jOf i n v life (J.total all))
  box : wr.heap[lb]? = some (.cells cells 64 (0, 0))
  big : B ≤ wr.heap.size
def LvAt (ad : Nat → Addr) (w0 : World) (b q lb B : Nat) (cells : Array Value) (D : List (List UInt8)) (i n v life m N : Nat) (av sv dv iv : Value) (wr : World) : Prop :=
  ∃ (k : Nat) (all : List (List UInt8)) (s : Nat) (d : DS), k ≤ N ∧ iv = .int .i64 k ∧ sv = .int .i64 s ∧ dv = .bool false ∧ LvS ad w0 wr b q lb B cells D i n v life m av all s d
/-- What a life leaves. -/
def LivesP (w0 : World) (b i n v m : Nat) (D : List (List UInt8)) (e : Ending) (w' : World) : Prop :=
  e = .returned (.bool true) ∧ ∃ d', DK (fun k => w'.heap.size ≤ k) w0 w' b d' ∧ J.Backs d'.dur i n v ∧ d'.FewM 0 (m + 64) ∧ d'.cr ≤ m + 1 ∧ d'.dur.length = D.length ∧ d'.ways = [] ∧ d'.off = false
section
variable {ad : Nat → Addr} {w0 wr W : World} {b q lb B : Nat} {cells : Array Value} {D : List (List UInt8)} {i n v life m s : Nat} {av : Value} {all : List (List UInt8)} {d : DS}
theorem GV.ge (hq : w0.heap.size ≤ q) (hl : w0.heap.size ≤ lb) (hB : w0.heap.size ≤ B) (hn : ∀ g, av.ownBlock = some g → B ≤ g) : ∀ k, GV q lb av k → w0.heap.size ≤ k := by
  rintro k (e | e | e)
  · omega
  · omega
  · have := hn k e; omega
theorem LvS.lt (h : LvS ad w0 wr b q lb B cells D i n v life m av all s d) : ∀ k, GV q lb av k → k < wr.heap.size := by
  rintro k (e | e | e)
  · rw [e]; exact h.cj.lt
  · rw [e]; exact lt_of_block h.box
  · exact ownsRow_lt h.row e
theorem LvS.qt (h : LvS ad w0 wr b q lb B cells D i n v life m av all s d) (k : Qt wr W) : LvS ad w0 W b q lb B cells D i n v life m av all s d :=
  ⟨h.row.kept k (fun _ _ e => e), h.new, h.alive, h.cnt, h.dk.qt k, h.cj.qt k, (k.block lb (lt_of_block h.box) (fun e => e)).trans h.box, Nat.le_trans h.big k.size⟩
/-- Behind a journal's call: what of the law's own stays. -/
theorem LvS.call (h : LvS ad w0 wr b q lb B cells D i n v life m av all s d) (hqB : q < B) (hqlb : lb ≠ q) (K : Keeps (fun k => k = q ∨ OutJ w0 (GV q lb av) k) wr W) : RowT W av all ∧ W.heap[lb]? = some (.cells cells 64 (0, 0)) := by
  refine ⟨h.row.kept K (fun g hg e => ?_), (K.block lb (lt_of_block h.box) (fun e => ?_)).trans h.box⟩
  · rcases e with e | e
    · have := h.new g hg; omega
    · exact e.2 (.inr (.inr hg))
  · rcases e with e | e
    · exact hqlb e
    · exact e.2 (.inr (.inl rfl))
theorem tail_dead {j : J.JS} {d : DS} (h : J.Fine j d) (t : FT) (v : List UInt8) : j.append (d.crashD t) v = (12, { j with dead := true }, d.crashD t) ∧ J.JS.sync { j with dead := true } (d.crashD t) = (12, { j with dead := true }, d.crashD t) := by
  have hl := h.life
  have hd : j.down (d.crashD t) = true := by
    unfold J.JS.down
    rw [decide_eq_true (show (d.crashD t).cr ≠ j.life by show d.cr + 1 ≠ j.life; omega)]
    simp
  refine ⟨if_pos hd, ?_⟩
  unfold J.JS.sync
  rw [if_pos (by unfold J.JS.down; rfl)]
end
/-- At a life's end, in memory. -/
structure LvE (ad : Nat → Addr) (w0 wr : World) (b q lb B : Nat) (cells : Array Value) (D : List (List UInt8)) (i n v m : Nat) (av : Value) (all : List (List UInt8)) (s : Nat) (j : J.JS) (d : DS) : Prop where
  row : RowT wr av all
  new : ∀ g, av.ownBlock = some g → B ≤ g
  ended : J.EndP D all s j d m
  fine : J.Fine j d
  dk : DK (GV q lb av) w0 wr b d
  cj : CJ wr q b j
  box : wr.heap[lb]? = some (.cells cells 64 (0, 0))
  pos : j.pos = i
  n : j.n = n
  ver : j.ver = v
section
variable {ad : Nat → Addr} {w0 wr W w5 w7 : World} {b q lb B : Nat} {cells : Array Value} {D : List (List UInt8)} {i n v life m s : Nat} {av v' : Value} {all : List (List UInt8)} {d : DS} {j : J.JS}
theorem LvE.lt (h : LvE ad w0 wr b q lb B cells D i n v m av all s j d) : ∀ k, GV q lb av k → k < wr.heap.size := by
  rintro k (e | e | e)
  · rw [e]; exact h.cj.lt
  · rw [e]; exact lt_of_block h.box
  · exact ownsRow_lt h.row e
theorem LvE.qt (h : LvE ad w0 wr b q lb B cells D i n v m av all s j d) (k : Qt wr W) : LvE ad w0 W b q lb B cells D i n v m av all s j d :=
  ⟨h.row.kept k (fun _ _ e => e), h.new, h.ended, h.fine, h.dk.qt k, h.cj.qt k, (k.block lb (lt_of_block h.box) (fun e => e)).trans h.box, h.pos, h.n, h.ver⟩
theorem LvS.fine (h : LvS ad w0 wr b q lb B cells D i n v life m av all s d) (h1 : 1 ≤ v) (h2 : v ≤ 1099511627776) : J.Fine (jOf i n v life (J.total all)) d := h.alive.fine h1 h2
theorem LvS.ended (h : LvS ad w0 wr b q lb B cells D i n v life m av all s d) (h1 : 1 ≤ v) (h2 : v ≤ 1099511627776) (hn : n ≤ 64) : LvE ad w0 wr b q lb B cells D i n v m av all s (jOf i n v life (J.total all)) d :=
  ⟨h.row, h.new, J.EndP.of_alive h.alive h.cnt hn, h.fine h1 h2, h.dk, h.cj, h.box, rfl, rfl, rfl⟩
/-- A journal's call that leaves the life going on. -/
theorem LvS.next {d2 : DS} {s2 : Nat} (h : LvS ad w0 wr b q lb B cells D i n v life m av all s d) (hqB : q < B) (hqlb : lb ≠ q) (K : Keeps (fun k => k = q ∨ OutJ w0 (GV q lb av) k) wr W) (hA : J.Alive D all s2 (jOf i n v life (J.total all)) d2) (hc : J.Cnt m all d2) (hd : DK (GV q lb av) w0 W b d2) (hj : CJ W q b (jOf i n v life (J.total all))) :
    LvS ad w0 W b q lb B cells D i n v life m av all s2 d2 := ⟨(h.call hqB hqlb K).1, h.new, hA, hc, hd, hj, (h.call hqB hqlb K).2, Nat.le_trans h.big K.size⟩
/-- The row with a text more: what lies where. -/
theorem row_more {t : List UInt8} (hqB : q < B) (hlB : lb < B) (h0 : w0.heap.size ≤ q) (h0l : w0.heap.size ≤ lb) (hB : B ≤ w5.heap.size) (hn : ∀ g, av.ownBlock = some g → B ≤ g) (hd : DK (GV q lb av) w0 w5 b d) (hj : CJ w5 q b j) (hb : w5.heap[lb]? = some (.cells cells 64 (0, 0))) (o : Obj)
    (hown : w7.ownsRow 0 9 1 v' (all.length + 1) (all.map strV ++ [strV t])) (hg : (w5.alloc o).grownBy w7 av.ownBlock) (hl : Later (w5.alloc o) av.ownBlock v'.ownBlock) :
    RowT w7 v' (all ++ [t]) ∧ (∀ g, v'.ownBlock = some g → B ≤ g) ∧ DK (GV q lb v') w0 w7 b d ∧ CJ w7 q b j ∧ w7.heap[lb]? = some (.cells cells 64 (0, 0)) ∧ B ≤ w7.heap.size := by
  have hz : w5.heap.size ≤ (w5.alloc o).heap.size := by simp
  have hnew : ∀ g, v'.ownBlock = some g → av.ownBlock = some g ∨ w5.heap.size ≤ g := fun g e => by
    rcases hl with r | ⟨x, r, hx⟩
    · exact .inl (r ▸ e)
    · rw [r] at e; injection e with e; subst e; exact .inr (by omega)
  have hn' : ∀ g, v'.ownBlock = some g → B ≤ g := fun g e => by
    rcases hnew g e with r | r
    · exact hn g r
    · omega
  have K : Keeps (fun k => av.ownBlock = some k) w5 w7 := Keeps.grown ((Keeps.refl _ w5).alloc o) hg (fun k _ e => e.symm)
  have hKq : ∀ k, k < B → ¬ (av.ownBlock = some k) := fun k hk e => by have := hn k e; omega
  refine ⟨?_, hn', ?_, hj.kept K (hKq q hqB), (K.block lb (lt_of_block hb) (hKq lb hlB)).trans hb, Nat.le_trans hB K.size⟩
  · unfold RowT
    rw [List.length_append, List.map_append]
    exact hown
  · refine dk_row hd ?_ (K.mono (fun k _ e => .inr (.inr e))) ?_
    · rintro k (e | e | e)
      · omega
      · omega
      · have := hn k e; omega
    · rintro k (e | e | e)
      · exact .inl (.inl e)
      · exact .inl (.inr (.inl e))
      · rcases hnew k e with r | r
        · exact .inl (.inr (.inr r))
        · exact .inr r
end
theorem lv_le {k s : Nat} (h : s ≤ k) : decide ((k : Int) < (s : Int)) = false := decide_eq_false (by omega)
theorem lv_gt {k s : Nat} (h : k ≤ s) : decide ((s : Int) < (k : Int)) = false := decide_eq_false (by omega)
theorem nums_at {W : World} {v : Value} {l : List Int} (h : Nums W v l) {k : Nat} (hk : k < l.length) : ∃ x g o c, v = .slice (some ⟨g, o, none⟩) l.length c ∧ W.cell? ⟨g, o + k, none⟩ = some (.int .i64 x) := by
  obtain ⟨a, c, rfl, hc⟩ := h
  obtain ⟨g, o, rfl, hx⟩ := hc k _ (List.getElem?_eq_getElem hk)
  exact ⟨_, g, o, c, rfl, hx⟩
theorem bools_at {W : World} {v : Value} {l : List Bool} (h : Bools W v l) {k : Nat} (hk : k < l.length) : ∃ x g o c, v = .slice (some ⟨g, o, none⟩) l.length c ∧ W.cell? ⟨g, o + k, none⟩ = some (.bool x) := by
  obtain ⟨a, c, rfl, hc⟩ := h
  obtain ⟨g, o, rfl, hx⟩ := hc k _ (List.getElem?_eq_getElem hk)
  exact ⟨_, g, o, c, rfl, hx⟩
theorem newsT1 (W : World) (R : ByteArray) : ∀ (j : Nat) (u : Value), [Value.string R][j]? = some u → (W.alloc (.cells #[.string R] 9)).cell? ((⟨W.heap.size, 0, none⟩ : Addr).add j) = some u := newsT W _
end Go.Proofs.YtggogaaooacooaaDoor
namespace Go.Proofs.YtggogaaooacooaaDoor
open Go.RowKit Go.WideShapes
set_option maxRecDepth 100000

/-! ### The records appended -/
/-- What the loop keeps: the journal in block q, the box of the records in block lb. -/
structure MmS (w0 wr : World) (b q lb : Nat) (D : List (List UInt8)) (all : List (List UInt8)) (d : DS) (av : Value) : Prop where
  row : RowT wr av all
  new : ∀ g, av.ownBlock = some g → lb < g
  alive : J.Alive D all 0 (jOf 1 60 7 0 (J.total all)) d
  calm : d.armed < 0
  cnt : J.Cnt 0 all d
  dk : DK (GV q lb av) w0 wr b d
  cj : CJ wr q b (jOf 1 60 7 0 (J.total all))
  box : Boxed wr lb 66 av
def MmAt (w0 : World) (b q lb N : Nat) (D : List (List UInt8)) (iv : Value) (wr : World) : Prop :=
  ∃ (k : Nat) (all : List (List UInt8)) (d : DS) (av : Value), k ≤ N ∧ iv = .int .i64 k ∧ MmS w0 wr b q lb D all d av
section
variable {w0 wr W w5 w7 : World} {b q lb : Nat} {D : List (List UInt8)} {all : List (List UInt8)} {d : DS} {av v' : Value} {j : J.JS}
theorem MmS.lt (h : MmS w0 wr b q lb D all d av) : ∀ k, GV q lb av k → k < wr.heap.size := by
  rintro k (e | e | e)
  · rw [e]; exact h.cj.lt
  · rw [e]; exact h.box.lt
  · exact ownsRow_lt h.row e
theorem gv_ge (hq : w0.heap.size ≤ q) (hl : q < lb) (hn : ∀ g, av.ownBlock = some g → lb < g) : ∀ k, GV q lb av k → w0.heap.size ≤ k := by
  rintro k (e | e | e)
  · omega
  · omega
  · have := hn k e; omega
theorem MmS.qt (h : MmS w0 wr b q lb D all d av) (k : Qt wr W) : MmS w0 W b q lb D all d av :=
  ⟨h.row.kept k (fun _ _ e => e), h.new, h.alive, h.calm, h.cnt, h.dk.qt k, h.cj.qt k, boxed_qt h.box k⟩
theorem MmS.len (h : MmS w0 wr b q lb D all d av) : all.length ≤ 60 := Nat.le_trans (J.len_total all) (J.alive_fit h.alive)
theorem MmS.fine (h : MmS w0 wr b q lb D all d av) : J.Fine (jOf 1 60 7 0 (J.total all)) d := h.alive.fine (show 1 ≤ 7 by decide) (show 7 ≤ 1099511627776 by decide)
/-- Behind a journal's call: what of the law's own stays. -/
theorem MmS.call (h : MmS w0 wr b q lb D all d av) (hql : q < lb) (K : Keeps (fun k => k = q ∨ OutJ w0 (GV q lb av) k) wr W) : RowT W av all ∧ Boxed W lb 66 av := by
  refine ⟨h.row.kept K (fun g hg e => ?_), (K.block lb h.box.lt (fun e => ?_)).trans h.box⟩
  · rcases e with e | e
    · have := h.new g hg; omega
    · exact e.2 (.inr (.inr hg))
  · rcases e with e | e
    · omega
    · exact e.2 (.inr (.inl rfl))
theorem MmS.next (h : MmS w0 wr b q lb D all d av) (hql : q < lb) (K : Keeps (fun k => k = q ∨ OutJ w0 (GV q lb av) k) wr W) (hd : DK (GV q lb av) w0 W b d) (hj : CJ W q b (jOf 1 60 7 0 (J.total all))) : MmS w0 W b q lb D all d av :=
  ⟨(h.call hql K).1, h.new, h.alive, h.calm, h.cnt, hd, hj, (h.call hql K).2⟩
/-- The row with a text more, and its box. -/
theorem mm_more {t : List UInt8} (hql : q < lb) (h0 : w0.heap.size ≤ q) (hn : ∀ g, av.ownBlock = some g → lb < g) (hd : DK (GV q lb av) w0 w5 b d) (hj : CJ w5 q b j) (hb : Boxed w5 lb 66 av) (o : Obj)
    (hown : w7.ownsRow 0 9 1 v' (all.length + 1) (all.map strV ++ [strV t])) (hg : (w5.alloc o).grownBy w7 av.ownBlock) (hl : Later (w5.alloc o) av.ownBlock v'.ownBlock) :
    Boxed w7 lb 66 av ∧ RowT (w7.setCell ⟨lb, 0, none⟩ v') v' (all ++ [t]) ∧ (∀ g, v'.ownBlock = some g → lb < g) ∧ DK (GV q lb v') w0 (w7.setCell ⟨lb, 0, none⟩ v') b d ∧ CJ (w7.setCell ⟨lb, 0, none⟩ v') q b j ∧ Boxed (w7.setCell ⟨lb, 0, none⟩ v') lb 66 v' := by
  have hz : w5.heap.size ≤ (w5.alloc o).heap.size := by simp
  have hlb := hb.lt
  have hnew : ∀ g, v'.ownBlock = some g → av.ownBlock = some g ∨ w5.heap.size ≤ g := fun g e => by
    rcases hl with r | ⟨x, r, hx⟩
    · exact .inl (r ▸ e)
    · rw [r] at e; injection e with e; subst e; exact .inr (by omega)
  have hn' : ∀ g, v'.ownBlock = some g → lb < g := fun g e => by
    rcases hnew g e with r | r
    · exact hn g r
    · omega
  have K : Keeps (fun k => av.ownBlock = some k) w5 w7 := Keeps.grown ((Keeps.refl _ w5).alloc o) hg (fun k _ e => e.symm)
  have b7 : Boxed w7 lb 66 av := (K.block lb hlb (fun e => by have := hn lb e; omega)).trans hb
  have K8 : Keeps (fun k => av.ownBlock = some k ∨ k = lb) w5 (w7.setCell ⟨lb, 0, none⟩ v') := Keeps.setCell (p := ⟨lb, 0, none⟩) (K.mono (fun _ _ e => .inl e)) (fun _ => .inr rfl) v'
  have K7 : Keeps (fun k => k = lb) w7 (w7.setCell ⟨lb, 0, none⟩ v') := Keeps.setCell (p := ⟨lb, 0, none⟩) (Keeps.refl (fun k => k = lb) w7) (fun _ => rfl) v'
  refine ⟨b7, ?_, hn', ?_, hj.kept K8 (fun e => ?_), boxed_set b7⟩
  · have h1 : RowT w7 v' (all ++ [t]) := by
      unfold RowT
      rw [List.length_append, List.map_append]
      exact hown
    exact h1.kept K7 (fun g hg e => by have := hn' g hg; omega)
  · refine dk_row hd (gv_ge h0 hql hn) (K8.mono (fun k _ e => by rcases e with e | e; exact .inr (.inr e); exact .inr (.inl e))) ?_
    rintro k (e | e | e)
    · exact .inl (.inl e)
    · exact .inl (.inr (.inl e))
    · rcases hnew k e with r | r
      · exact .inl (.inr (.inr r))
      · exact .inr r
  · rcases e with e | e
    · have := hn q e; omega
    · omega
end

/-! ### The marks, the growth -/
def MkAt (w : World) (av : Value) (n : Nat) (iv : Value) (wr : World) : Prop :=
  ∃ (k : Nat) (xs : List Value), k ≤ n ∧ iv = .int .i64 k ∧ wr.ownsRow 0 9 1 av n xs ∧ Keeps (fun x => av.ownBlock = some x) w wr
def GrAt (w : World) (av : Value) (n : Nat) (gv iv : Value) (wr : World) : Prop :=
  ∃ (k : Nat) (xs : List Value), k ≤ 80 ∧ iv = .int .i64 k ∧ wr.ownsRow 0 9 1 gv (n + k) xs ∧ (∀ g, gv.ownBlock = some g → av.ownBlock = some g ∨ w.heap.size ≤ g) ∧ Keeps (fun x => av.ownBlock = some x) w wr
section
variable {w wr w7 : World} {av gv v' u : Value} {n k : Nat} {xs : List Value}
theorem row_shape (h : w.ownsRow 0 9 1 av n xs) : ∃ a c, av = .slice a n c ∧ n ≤ c ∧ (0 < n → ∃ g, a = some ⟨g, 0, none⟩) := by
  rcases h.2 with ⟨e, h0⟩ | ⟨g, cap, cur, e, _, _, hl, _⟩
  · exact ⟨none, 0, by rw [e, h0], by omega, fun h => by omega⟩
  · exact ⟨_, _, e, hl, fun _ => ⟨g, rfl⟩⟩
theorem mk_store {g c : Nat} (h : wr.ownsRow 0 9 1 (.slice (some ⟨g, 0, none⟩) n c) n xs) (hk : k < n) (K : Keeps (fun x => (Value.slice (some ⟨g, 0, none⟩) n c).ownBlock = some x) w wr) (u : Value) : MkAt w (.slice (some ⟨g, 0, none⟩) n c) n (.int .i64 ((k : Int) + 1)) (wr.setCell ⟨g, k, none⟩ u) :=
  ⟨k + 1, _, hk, by push_cast; rfl, ownsRow_store h hk u, Keeps.setCell (p := ⟨g, k, none⟩) K (fun _ => rfl) u⟩
theorem gr_more {o : Obj} (hk : k < 80) (hgv : ∀ g, gv.ownBlock = some g → av.ownBlock = some g ∨ w.heap.size ≤ g) (K : Keeps (fun x => av.ownBlock = some x) w wr) {ys : List Value}
    (hown : w7.ownsRow 0 9 1 v' (n + k + 1) ys) (hg : (wr.alloc o).grownBy w7 gv.ownBlock) (hl : Later (wr.alloc o) gv.ownBlock v'.ownBlock) : GrAt w av n v' (.int .i64 ((k : Int) + 1)) w7 := by
  have hz : wr.heap.size ≤ (wr.alloc o).heap.size := by simp
  have hz2 := K.size
  refine ⟨k + 1, ys, hk, by push_cast; rfl, by rw [← Nat.add_assoc]; exact hown, fun g e => ?_, Keeps.grown (K.alloc o) hg (fun x hx e => ?_)⟩
  · rcases hl with r | ⟨x, r, hx⟩
    · exact hgv g (r ▸ e)
    · rw [r] at e; injection e with e; subst e; exact .inr (by omega)
  · rcases hgv x e.symm with r | r
    · exact r
    · omega
end

/-! ### The two ranges over the function -/
theorem enumT_get (l : List (List UInt8)) {k : Nat} (h : k < l.length) : (enumT l)[k]? = some (k, l.getD k []) := by
  unfold enumT
  rw [List.getElem?_map, List.getElem?_range h]
  rfl
theorem prefix_snoc {l : List (List UInt8)} {pre : List (Nat × List UInt8)} {x : Nat × List UInt8} : pre ++ [x] <+: enumT l ↔ pre <+: enumT l ∧ x.1 = pre.length ∧ pre.length < l.length ∧ x.2 = l.getD pre.length [] := by
  constructor
  · intro h
    have hlen : pre.length < l.length := by
      have := h.length_le
      rw [List.length_append, List.length_singleton, enumT_length] at this
      omega
    have h1 : (enumT l)[pre.length]? = some x := by
      obtain ⟨r, hr⟩ := h
      rw [← hr, List.append_assoc, List.getElem?_append_right (Nat.le_refl _), Nat.sub_self]
      rfl
    rw [enumT_get l hlen] at h1
    injection h1 with h1
    refine ⟨(List.prefix_append pre [x]).trans h, by rw [← h1], hlen, by rw [← h1]⟩
  · rintro ⟨⟨r, hr⟩, h1, h2, h3⟩
    have hx : x = (pre.length, l.getD pre.length []) := Prod.ext h1 h3
    have e := enumT_get l h2
    rw [← hr, List.getElem?_append_right (Nat.le_refl _), Nat.sub_self] at e
    cases r with
    | nil => simp at e
    | cons y r =>
      have e : y = (pre.length, l.getD pre.length []) := by simpa using e
      exact ⟨r, by rw [← hr, hx, ← e]; simp⟩
/-- A block lies as it lay. -/
theorem ownFrom_block {β : Type} {B D : Nat} {x : Option Obj} (h : D < B) (hx : x.isSome) : OwnFrom B (fun (_ : β) (W : World) => W.heap[D]? = x) := by
  intro s W W' row hs hg hr
  obtain ⟨o, rfl⟩ := Option.isSome_iff_exists.1 hx
  exact (hg.block D (lt_of_block hs) (fun e => by have := (hr D e.symm).1; omega)).trans hs
theorem ownFrom_box {β : Type} {B lb : Nat} {t : TypeId} (v : β → Value) (P : β → Prop) : OwnFrom B (fun (s : β) (W : World) => Boxed W lb t (v s) ∧ P s) := by
  intro s W W' row hs hg hr
  exact ⟨hs.1.kept hg (fun e => by
    obtain ⟨o, ho, hc⟩ := (hr lb e.symm).2
    rw [show W.heap[lb]? = _ from hs.1] at ho; cases ho; cases hc), hs.2⟩
end Go.Proofs.YtggogaaooacooaaDoor
