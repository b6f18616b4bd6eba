/-
  The contract of remitlaw10.lives: a version's life and its crash.
  An append of a list that came in (nil or not), one cell an element, at a step of a region that draws.
-/
import Derived.Test.YtggogaaooacooaaDoorP43
import Derived.Test.YtggogaaooacooaaDoorP33
import Derived.Test.YtggogaaooacooaaDoorP37
import Derived.Test.YtggogaaooacooaaDoorP30
import Derived.Test.YtggogaaooacooaaDoorP08
import Derived.Deep.RegionLaw
namespace Go.Proofs.YtggogaaooacooaaDoor
open Go.RowKit Go.WideShapes
set_option maxRecDepth 100000

/-- A []int that came in. -/
def Nums (W : World) (v : Value) (l : List Int) : Prop := ∃ a c, v = .slice a l.length c ∧ ∀ (k : Nat) (x : Int), l[k]? = some x → ∃ g o, a = some ⟨g, o, none⟩ ∧ W.cell? ⟨g, o + k, none⟩ = some (.int .i64 x)
/-- A Life of remitlaw10. -/
structure LfV where
  more : Int
  sv : Value
  sizes : List Int
  yv : Value
  syncs : List Bool
  arm : Int
  kv : Value
  f : FT
def LfV.list (o : LfV) : List Value := [.int .i64 o.more, o.sv, o.yv, .int .i64 o.arm, o.kv, .int .i64 o.f.torn, .int .i64 o.f.bytes]
structure LfV.Ok (W : World) (o : LfV) : Prop where
  sizes : Nums W o.sv o.sizes
  slen : o.sizes.length ≤ 140737488355328
  syncs : Bools W o.yv o.syncs
  ylen : o.syncs.length ≤ 140737488355328
  arm : o.arm ≤ 9223372036854775807
  kept : Bools W o.kv o.f.kept

/-! ### A row of the law's own -/
def RowT (W : World) (v : Value) (l : List (List UInt8)) : Prop := W.ownsRow 0 9 1 v l.length (l.map strV)
theorem rowT_nil (W : World) : RowT W (.slice none 0 0) [] := World.ownsRow_nil W 0 _ 1
theorem RowT.shape {W : World} {v : Value} {l : List (List UInt8)} (h : RowT W v l) : ∃ a c, v = .slice a l.length c ∧ l.length ≤ c ∧ (a = none ∨ ∃ g, a = some ⟨g, 0, none⟩) := by
  rcases h.2 with ⟨e, h0⟩ | ⟨g, cap, cur, e, _, _, hl, _⟩
  · exact ⟨none, 0, by rw [e, h0], by omega, .inl rfl⟩
  · exact ⟨_, _, e, hl, .inr ⟨g, rfl⟩⟩
theorem RowT.texts {W : World} {v : Value} {l : List (List UInt8)} (h : RowT W v l) : TextsIn W v l := by
  rcases h.2 with ⟨e, h0⟩ | ⟨g, cap, cur, e, _⟩
  · have h1 : l = [] := List.length_eq_zero_iff.1 h0
    subst h1
    exact ⟨0, 0, 0, .inr ⟨e, rfl⟩, fun k t hk => by simp at hk⟩
  · subst e
    refine ⟨g, 0, cap, .inl rfl, fun k t hk => ?_⟩
    have hx : (l.map strV)[k]? = some (strV t) := by rw [List.getElem?_map, hk]; rfl
    have hc := h.cells (g := g) rfl k (strV t) hx
    have e : ((⟨g, 0, none⟩ : Addr).add k) = ⟨g, k, none⟩ := by unfold Addr.add; split <;> simp_all
    rw [e] at hc
    rw [Nat.zero_add]
    exact hc
theorem TextsIn.take {W : World} {a : Option Addr} {n c : Nat} {l : List (List UInt8)} (h : TextsIn W (.slice a n c) l) {m : Nat} (hm : m ≤ l.length) : TextsIn W (.slice a m c) (l.take m) := by
  obtain ⟨g, off, c', h1 | ⟨h1, rfl⟩, h2⟩ := h
  · injection h1 with e1 e2 e3
    subst e1 e3
    refine ⟨g, off, c, .inl (by rw [List.length_take, Nat.min_eq_left hm]), fun k t hk => h2 k t ?_⟩
    rw [List.getElem?_take] at hk
    split at hk
    · exact hk
    · cases hk
  · injection h1 with e1 e2 e3
    subst e1 e3
    obtain rfl : m = 0 := by simpa using hm
    exact ⟨0, 0, c, .inr ⟨by simp, by simp⟩, fun k t hk => by simp at hk⟩
theorem RowT.kept {S : Nat → Prop} {W W' : World} {v : Value} {l : List (List UInt8)} (h : RowT W v l) (K : Keeps S W W') (hS : ∀ g, v.ownBlock = some g → ¬ S g) : RowT W' v l := ownsRow_kept h K hS
theorem sizeOf_str (P : Program) (h : (P.info? (P.elem 66)).map (·.size) = some 1) (W : World) : (sizeOf (P.elem 66)).run P W = .ok 1 W := by
  obtain ⟨i, hi, hs⟩ := Option.map_eq_some_iff.1 h
  simp [sizeOf, typeInfo, hi, hs]
theorem slice_row (a : Option Addr) (ha : a = none ∨ ∃ g, a = some ⟨g, 0, none⟩) (n c m : Nat) (hm : m ≤ c) (h0 : a = none → m = 0) (W : World) : (Instr.slice 66 (.slice a n c) none (some (.int .i64 (m : Int))) none).run Tryd.prog W = .ok (.slice a m c) W := by
  have h := run_slice_h (P := Tryd.prog) (w := W) 66 a n c (by kernel_rfl) .i64 (m : Int) (by omega) (by omega)
  rw [h, sizeOf_str Tryd.prog (by kernel_rfl)]
  simp only [Result.andThen_ok, Int.toNat_natCast]
  rcases ha with rfl | ⟨g, rfl⟩
  · simp [sliced]
  · simp [sliced, Addr.add]
/-- The disk behind a step of a row. -/
theorem dk_row {w0 w w' : World} {G G' : Nat → Prop} {b : Nat} {d : DS} (h : DK G w0 w b d) (hG : ∀ k, G k → w0.heap.size ≤ k) (K : Keeps G w w') (hG' : ∀ k, G' k → G k ∨ w.heap.size ≤ k) : DK G' w0 w' b d := by
  have hz := h.since.size
  have h1 : DK (fun k => G k ∨ G' k) w0 w b d := h.more (fun k e => by
    rcases e with e | e
    · exact .inl e
    · exact hG' k e)
  have h2 := h1.turn (fun k e => by
    rcases e with e | e
    · exact hG k e
    · rcases hG' k e with r | r
      · exact hG k r
      · omega) (K.mono (fun _ _ e => .inl e))
  exact h2.more (fun k e => .inl (.inr e))
/-- What is the law's own: the journal, the box, the row. -/
def GV (q lb : Nat) (v : Value) (k : Nat) : Prop := k = q ∨ k = lb ∨ v.ownBlock = some k
/-- The journal of a version. -/
def jOf (i n v life u : Nat) : J.JS := ⟨i, n, v, u, false, life⟩

/-- What the loop keeps. -/
structure LvS (ad : Nat → Addr) (w0 wr : World) (b q lb B : Nat) (cells : Array Value) (D : List (List UInt8)) (i n v life m : Nat) (av : Value) (all : List (List UInt8)) (s : Nat) (d : DS) : Prop where
  row : RowT wr av all
  new : ∀ g, av.ownBlock = some g → B ≤ g
  alive : J.Alive D all s (jOf i n v life (J.total all)) d
  cnt : J.Cnt m all d
  dk : DK (GV q lb av) w0 wr b d
  cj : CJ wr q b (jOf i n v life (J.total all))
  box : wr.heap[lb]? = some (.cells cells 64 (0, 0))
  big : B ≤ wr.heap.size
def LvAt (ad : Nat → Addr) (w0 : World) (b q lb B : Nat) (cells : Array Value) (D : List (List UInt8)) (i n v life m N : Nat) (av sv dv iv : Value) (wr : World) : Prop :=
  ∃ (k : Nat) (all : List (List UInt8)) (s : Nat) (d : DS), k ≤ N ∧ iv = .int .i64 k ∧ sv = .int .i64 s ∧ dv = .bool false ∧ LvS ad w0 wr b q lb B cells D i n v life m av all s d
/-- What a life leaves. -/
def LivesP (w0 : World) (b i n v m : Nat) (D : List (List UInt8)) (e : Ending) (w' : World) : Prop :=
  e = .returned (.bool true) ∧ ∃ d', DK (fun k => w'.heap.size ≤ k) w0 w' b d' ∧ J.Backs d'.dur i n v ∧ d'.FewM 0 (m + 64) ∧ d'.cr ≤ m + 1 ∧ d'.dur.length = D.length ∧ d'.ways = [] ∧ d'.off = false
section
variable {ad : Nat → Addr} {w0 wr W : World} {b q lb B : Nat} {cells : Array Value} {D : List (List UInt8)} {i n v life m s : Nat} {av : Value} {all : List (List UInt8)} {d : DS}
theorem GV.ge (hq : w0.heap.size ≤ q) (hl : w0.heap.size ≤ lb) (hB : w0.heap.size ≤ B) (hn : ∀ g, av.ownBlock = some g → B ≤ g) : ∀ k, GV q lb av k → w0.heap.size ≤ k := by
  rintro k (e | e | e)
  · omega
  · omega
  · have := hn k e; omega
theorem LvS.lt (h : LvS ad w0 wr b q lb B cells D i n v life m av all s d) : ∀ k, GV q lb av k → k < wr.heap.size := by
  rintro k (e | e | e)
  · rw [e]; exact h.cj.lt
  · rw [e]; exact lt_of_block h.box
  · exact ownsRow_lt h.row e
theorem LvS.qt (h : LvS ad w0 wr b q lb B cells D i n v life m av all s d) (k : Qt wr W) : LvS ad w0 W b q lb B cells D i n v life m av all s d :=
  ⟨h.row.kept k (fun _ _ e => e), h.new, h.alive, h.cnt, h.dk.qt k, h.cj.qt k, (k.block lb (lt_of_block h.box) (fun e => e)).trans h.box, Nat.le_trans h.big k.size⟩
/-- Behind a journal's call: what of the law's own stays. -/
theorem LvS.call (h : LvS ad w0 wr b q lb B cells D i n v life m av all s d) (hqB : q < B) (hqlb : lb ≠ q) (K : Keeps (fun k => k = q ∨ OutJ w0 (GV q lb av) k) wr W) : RowT W av all ∧ W.heap[lb]? = some (.cells cells 64 (0, 0)) := by
  refine ⟨h.row.kept K (fun g hg e => ?_), (K.block lb (lt_of_block h.box) (fun e => ?_)).trans h.box⟩
  · rcases e with e | e
    · have := h.new g hg; omega
    · exact e.2 (.inr (.inr hg))
  · rcases e with e | e
    · exact hqlb e
    · exact e.2 (.inr (.inl rfl))
theorem tail_dead {j : J.JS} {d : DS} (h : J.Fine j d) (t : FT) (v : List UInt8) : j.append (d.crashD t) v = (12, { j with dead := true }, d.crashD t) ∧ J.JS.sync { j with dead := true } (d.crashD t) = (12, { j with dead := true }, d.crashD t) := by
  have hl := h.life
  have hd : j.down (d.crashD t) = true := by
    unfold J.JS.down
    rw [decide_eq_true (show (d.crashD t).cr ≠ j.life by show d.cr + 1 ≠ j.life; omega)]
    simp
  refine ⟨if_pos hd, ?_⟩
  unfold J.JS.sync
  rw [if_pos (by unfold J.JS.down; rfl)]
end
/-- At a life's end, in memory. -/
structure LvE (ad : Nat → Addr) (w0 wr : World) (b q lb B : Nat) (cells : Array Value) (D : List (List UInt8)) (i n v m : Nat) (av : Value) (all : List (List UInt8)) (s : Nat) (j : J.JS) (d : DS) : Prop where
  row : RowT wr av all
  new : ∀ g, av.ownBlock = some g → B ≤ g
  ended : J.EndP D all s j d m
  fine : J.Fine j d
  dk : DK (GV q lb av) w0 wr b d
  cj : CJ wr q b j
  box : wr.heap[lb]? = some (.cells cells 64 (0, 0))
  pos : j.pos = i
  n : j.n = n
  ver : j.ver = v
section
variable {ad : Nat → Addr} {w0 wr W w5 w7 : World} {b q lb B : Nat} {cells : Array Value} {D : List (List UInt8)} {i n v life m s : Nat} {av v' : Value} {all : List (List UInt8)} {d : DS} {j : J.JS}
theorem LvE.lt (h : LvE ad w0 wr b q lb B cells D i n v m av all s j d) : ∀ k, GV q lb av k → k < wr.heap.size := by
  rintro k (e | e | e)
  · rw [e]; exact h.cj.lt
  · rw [e]; exact lt_of_block h.box
  · exact ownsRow_lt h.row e
theorem LvE.qt (h : LvE ad w0 wr b q lb B cells D i n v m av all s j d) (k : Qt wr W) : LvE ad w0 W b q lb B cells D i n v m av all s j d :=
  ⟨h.row.kept k (fun _ _ e => e), h.new, h.ended, h.fine, h.dk.qt k, h.cj.qt k, (k.block lb (lt_of_block h.box) (fun e => e)).trans h.box, h.pos, h.n, h.ver⟩
theorem LvS.fine (h : LvS ad w0 wr b q lb B cells D i n v life m av all s d) (h1 : 1 ≤ v) (h2 : v ≤ 1099511627776) : J.Fine (jOf i n v life (J.total all)) d := h.alive.fine h1 h2
theorem LvS.ended (h : LvS ad w0 wr b q lb B cells D i n v life m av all s d) (h1 : 1 ≤ v) (h2 : v ≤ 1099511627776) (hn : n ≤ 64) : LvE ad w0 wr b q lb B cells D i n v m av all s (jOf i n v life (J.total all)) d :=
  ⟨h.row, h.new, J.EndP.of_alive h.alive h.cnt hn, h.fine h1 h2, h.dk, h.cj, h.box, rfl, rfl, rfl⟩
/-- A journal's call that leaves the life going on. -/
theorem LvS.next {d2 : DS} {s2 : Nat} (h : LvS ad w0 wr b q lb B cells D i n v life m av all s d) (hqB : q < B) (hqlb : lb ≠ q) (K : Keeps (fun k => k = q ∨ OutJ w0 (GV q lb av) k) wr W) (hA : J.Alive D all s2 (jOf i n v life (J.total all)) d2) (hc : J.Cnt m all d2) (hd : DK (GV q lb av) w0 W b d2) (hj : CJ W q b (jOf i n v life (J.total all))) :
    LvS ad w0 W b q lb B cells D i n v life m av all s2 d2 := ⟨(h.call hqB hqlb K).1, h.new, hA, hc, hd, hj, (h.call hqB hqlb K).2, Nat.le_trans h.big K.size⟩
/-- The row with a text more: what lies where. -/
theorem row_more {t : List UInt8} (hqB : q < B) (hlB : lb < B) (h0 : w0.heap.size ≤ q) (h0l : w0.heap.size ≤ lb) (hB : B ≤ w5.heap.size) (hn : ∀ g, av.ownBlock = some g → B ≤ g) (hd : DK (GV q lb av) w0 w5 b d) (hj : CJ w5 q b j) (hb : w5.heap[lb]? = some (.cells cells 64 (0, 0))) (o : Obj)
    (hown : w7.ownsRow 0 9 1 v' (all.length + 1) (all.map strV ++ [strV t])) (hg : (w5.alloc o).grownBy w7 av.ownBlock) (hl : Later (w5.alloc o) av.ownBlock v'.ownBlock) :
    RowT w7 v' (all ++ [t]) ∧ (∀ g, v'.ownBlock = some g → B ≤ g) ∧ DK (GV q lb v') w0 w7 b d ∧ CJ w7 q b j ∧ w7.heap[lb]? = some (.cells cells 64 (0, 0)) ∧ B ≤ w7.heap.size := by
  have hz : w5.heap.size ≤ (w5.alloc o).heap.size := by simp
  have hnew : ∀ g, v'.ownBlock = some g → av.ownBlock = some g ∨ w5.heap.size ≤ g := fun g e => by
    rcases hl with r | ⟨x, r, hx⟩
    · exact .inl (r ▸ e)
    · rw [r] at e; injection e with e; subst e; exact .inr (by omega)
  have hn' : ∀ g, v'.ownBlock = some g → B ≤ g := fun g e => by
    rcases hnew g e with r | r
    · exact hn g r
    · omega
  have K : Keeps (fun k => av.ownBlock = some k) w5 w7 := Keeps.grown ((Keeps.refl _ w5).alloc o) hg (fun k _ e => e.symm)
  have hKq : ∀ k, k < B → ¬ (av.ownBlock = some k) := fun k hk e => by have := hn k e; omega
  refine ⟨?_, hn', ?_, hj.kept K (hKq q hqB), (K.block lb (lt_of_block hb) (hKq lb hlB)).trans hb, Nat.le_trans hB K.size⟩
  · unfold RowT
    rw [List.length_append, List.map_append]
    exact hown
  · refine dk_row hd ?_ (K.mono (fun k _ e => .inr (.inr e))) ?_
    · rintro k (e | e | e)
      · omega
      · omega
      · have := hn k e; omega
    · rintro k (e | e | e)
      · exact .inl (.inl e)
      · exact .inl (.inr (.inl e))
      · rcases hnew k e with r | r
        · exact .inl (.inr (.inr r))
        · exact .inr r
end
theorem lv_le {k s : Nat} (h : s ≤ k) : decide ((k : Int) < (s : Int)) = false := decide_eq_false (by omega)
theorem lv_gt {k s : Nat} (h : k ≤ s) : decide ((s : Int) < (k : Int)) = false := decide_eq_false (by omega)
theorem nums_at {W : World} {v : Value} {l : List Int} (h : Nums W v l) {k : Nat} (hk : k < l.length) : ∃ x g o c, v = .slice (some ⟨g, o, none⟩) l.length c ∧ W.cell? ⟨g, o + k, none⟩ = some (.int .i64 x) := by
  obtain ⟨a, c, rfl, hc⟩ := h
  obtain ⟨g, o, rfl, hx⟩ := hc k _ (List.getElem?_eq_getElem hk)
  exact ⟨_, g, o, c, rfl, hx⟩
theorem bools_at {W : World} {v : Value} {l : List Bool} (h : Bools W v l) {k : Nat} (hk : k < l.length) : ∃ x g o c, v = .slice (some ⟨g, o, none⟩) l.length c ∧ W.cell? ⟨g, o + k, none⟩ = some (.bool x) := by
  obtain ⟨a, c, rfl, hc⟩ := h
  obtain ⟨g, o, rfl, hx⟩ := hc k _ (List.getElem?_eq_getElem hk)
  exact ⟨_, g, o, c, rfl, hx⟩
theorem newsT1 (W : World) (R : ByteArray) : ∀ (j : Nat) (u : Value), [Value.string R][j]? = some u → (W.alloc (.cells #[.string R] 9)).cell? ((⟨W.heap.size, 0, none⟩ : Addr).add j) = some u := newsT W _
end Go.Proofs.YtggogaaooacooaaDoor
namespace Go.Proofs.YtggogaaooacooaaDoor
open Go.RowKit
set_option maxRecDepth 100000

section
variable {P : Program} {w : World}
theorem step_append_list {ops : Array Oper} {o : Oper} {a : Act} {K : Act → World → Prop} {Q : Exit → Act → World → Prop} {E : Prop} (hgd : o.guard = none) (s x : Operand) (t : TypeId)
    (ho : o.op = .call { callee := .builtin .append, args := #[s, x], argTypes := #[t, t] })
    (e : TypeId) (i : TypeInfo) (z : Value) (bytes : Nat) (ht : P.underlying t = some (.slice e)) (hi : P.info? e = some i) (hz : i.zero = some z)
    (hsize : i.size = 1) (hby : i.bytes = bytes) (hzs : z.cells.size = 1)
    (g c0 n l : Nat) (xs : List Value) (hs : a.eval s = .slice (some ⟨g, 0, none⟩) n c0) (hown : w.ownsRow 0 e 1 (.slice (some ⟨g, 0, none⟩) n c0) n xs)
    (ad : Option Addr) (m c : Nat) (news : List Value) (hx : a.eval x = .slice ad m c) (hm : m = news.length) (ha : news ≠ [] → ∃ p, ad = some p ∧ ∀ (j : Nat) u, news[j]? = some u → w.cell? (p.add j) = some u) (h1 : ∀ u ∈ news, u.oneCell' = true)
    (hl : n + m = l) (h63 : l ≤ maxLen) (hbytes : l * bytes ≤ 140737488355328)
    (h : ∀ g' cap w', w'.ownsRow 0 e 1 (.slice (some ⟨g', 0, none⟩) l cap) l (xs ++ news) → w.grownBy w' (some g) → (g' = g ∨ w.heap.size ≤ g') → K (a.put o.dst (.slice (some ⟨g', 0, none⟩) l cap)) w') :
    if Region.wanted o (yielded ops a.tmps) = true then Oper.wp P o a w K Q else E := by
  have hw : Region.wanted o (yielded ops a.tmps) = true := by simp [Region.wanted, hgd]
  rw [if_pos hw]
  subst hm hl
  obtain ⟨v', w', hr, h2, h3, h4⟩ := run_append_list (P := P) w t o.type e i z bytes ht hi hz hsize hby hzs _ n xs hown ad c news ha h1 h63 hbytes
  obtain ⟨g', cap, rfl, hg⟩ : ∃ g' cap, v' = .slice (some ⟨g', 0, none⟩) (n + news.length) cap ∧ (g' = g ∨ w.heap.size ≤ g') := by
    rcases h2.2 with ⟨rfl, _⟩ | ⟨g', cap, cur, rfl, _⟩
    · rcases h4 with h4 | ⟨_, h4, _⟩ <;> simp [Value.ownBlock] at h4
    · refine ⟨g', cap, rfl, ?_⟩
      rcases h4 with h4 | ⟨y, h4, hy⟩
      · simp [Value.ownBlock] at h4; exact .inl h4
      · simp [Value.ownBlock] at h4; subst h4; exact .inr hy
  unfold Oper.wp execOp
  simp only [ho, resolve, invoke, builtin, Sem.run_bind, Sem.run_pure, Result.andThen_ok, List.map_toArray, List.map_cons, List.map_nil, hs, hx, hr]
  exact h g' cap w' h2 h3 hg
theorem wpList_append_row {ops : Array Oper} {rest : List Oper} {o : Oper} {a : Act} {Q : Exit → Act → World → Prop} (hgd : o.guard = none) (s x : Operand) (t : TypeId)
    (ho : o.op = .call { callee := .builtin .append, args := #[s, x], argTypes := #[t, t] })
    (e : TypeId) (i : TypeInfo) (z : Value) (bytes : Nat) (ht : P.underlying t = some (.slice e)) (hi : P.info? e = some i) (hz : i.zero = some z)
    (hsize : i.size = 1) (hby : i.bytes = bytes) (hzs : z.cells.size = 1)
    (g c0 n l : Nat) (xs : List Value) (hs : a.eval s = .slice (some ⟨g, 0, none⟩) n c0) (hown : w.ownsRow 0 e 1 (.slice (some ⟨g, 0, none⟩) n c0) n xs)
    (ad : Option Addr) (m c : Nat) (news : List Value) (hx : a.eval x = .slice ad m c) (hm : m = news.length) (ha : news ≠ [] → ∃ p, ad = some p ∧ ∀ (j : Nat) u, news[j]? = some u → w.cell? (p.add j) = some u) (h1 : ∀ u ∈ news, u.oneCell' = true)
    (hl : n + m = l) (h63 : l ≤ maxLen) (hbytes : l * bytes ≤ 140737488355328)
    (h : ∀ g' cap w', w'.ownsRow 0 e 1 (.slice (some ⟨g', 0, none⟩) l cap) l (xs ++ news) → w.grownBy w' (some g) → (g' = g ∨ w.heap.size ≤ g') → wpList P ops Q rest (a.put o.dst (.slice (some ⟨g', 0, none⟩) l cap)) w') : wpList P ops Q (o :: rest) a w := by
  refine wpList_plain hgd fun K hK => ?_
  subst hm hl
  obtain ⟨v', w', hr, h2, h3, h4⟩ := run_append_list (P := P) w t o.type e i z bytes ht hi hz hsize hby hzs _ n xs hown ad c news ha h1 h63 hbytes
  obtain ⟨g', cap, rfl, hg⟩ : ∃ g' cap, v' = .slice (some ⟨g', 0, none⟩) (n + news.length) cap ∧ (g' = g ∨ w.heap.size ≤ g') := by
    rcases h2.2 with ⟨rfl, _⟩ | ⟨g', cap, cur, rfl, _⟩
    · rcases h4 with h4 | ⟨_, h4, _⟩ <;> simp [Value.ownBlock] at h4
    · refine ⟨g', cap, rfl, ?_⟩
      rcases h4 with h4 | ⟨y, h4, hy⟩
      · simp [Value.ownBlock] at h4; exact .inl h4
      · simp [Value.ownBlock] at h4; subst h4; exact .inr hy
  unfold Oper.wp execOp
  simp only [ho, resolve, invoke, builtin, Sem.run_bind, Sem.run_pure, Result.andThen_ok, List.map_toArray, List.map_cons, List.map_nil, hs, hx, hr]
  exact hK _ _ (h g' cap w' h2 h3 hg)
end
end Go.Proofs.YtggogaaooacooaaDoor
