/-
  Layer 10, plain: appends that fill a log while no power goes; a first sector of zeros tells nothing.
  Appends to rows of the call's own, with no mark.
  The errors: package api's variables, and what remitnum.Num tells of them.
-/
import Derived.Test.YtggogaaooacooaaDoorP08
import Derived.Test.YtggogaaooacooaaDoorP04
import Derived.Deep.MidRow
import Derived.Deep.DeepCutAuto
import Derived.Outline
namespace Go.Proofs.YtggogaaooacooaaDoor
set_option maxRecDepth 100000

namespace J
section
variable {D : List (List UInt8)} {d : DS} {j : JS} {all : List (List UInt8)} {s m : Nat}
/-- An Append while no power goes, with its counts. -/
theorem mem_append (h : Alive D all s j d) (ha : d.armed < 0) (hc : Cnt m all d) (hn : j.n ≤ 64) (v : List UInt8) (hv : v.length < 4294967296) :
    (j.append d v = (17, j, d)) ∨
    (∃ d2, j.append d v = (0, { j with used := j.used + cost v.length }, d2) ∧ Alive D (all ++ [v]) s { j with used := j.used + cost v.length } d2 ∧ Cnt m (all ++ [v]) d2 ∧ d2.armed < 0) := by
  rcases calm_append h ha v hv with ⟨e, _⟩ | ⟨d2, e, hA, e1, _, _, _, _⟩
  · exact .inl e
  · rcases life_append h hc hn v hv with e' | ⟨d3, e', _, hc', _⟩ | ⟨d3, e', _, _⟩
    · rw [e] at e'; injection e' with e'; cases e'
    · rw [e] at e'
      injection e' with _ e'
      injection e' with _ e'
      subst e'
      exact .inr ⟨d2, e, hA, hc', by rw [e1]; exact ha⟩
    · rw [e] at e'; injection e' with e'; cases e'
theorem openS_zeros {st : Nat} (h0 : st ≠ 0) (h : st < 2 ^ 64) : E.openS st zeros = none := by
  cases hq : E.openS st zeros with
  | none => rfl
  | some p =>
    have hc := (E.counts_ends h (show E.counts st zeros = true by unfold E.counts; rw [hq]; rfl)).2.2
    unfold E.back zeros at hc
    rw [List.drop_replicate, E.num_zeros] at hc
    exact absurd hc.symm h0
theorem secs_zeros {i v : Nat} (h1 : v ≤ 1099511627776) (hr : d.read i = zeros) : secs d i v 0 = none := by
  unfold secs
  rw [Nat.add_zero, hr]
  exact openS_zeros (stamp_pos v 0) (stamp_lt h1 (by decide))
/-- A first sector of zeros: nothing is told. -/
theorem over_zeros {i n v : Nat} (ho : d.off = false) (ha : d.armed < 0) (hf : i + n ≤ d.dur.length) (hn : 0 < n) (hn2 : n ≤ 65536) (h1 : 1 ≤ v) (h2 : v ≤ 1099511627776) :
    d.writeE (i : Int) zeros = 0 ∧ replay (d.writeD (i : Int) zeros) (i : Int) (n : Int) (v : Int) = ([], 0) := by
  have hr : d.reach (i : Int) = 0 := DS.reach_calm ho (by omega)
  have hl : zeros.length = 256 := by simp [zeros]
  have h0 : ¬ d.armed = 0 := by omega
  have hW : d.writeD (i : Int) zeros = { d with ways := d.ways ++ [(i, zeros)], armed := dec d.armed, wr := d.wr + 1 } := by
    unfold DS.writeD; rw [if_neg (by rw [hr]; simp), if_neg (by rw [hl]; simp), if_neg h0]; rfl
  refine ⟨by unfold DS.writeE; rw [if_neg (by rw [hr]; simp), if_neg (by rw [hl]; simp), if_neg h0], ?_⟩
  have hoff : (d.writeD (i : Int) zeros).off = false := by rw [hW]; exact ho
  have hread : (d.writeD (i : Int) zeros).read i = zeros := by
    rw [hW]
    unfold DS.read
    rw [readTo_snoc, if_pos rfl]
  rw [replay_zero (refE_zero (by rw [writeD_size]; exact hf) hn2 h1 h2 hoff)]
  unfold logAll
  rw [log_stop (rec_none fun w ww => ?_)]
  have e0 := ww.each 0 (cost_pos _)
  rw [Nat.add_zero, secs_zeros h2 hread] at e0
  cases e0
end
end J
end Go.Proofs.YtggogaaooacooaaDoor
namespace Go.Proofs.YtggogaaooacooaaDoor
open Go.RowKit
set_option maxRecDepth 100000

theorem ownsRow_kept {S : Nat → Prop} {w w' : World} {base : Nat} {e : TypeId} {size : Nat} {v : Value} {n : Nat} {xs : List Value} (h : w.ownsRow base e size v n xs) (hk : Keeps S w w') (hn : ∀ k, v.ownBlock = some k → ¬ S k) : w'.ownsRow base e size v n xs := by
  refine ⟨h.1, ?_⟩
  rcases h.2 with h2 | ⟨g, cap, cur, rfl, hb, hg, rest⟩
  · exact .inl h2
  · exact .inr ⟨g, cap, cur, rfl, hb, by rw [hk.block g (lt_of_block hg) (hn g rfl)]; exact hg, rest⟩

theorem ownsRow_lt {w : World} {base : Nat} {e : TypeId} {size : Nat} {v : Value} {n : Nat} {xs : List Value} (h : w.ownsRow base e size v n xs) {k : Nat} (hk : v.ownBlock = some k) : k < w.heap.size := ownsRowF_lt (World.ownsRowF_of h) hk

/-- A store into one of an owned row's cells. -/
theorem ownsRow_store {w : World} {base : Nat} {e : TypeId} {g cap n i : Nat} {xs : List Value} (h : w.ownsRow base e 1 (.slice (some ⟨g, 0, none⟩) n cap) n xs) (_hi : i < n) (u : Value) : (w.setCell ⟨g, i, none⟩ u).ownsRow base e 1 (.slice (some ⟨g, 0, none⟩) n cap) n (xs.set i u) := by
  refine ⟨by simpa using h.1, ?_⟩
  rcases h.2 with ⟨h2, _⟩ | ⟨g', cap', cur, e2, hb, hg, h3, h4, h5, h6⟩
  · cases h2
  · injection e2 with e2 e3 e4
    injection e2 with e2
    injection e2 with e2
    subst e2 e4
    refine .inr ⟨g, cap, cur.setIfInBounds i u, rfl, hb, ?_, h3, h4, by simpa using h5, ?_⟩
    · rw [setCell_eq_setRow w g i cur e (0, 0) u hg]
      exact setRow_heap w g _ _ e _ hg
    · rw [← h6]
      simp [List.take_set]

section
variable {P : Program} (w : World)

/-- APPEND OF CELLS to an owned row: the row stays, or is a new block. -/
theorem run_append_cells0 (t ty e : TypeId) (i : TypeInfo) (z : Value) (size bytes : Nat) (ht : P.underlying t = some (.slice e)) (hi : P.info? e = some i) (hz : i.zero = some z)
    (hsize : i.size = size) (hby : i.bytes = bytes) (hzs : z.cells.size = size) (hsz : 0 < size)
    (v : Value) (n : Nat) (xs : List Value) (hown : w.ownsRow 0 e size v n xs)
    (a : Addr) (m c : Nat) (news : List Value) (hl : news.length = m * size) (hnews : ∀ j u, news[j]? = some u → w.cell? (a.add j) = some u) (h1 : ∀ u ∈ news, u.oneCell' = true)
    (h63 : n + m ≤ maxLen) (hbytes : (n + m) * bytes ≤ 140737488355328) :
    ∃ v' w', (Builtin.append_ #[t, t] ty #[v, .slice (some a) m c]).run P w = .ok v' w' ∧ w'.ownsRow 0 e size v' (n + m) (xs ++ news) ∧ w.grownBy w' v.ownBlock ∧ Later w v.ownBlock v'.ownBlock ∧
      (v' = .slice none 0 0 ↔ v = .slice none 0 0 ∧ m = 0) := by
  subst hsize
  subst hby
  have hsmall : n + m ≤ 9223372036854775807 := by simp only [maxLen] at h63; omega
  have hlen : (xs ++ news).length = (n + m) * i.size := by rw [List.length_append, hown.1, hl, Nat.add_mul]
  have grown : ∀ (old : Nat), old < n + m → ∀ (row : Option Nat),
      (w.drew.alloc (.cells (xs.toArray ++ news.toArray ++ Builtin.zeroCells z.cells (grownCap w (n + m) old e - (n + m))) e)).ownsRow 0 e i.size
        (.slice (some ⟨w.heap.size, 0, none⟩) (n + m) (grownCap w (n + m) old e)) (n + m) (xs ++ news) ∧
      w.grownBy (w.drew.alloc (.cells (xs.toArray ++ news.toArray ++ Builtin.zeroCells z.cells (grownCap w (n + m) old e - (n + m))) e)) row := by
    intro old ho row
    have hge := grownCap_ge w (n + m) old e
    have hcm : grownCap w (n + m) old e ≤ maxLen := grownCap_le_maxLen w (n + m) old e h63
    refine ⟨⟨hlen, .inr ⟨w.heap.size, _, _, rfl, Nat.zero_le _, heap_alloc_new w.drew _, hge, hcm, ?_, ?_⟩⟩, ⟨rfl, rfl, rfl, by simp, fun k hk _ => Below.heap_alloc w.drew _ k hk⟩⟩
    · simp only [Array.size_append, List.size_toArray, size_zeroCells, hzs, hown.1, hl, ← Nat.add_mul]
      congr 1
      omega
    · simp only [Array.toList_append, List.append_assoc]
      rw [← List.append_assoc, ← hlen]
      exact List.take_left
  rcases hown.2 with ⟨rfl, rfl⟩ | ⟨g, cap, cur, rfl, hbg, hg, hnc, hcm, hcs, htake⟩
  · have hx : xs = [] := List.eq_nil_of_length_eq_zero (by simpa using hown.1)
    subst hx
    by_cases hm : m = 0
    · subst hm
      have hn : news = [] := List.eq_nil_of_length_eq_zero (by simpa using hl)
      subst hn
      refine ⟨.slice none 0 0, w, ?_, World.ownsRow_nil w 0 e i.size, ⟨rfl, rfl, rfl, Nat.le_refl _, fun _ _ _ => rfl⟩, .inl rfl, by simp⟩
      simp [Builtin.append_, run_underlying ht, sizeOf, typeInfo, hi, Builtin.lenOf, Builtin.firstCells, loadCells, loadCellsFrom]
    · have hr := run_append_nil (P := P) w t ty e i z ht hi hz a m c news hl hnews (by omega) (by omega) (by have hb := hbytes; simp only [Nat.zero_add] at hb; omega)
      have hgr := grown 0 (by omega) (Value.ownBlock (.slice none 0 0))
      simp only [Nat.zero_add, List.nil_append, Array.empty_append] at hgr ⊢
      exact ⟨_, _, hr, hgr.1, hgr.2, .inr ⟨_, rfl, Nat.le_refl _⟩, by simp [hm]⟩
  · by_cases hroom : n + m ≤ cap
    · have hfit : n * i.size + news.length ≤ cur.size := by rw [hl, hcs, ← Nat.add_mul]; exact Nat.mul_le_mul_right _ hroom
      have hr := run_append_roomF (P := P) w t ty e i ht hi g n cap cur (0, 0) hg (Nat.zero_le _) a m c news hl hnews h1 hroom hfit
      refine ⟨_, _, hr, ⟨hlen, .inr ⟨g, cap, _, rfl, hbg, setRow_heap w g cur _ e _ hg, hroom, hcm, ?_, ?_⟩⟩, ⟨rfl, rfl, rfl, by simp, fun k _ hk => setRow_other w g k _ (fun e => hk (by simp [Value.ownBlock, e]))⟩, .inl rfl, by simp⟩
      · simp only [List.size_toArray, List.length_append, List.length_take, List.length_drop, Array.length_toList]
        omega
      · rw [htake, ← hlen]
        exact List.take_left
    · have holds : ∀ j u, xs[j]? = some u → w.cell? ((⟨g, 0, none⟩ : Addr).add j) = some u := (World.ownsRowF_of hown).cells (g := g) rfl
      have hr := run_append_grow (P := P) w t ty e i z ht hi hz ⟨g, 0, none⟩ n cap xs hown.1 holds a m c news hl hnews (by omega) (by omega) (growslice_fits (by omega) hbytes)
      have hgr := grown cap (by omega) (Value.ownBlock (.slice (some ⟨g, 0, none⟩) n cap))
      exact ⟨_, _, hr, hgr.1, hgr.2, .inr ⟨_, rfl, Nat.le_refl _⟩, by simp⟩

theorem wpList_append_cells0 {ops : Array Oper} {rest : List Oper} {o : Oper} {a : Act} {Q : Exit → Act → World → Prop} (hgd : o.guard = none) (s x : Operand) (t : TypeId)
    (ho : o.op = .call { callee := .builtin .append, args := #[s, x], argTypes := #[t, t] })
    (e : TypeId) (i : TypeInfo) (z : Value) (size bytes : Nat) (ht : P.underlying t = some (.slice e)) (hi : P.info? e = some i) (hz : i.zero = some z)
    (hsize : i.size = size) (hby : i.bytes = bytes) (hzs : z.cells.size = size) (hsz : 0 < size)
    (v : Value) (n : Nat) (xs : List Value) (hs : a.eval s = v) (hown : w.ownsRow 0 e size v n xs)
    (ad : Addr) (m c : Nat) (news : List Value) (hx : a.eval x = .slice (some ad) m c) (hl : news.length = m * size) (hnews : ∀ j u, news[j]? = some u → w.cell? (ad.add j) = some u) (h1 : ∀ u ∈ news, u.oneCell' = true)
    (h63 : n + m ≤ maxLen) (hbytes : (n + m) * bytes ≤ 140737488355328)
    (h : ∀ v' w', w'.ownsRow 0 e size v' (n + m) (xs ++ news) → w.grownBy w' v.ownBlock → Later w v.ownBlock v'.ownBlock → (v' = .slice none 0 0 ↔ v = .slice none 0 0 ∧ m = 0) → wpList P ops Q rest (a.put o.dst v') w') : wpList P ops Q (o :: rest) a w := by
  refine wpList_plain hgd fun K hK => ?_
  obtain ⟨v', w', hr, h2, h3, h4, h5⟩ := run_append_cells0 (P := P) w t o.type e i z size bytes ht hi hz hsize hby hzs hsz v n xs hown ad m c news hl hnews h1 h63 hbytes
  unfold Oper.wp execOp
  simp only [ho, resolve, invoke, builtin, Sem.run_bind, Sem.run_pure, Result.andThen_ok, List.map_toArray, List.map_cons, List.map_nil, hs, hx, hr]
  exact hK _ _ (h v' w' h2 h3 h4 h5)

end
end Go.Proofs.YtggogaaooacooaaDoor
namespace Go.Proofs.YtggogaaooacooaaDoor
open Go.RowKit
set_option maxRecDepth 100000

/-- The variables' numbers, by the error's number less 1. -/
def gErrs : List Nat := [4, 5, 6, 7, 8, 0, 1, 9, 10, 11, 12, 2, 13, 14, 15, 16, 3, 17, 18, 19, 20, 21, 22, 23, 24, 25, 26, 27, 28, 29, 30, 31, 32, 33, 34, 35, 36]

/-- The errors' variables hold pointers to different texts; ad: where the text of error n lies. -/
structure Errs (ad : Nat → Addr) (w : World) : Prop where
  cells : ∀ i g, gErrs[i]? = some g → w.cell? ⟨g, 0, none⟩ = some (.iface 168 (.pointer (some (ad (i + 1)))))
  apart : ∀ i j, i < 37 → j < 37 → ad (i + 1) = ad (j + 1) → i = j
  blk : ∀ i, i < 37 → ∃ c t, w.heap[(ad (i + 1)).block]? = some (.cells c t (0, 0))

/-- The error of number n (0: none). -/
def errV (ad : Nat → Addr) (n : Nat) : Value := if n = 0 then .nilIface else .iface 168 (.pointer (some (ad n)))

theorem errV_zero (ad : Nat → Addr) : errV ad 0 = .nilIface := rfl
theorem errV_pos (ad : Nat → Addr) {n : Nat} (h : 0 < n) : errV ad n = .iface 168 (.pointer (some (ad n))) := if_neg (by omega)

/-- No error's variable, and none of their texts, lies in a block of S. -/
structure OffErrs (ad : Nat → Addr) (S : Nat → Prop) : Prop where
  vars : ∀ g, g ∈ gErrs → ¬ S g
  texts : ∀ i, i < 37 → ¬ S (ad (i + 1)).block
theorem OffErrs.none (ad : Nat → Addr) : OffErrs ad (fun _ => False) := ⟨fun _ _ h => h, fun _ _ h => h⟩
theorem OffErrs.mono {ad : Nat → Addr} {S T : Nat → Prop} (h : OffErrs ad S) (k : ∀ i, T i → S i) : OffErrs ad T := ⟨fun g hg ht => h.vars g hg (k g ht), fun i hi ht => h.texts i hi (k _ ht)⟩

theorem Errs.kept {ad : Nat → Addr} {S : Nat → Prop} {w w' : World} (h : Errs ad w) (hk : Keeps S w w') (hS : OffErrs ad S) : Errs ad w' := by
  refine ⟨fun i g hg => ?_, h.apart, fun i hi => ?_⟩
  · have hc := h.cells i g hg
    rw [hk.cell (World.block_lt_of_cell? w _ hc) (hS.vars g (List.mem_of_getElem? hg))]
    exact hc
  · obtain ⟨c, t, hb⟩ := h.blk i hi
    exact ⟨c, t, (hk.block _ (lt_of_block hb) (hS.texts i hi)).trans hb⟩
theorem Errs.drewN {ad : Nat → Addr} {w : World} (h : Errs ad w) (n : Nat) : Errs ad (w.drewN n) := ⟨h.cells, h.apart, h.blk⟩
theorem Errs.drew {ad : Nat → Addr} {w : World} (h : Errs ad w) : Errs ad w.drew := ⟨h.cells, h.apart, h.blk⟩
theorem Errs.alloc {ad : Nat → Addr} {w : World} (h : Errs ad w) (o : Obj) : Errs ad (w.alloc o) := h.kept (S := fun _ => False) ((Keeps.refl _ _).alloc o) (OffErrs.none ad)

/-! ### remitnum -/

/-- The array of list. -/
def errArr (ad : Nat → Addr) : Array Value := ((List.range 37).map fun i => Value.iface 168 (.pointer (some (ad (i + 1))))).toArray

set_option maxHeartbeats 2000000 in
theorem list_any (ad : Nat → Addr) (w : World) (hE : Errs ad w) :
    Calls Tryd.prog 34 #[] w fun e w' => e = .returned (.agg (errArr ad)) ∧ Keeps (fun _ => False) w w' := by
  go_enter Tryd.func34, Tryd.ntmps34
  go_upto_region 1 with (fail)
  have hE1 : ∀ o, Errs ad (w.alloc o) := fun o => hE.alloc o
  have hk1 : ∀ o, Keeps (fun _ => False) w (w.alloc o) := fun o => (Keeps.refl _ _).alloc o
  have hb1 : ∀ o, (w.alloc o).heap[w.heap.size]? = some o := heap_alloc_new w
  clear hE
  generalize hw : w.alloc _ = w1
  have hE := hw ▸ hE1 _
  have hk := Lib.hid (hw ▸ hk1 _)
  have hb := Lib.hid (hw ▸ hb1 _)
  clear hE1 hk1 hb1 hw
  have c1 : w1.cell? ⟨4, 0, none⟩ = some (.iface 168 (.pointer (some (ad 1)))) := hE.cells 0 _ rfl
  have c2 : w1.cell? ⟨5, 0, none⟩ = some (.iface 168 (.pointer (some (ad 2)))) := hE.cells 1 _ rfl
  have c3 : w1.cell? ⟨6, 0, none⟩ = some (.iface 168 (.pointer (some (ad 3)))) := hE.cells 2 _ rfl
  have c4 : w1.cell? ⟨7, 0, none⟩ = some (.iface 168 (.pointer (some (ad 4)))) := hE.cells 3 _ rfl
  have c5 : w1.cell? ⟨8, 0, none⟩ = some (.iface 168 (.pointer (some (ad 5)))) := hE.cells 4 _ rfl
  have c6 : w1.cell? ⟨0, 0, none⟩ = some (.iface 168 (.pointer (some (ad 6)))) := hE.cells 5 _ rfl
  have c7 : w1.cell? ⟨1, 0, none⟩ = some (.iface 168 (.pointer (some (ad 7)))) := hE.cells 6 _ rfl
  have c8 : w1.cell? ⟨9, 0, none⟩ = some (.iface 168 (.pointer (some (ad 8)))) := hE.cells 7 _ rfl
  have c9 : w1.cell? ⟨10, 0, none⟩ = some (.iface 168 (.pointer (some (ad 9)))) := hE.cells 8 _ rfl
  have c10 : w1.cell? ⟨11, 0, none⟩ = some (.iface 168 (.pointer (some (ad 10)))) := hE.cells 9 _ rfl
  have c11 : w1.cell? ⟨12, 0, none⟩ = some (.iface 168 (.pointer (some (ad 11)))) := hE.cells 10 _ rfl
  have c12 : w1.cell? ⟨2, 0, none⟩ = some (.iface 168 (.pointer (some (ad 12)))) := hE.cells 11 _ rfl
  have c13 : w1.cell? ⟨13, 0, none⟩ = some (.iface 168 (.pointer (some (ad 13)))) := hE.cells 12 _ rfl
  have c14 : w1.cell? ⟨14, 0, none⟩ = some (.iface 168 (.pointer (some (ad 14)))) := hE.cells 13 _ rfl
  have c15 : w1.cell? ⟨15, 0, none⟩ = some (.iface 168 (.pointer (some (ad 15)))) := hE.cells 14 _ rfl
  have c16 : w1.cell? ⟨16, 0, none⟩ = some (.iface 168 (.pointer (some (ad 16)))) := hE.cells 15 _ rfl
  have c17 : w1.cell? ⟨3, 0, none⟩ = some (.iface 168 (.pointer (some (ad 17)))) := hE.cells 16 _ rfl
  have c18 : w1.cell? ⟨17, 0, none⟩ = some (.iface 168 (.pointer (some (ad 18)))) := hE.cells 17 _ rfl
  have c19 : w1.cell? ⟨18, 0, none⟩ = some (.iface 168 (.pointer (some (ad 19)))) := hE.cells 18 _ rfl
  have c20 : w1.cell? ⟨19, 0, none⟩ = some (.iface 168 (.pointer (some (ad 20)))) := hE.cells 19 _ rfl
  have c21 : w1.cell? ⟨20, 0, none⟩ = some (.iface 168 (.pointer (some (ad 21)))) := hE.cells 20 _ rfl
  have c22 : w1.cell? ⟨21, 0, none⟩ = some (.iface 168 (.pointer (some (ad 22)))) := hE.cells 21 _ rfl
  have c23 : w1.cell? ⟨22, 0, none⟩ = some (.iface 168 (.pointer (some (ad 23)))) := hE.cells 22 _ rfl
  have c24 : w1.cell? ⟨23, 0, none⟩ = some (.iface 168 (.pointer (some (ad 24)))) := hE.cells 23 _ rfl
  have c25 : w1.cell? ⟨24, 0, none⟩ = some (.iface 168 (.pointer (some (ad 25)))) := hE.cells 24 _ rfl
  have c26 : w1.cell? ⟨25, 0, none⟩ = some (.iface 168 (.pointer (some (ad 26)))) := hE.cells 25 _ rfl
  have c27 : w1.cell? ⟨26, 0, none⟩ = some (.iface 168 (.pointer (some (ad 27)))) := hE.cells 26 _ rfl
  have c28 : w1.cell? ⟨27, 0, none⟩ = some (.iface 168 (.pointer (some (ad 28)))) := hE.cells 27 _ rfl
  have c29 : w1.cell? ⟨28, 0, none⟩ = some (.iface 168 (.pointer (some (ad 29)))) := hE.cells 28 _ rfl
  have c30 : w1.cell? ⟨29, 0, none⟩ = some (.iface 168 (.pointer (some (ad 30)))) := hE.cells 29 _ rfl
  have c31 : w1.cell? ⟨30, 0, none⟩ = some (.iface 168 (.pointer (some (ad 31)))) := hE.cells 30 _ rfl
  have c32 : w1.cell? ⟨31, 0, none⟩ = some (.iface 168 (.pointer (some (ad 32)))) := hE.cells 31 _ rfl
  have c33 : w1.cell? ⟨32, 0, none⟩ = some (.iface 168 (.pointer (some (ad 33)))) := hE.cells 32 _ rfl
  have c34 : w1.cell? ⟨33, 0, none⟩ = some (.iface 168 (.pointer (some (ad 34)))) := hE.cells 33 _ rfl
  have c35 : w1.cell? ⟨34, 0, none⟩ = some (.iface 168 (.pointer (some (ad 35)))) := hE.cells 34 _ rfl
  have c36 : w1.cell? ⟨35, 0, none⟩ = some (.iface 168 (.pointer (some (ad 36)))) := hE.cells 35 _ rfl
  have c37 : w1.cell? ⟨36, 0, none⟩ = some (.iface 168 (.pointer (some (ad 37)))) := hE.cells 36 _ rfl
  clear hE
  obtain ⟨b, hbe⟩ : ∃ b, w.heap.size = b := ⟨_, rfl⟩
  rw [hbe] at hb ⊢
  have hle : w.heap.size ≤ b := by omega
  clear hbe
  go_wp2_with (refine wpList_store_row _ rfl 85 _ _ rfl b _ _ 85 rfl rfl hb.out ?hi ?hs ?h1 ?_)
  case hi => kernel_rfl
  case hs => rfl
  case h1 => simp [Value.oneCell']
  have hset := fun cs => setRow_heap w1 b _ cs 85 (0, 0) hb.out
  have fin := Lib.hid (fun cs => Keeps.setRow (g := b) hk.out (fun h => absurd h (by omega)) cs)
  go_wp2
  refine bodyPost_ret (v := .agg (errArr ad)) (results_cell_row (p := 0) (ty := 85) (by kernel_rfl) _ _ b 85 (errArr ad) (0, 0) _ rfl (hset _) Tryd.underlying85 rfl (by kernel_rfl)) rfl ⟨rfl, fin.out _⟩
end Go.Proofs.YtggogaaooacooaaDoor
