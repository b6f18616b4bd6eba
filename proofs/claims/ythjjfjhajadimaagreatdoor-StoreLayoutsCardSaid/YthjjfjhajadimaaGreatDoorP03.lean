/-
  Joined: GSpec, Own.
-/
import Derived.Test.YthjjfjhajadimaaGreatDoorP02
import Derived.Lib.FrozenHead
import Derived.Below
import Derived.WalkKit
import Derived.Lib.Hide
import Derived.Deep.QuietTactic
import Derived.BigQuiet
import Derived.Test.YthjjfjhajadimaaGreatDoorProg
namespace Go.Proofs.YthjjfjhajadimaaGreatDoor.G
set_option maxRecDepth 100000
def slotV (raw : List UInt8) (i : Nat) : Option (Nat × List UInt8) :=
 if raw.length = 256 /\ E.front raw = E.back raw /\ 1 <= E.front raw /\ E.front raw <= 1099511627776 /\ E.front raw % 2 = i then (E.openS (E.front raw) raw).map fun p => (E.front raw, p) else none
def best : Option (Nat × List UInt8) -> Option (Nat × List UInt8) -> Option (Nat × List UInt8)
 | none, y => y
 | x, none => x
 | some x, some y => if x.1 < y.1 then some y else some x
theorem best_some (a b : Nat × List UInt8) : best (some a) (some b) = if a.1 < b.1 then some b else some a := rfl
def readS (s : Nat -> List UInt8) : Option (Nat × List UInt8) := best (slotV (s 0) 0) (slotV (s 1) 1)
theorem slotV_some {raw : List UInt8} {i v : Nat} {p : List UInt8} (h : slotV raw i = some (v, p)) : 1 <= v /\ v <= 1099511627776 /\ v % 2 = i /\ p.length <= 234 /\ raw = E.sct v p := by
 unfold slotV at h
 split at h
 ·rename_i k
  obtain ⟨k1, k2, k3, k4, k5⟩ := k
  cases hq : E.openS (E.front raw) raw with
  | none => rw [hq] at h; cases h
  | some q =>
   rw [hq] at h
   simp only [Option.map_some, Option.some.injEq, Prod.mk.injEq] at h
   obtain ⟨h1, h2⟩ := h
   subst h1 h2
   obtain ⟨a, b, c⟩ := E.open_some hq
   exact ⟨k3, k4, k5, a, c⟩
 ·cases h
theorem slotV_sct {v i : Nat} {p : List UInt8} (h1 : 1 <= v) (h2 : v <= 1099511627776) (h3 : v % 2 = i) (hp : p.length <= 234) : slotV (E.sct v p) i = some (v, p) := by
 have hv : v < 2 ^ 64 := Nat.lt_of_le_of_lt h2 (by decide)
 have hf := E.sct_front hv p
 have hb := E.sct_back hv hp
 unfold slotV
 rw [hf, hb, if_pos ⟨E.sct_length v hp, rfl, h1, h2, h3⟩, E.open_sct (by omega) hp]
 rfl
theorem counts_of {v : Nat} {p : List UInt8} (h1 : 1 <= v) (hp : p.length <= 234) : E.counts v (E.sct v p) = true := E.counts_sct (by omega) hp
def zeros : List UInt8 := List.replicate 256 0
theorem zeros_length : zeros.length = 256 := List.length_replicate
theorem zeros_front : E.front zeros = 0 := by unfold E.front zeros; rw [List.take_replicate]; exact E.num_zeros _
theorem zeros_back : E.back zeros = 0 := by unfold E.back zeros; rw [List.drop_replicate]; exact E.num_zeros _
theorem slotV_zeros (i : Nat) : slotV zeros i = none := by
 unfold slotV; rw [zeros_front]; exact if_neg (fun h => by omega)
def stand (v : Nat) (p : List UInt8) : List UInt8 := if v = 0 then zeros else E.sct v p
theorem stand_length {v : Nat} {p : List UInt8} (hp : p.length <= 234) : (stand v p).length = 256 := by
 unfold stand; split
 ·exact zeros_length
 ·exact E.sct_length v hp
theorem stand_front {v : Nat} (hv : v <= 1099511627776) (p : List UInt8) : E.front (stand v p) = v := by
 unfold stand; split
 ·rename_i h; rw [zeros_front, h]
 ·exact E.sct_front (Nat.lt_of_le_of_lt hv (by decide)) p
theorem stand_back {v : Nat} (hv : v <= 1099511627776) {p : List UInt8} (hp : p.length <= 234) : E.back (stand v p) = v := by
 unfold stand; split
 ·rename_i h; rw [zeros_back, h]
 ·exact E.sct_back (Nat.lt_of_le_of_lt hv (by decide)) hp
theorem tear_again (O B : List UInt8) (m n : Nat) (hB : B.length = 256) (hm : m <= 256) (hn : n <= 256) : E.tear (E.tear O B m) B n = E.tear O B (max m n) := by
 unfold E.tear
 apply List.ext_getElem?
 intro j
 by_cases h1 : j < n
 ·rw [List.getElem?_append_left (by simp; omega), List.getElem?_append_left (by simp; omega), List.getElem?_take_of_lt h1, List.getElem?_take_of_lt (by omega)]
 ·rw [List.getElem?_append_right (by simp; omega), List.length_take, List.getElem?_drop, show n + (j - min n B.length) = j by omega]
  by_cases h2 : j < m
  ·rw [List.getElem?_append_left (by simp; omega), List.getElem?_append_left (by simp; omega), List.getElem?_take_of_lt h2, List.getElem?_take_of_lt (by omega)]
  ·rw [List.getElem?_append_right (by simp; omega), List.getElem?_append_right (by simp; omega), List.length_take, List.length_take, List.getElem?_drop, List.getElem?_drop]
   congr 1; omega
theorem tear_none (O B : List UInt8) : E.tear O B 0 = O := by unfold E.tear; simp
theorem tear_all (O B : List UInt8) (hO : O.length = 256) (hB : B.length = 256) : E.tear O B 256 = B := by
 unfold E.tear
 rw [List.take_of_length_le (by omega), List.drop_eq_nil_of_le (by omega), List.append_nil]
theorem torn_slot {n o i : Nat} {old next : List UInt8} (ho : o + 1 = n \/ o = 0) (hn : n + 1 <= 1099511627776) (h1 : old.length <= 234) (h2 : next.length <= 234) {m : Nat} (hm : m <= 256) {v : Nat} {p : List UInt8}
  (h : slotV (E.tear (stand o old) (E.sct (n + 1) next) m) i = some (v, p)) : (v = n + 1 /\ p = next) \/ (v = o /\ 1 <= o) := by
 obtain ⟨a1, a2, a3, a4, a5⟩ := slotV_some h
 have hol : o <= 1099511627776 := by omega
 have hc : E.counts v (E.tear (stand o old) (E.sct (n + 1) next) m) = true := by rw [a5]; exact counts_of a1 a4
 have ht := E.one_tear (stand_length h1) (E.sct_length (n + 1) h2) (stand_front hol old) (stand_back hol h1) (E.sct_front (Nat.lt_of_le_of_lt hn (by decide)) next) (E.sct_back (Nat.lt_of_le_of_lt hn (by decide)) h2) (by omega) hm (Nat.lt_of_le_of_lt a2 (by decide)) hc
 rcases ht with ⟨e1, e2⟩ | ⟨e1, e2⟩
 ·refine .inl ⟨e1, ?_⟩
  have e3 : E.sct v p = E.sct (n + 1) next := a5.symm.trans e2
  have k1 := E.sct_pay v a4
  have k2 := E.sct_pay (n + 1) h2
  rw [<- k1, e3, k2]
 ·exact .inr ⟨e1, by omega⟩
structure Keeps (s : Nat -> List UInt8) (n : Nat) (val : List UInt8) (o : Nat) (old : List UInt8) (next : List UInt8) (m : Nat) : Prop where
 own : s (n % 2) = stand n val
 other : s ((n + 1) % 2) = E.tear (stand o old) (E.sct (n + 1) next) m
 o : o + 1 = n \/ o = 0
 n : n + 1 <= 1099511627776
 val : val.length <= 234
 old : old.length <= 234
 next : next.length <= 234
 m : m <= 256
theorem slotV_stand {n : Nat} {p : List UInt8} (hn : n <= 1099511627776) (hp : p.length <= 234) : slotV (stand n p) (n % 2) = if n = 0 then none else some (n, p) := by
 unfold stand
 split
 ·exact slotV_zeros _
 ·exact slotV_sct (by omega) hn rfl hp
theorem best_comm {x y : Option (Nat × List UInt8)} (h : ∀ a b, x = some a -> y = some b -> a.1 ≠ b.1) : best x y = best y x := by
 cases x with
 | none => cases y <;> rfl
 | some a =>
  cases y with
  | none => rfl
  | some b =>
   have := h a b rfl rfl
   rw [best_some, best_some]
   by_cases h1 : a.1 < b.1
   ·rw [if_pos h1, if_neg (by omega)]
   ·rw [if_neg h1, if_pos (by omega)]
theorem slot_parity {raw : List UInt8} {i : Nat} {a : Nat × List UInt8} (h : slotV raw i = some a) : a.1 % 2 = i := (slotV_some (v := a.1) (p := a.2) h).2.2.1
theorem readS_own (s : Nat -> List UInt8) (n : Nat) : readS s = best (slotV (s (n % 2)) (n % 2)) (slotV (s ((n + 1) % 2)) ((n + 1) % 2)) := by
 unfold readS
 rcases Nat.mod_two_eq_zero_or_one n with h | h
 ·rw [h, show (n + 1) % 2 = 1 by omega]
 ·rw [h, show (n + 1) % 2 = 0 by omega]
  exact best_comm (fun a b ha hb => by have := slot_parity ha; have := slot_parity hb; omega)
theorem Keeps.read {s : Nat -> List UInt8} {n o m : Nat} {val old next : List UInt8} (h : Keeps s n val o old next m) :
  readS s = some (n + 1, next) \/ readS s = if n = 0 then none else some (n, val) := by
 have hown := slotV_stand (n := n) (p := val) (by have := h.n; omega) h.val
 rw [<- h.own] at hown
 rw [readS_own s n, hown]
 cases ht : slotV (s ((n + 1) % 2)) ((n + 1) % 2) with
 | none =>
  right
  split <;> rfl
 | some a =>
  obtain ⟨v, p⟩ := a
  have hs := ht
  rw [h.other] at hs
  rcases torn_slot h.o h.n h.old h.next h.m hs with ⟨rfl, rfl⟩ | ⟨rfl, ho⟩
  ·left
   split
   ·rfl
   ·rw [best_some, if_pos (by simp)]
  ·right
   have h1 := h.o
   have hn0 : n ≠ 0 := by omega
   rw [if_neg hn0]
   rw [best_some, if_neg (by simp; omega)]
theorem Keeps.next_there {s : Nat -> List UInt8} {n o m : Nat} {val old next : List UInt8} (h : Keeps s n val o old next m) {p : List UInt8} (hr : readS s = some (n + 1, p)) : s ((n + 1) % 2) = E.sct (n + 1) next := by
 have hown := slotV_stand (n := n) (p := val) (by have := h.n; omega) h.val
 rw [<- h.own] at hown
 rw [readS_own s n, hown] at hr
 cases ht : slotV (s ((n + 1) % 2)) ((n + 1) % 2) with
 | none =>
  rw [ht] at hr
  split at hr
  ·cases hr
  ·simp [best] at hr
 | some a =>
  obtain ⟨v, q⟩ := a
  have h5 := (slotV_some ht).2.2.2.2
  have hs := ht
  rw [h.other] at hs
  rcases torn_slot h.o h.n h.old h.next h.m hs with ⟨rfl, rfl⟩ | ⟨rfl, ho⟩
  ·exact h5
  ·rw [ht] at hr
   exfalso
   have h1 := h.o
   have hn0 : n ≠ 0 := by omega
   rw [if_neg hn0] at hr
   rw [best_some, if_neg (by simp; omega)] at hr
   simp at hr
theorem Keeps.again {s : Nat -> List UInt8} {n o m : Nat} {val old next : List UInt8} (h : Keeps s n val o old next m) {k : Nat} (hk : k <= 256) {t : Nat -> List UInt8} (ht : t (n % 2) = s (n % 2)) (ht2 : t ((n + 1) % 2) = E.tear (s ((n + 1) % 2)) (E.sct (n + 1) next) k) :
  Keeps t n val o old next (max m k) :=
 ⟨ht.trans h.own, by rw [ht2, h.other, tear_again _ _ _ _ (E.sct_length (n + 1) h.next) h.m hk], h.o, h.n, h.val, h.old, h.next, by have := h.m; omega⟩
theorem Keeps.step {s : Nat -> List UInt8} {n o m : Nat} {val old next : List UInt8} (h : Keeps s n val o old next m) (hs : s ((n + 1) % 2) = E.sct (n + 1) next) {after : List UInt8} (ha : after.length <= 234) (hn : n + 2 <= 1099511627776) : Keeps s (n + 1) next n val after 0 := by
 refine ⟨?_, ?_, .inl rfl, hn, h.next, h.val, ha, by omega⟩
 ·rw [hs]; unfold stand; rw [if_neg (by omega)]
 ·rw [tear_none, show (n + 1 + 1) % 2 = n % 2 by omega]; exact h.own
theorem Keeps.other_next {s : Nat -> List UInt8} {n o : Nat} {val old next : List UInt8} (h : Keeps s n val o old next 0) {after : List UInt8} (ha : after.length <= 234) : Keeps s n val o old after 0 :=
 ⟨h.own, by rw [h.other, tear_none, tear_none], h.o, h.n, h.val, h.old, ha, by omega⟩
end Go.Proofs.YthjjfjhajadimaaGreatDoor.G
namespace Go.Proofs.YthjjfjhajadimaaGreatDoor
open Go.RowKit
structure Keeps (S : Nat -> Prop) (w w' : World) : Prop where
 os : w'.os = w.os
 tape : w'.tape = w.tape
 output : w'.output = w.output
 size : w.heap.size <= w'.heap.size
 block : ∀ k, k < w.heap.size -> ¬ S k -> w'.heap[k]? = w.heap[k]?
theorem Keeps.refl (S : Nat -> Prop) (w : World) : Keeps S w w := ⟨rfl, rfl, rfl, Nat.le_refl _, fun _ _ _ => rfl⟩
theorem Keeps.trans {S T : Nat -> Prop} {a b c : World} (h : Keeps S a b) (k : Keeps T b c) (hT : ∀ i, i < a.heap.size -> T i -> S i) : Keeps S a c :=
 ⟨k.os.trans h.os, k.tape.trans h.tape, k.output.trans h.output, Nat.le_trans h.size k.size, fun i hi hn =>
  (k.block i (Nat.lt_of_lt_of_le hi h.size) (fun t => hn (hT i hi t))).trans (h.block i hi hn)⟩
theorem Keeps.mono {S T : Nat -> Prop} {w w' : World} (h : Keeps S w w') (hT : ∀ i, i < w.heap.size -> S i -> T i) : Keeps T w w' :=
 ⟨h.os, h.tape, h.output, h.size, fun i hi hn => h.block i hi (fun s => hn (hT i hi s))⟩
theorem Keeps.drew {S : Nat -> Prop} {a w : World} (h : Keeps S a w) : Keeps S a w.drew := ⟨h.os, h.tape, h.output, h.size, h.block⟩
theorem Keeps.drewN {S : Nat -> Prop} {a w : World} (h : Keeps S a w) (n : Nat) : Keeps S a (w.drewN n) := ⟨h.os, h.tape, h.output, h.size, h.block⟩
theorem Keeps.alloc {S : Nat -> Prop} {a w : World} (h : Keeps S a w) (o : Obj) : Keeps S a (w.alloc o) :=
 h.trans (T := fun _ => False) ⟨rfl, rfl, rfl, by simp, fun k hk _ => Below.heap_alloc _ _ _ hk⟩ (fun _ _ h => h.elim)
theorem Keeps.setCell {S : Nat -> Prop} {a w : World} (h : Keeps S a w) {p : Addr} (hp : p.block < a.heap.size -> S p.block) (u : Value) : Keeps S a (w.setCell p u) :=
 h.trans (T := fun k => k = p.block) ⟨rfl, rfl, rfl, by simp [World.setCell], fun k _ hn => Below.heap_setCell _ _ _ _ hn⟩ (fun i hi e => by subst e; exact hp hi)
theorem Keeps.grown {S : Nat -> Prop} {a w w' : World} {row : Option Nat} (h : Keeps S a w) (hg : w.grownBy w' row) (hr : ∀ k, k < a.heap.size -> some k = row -> S k) : Keeps S a w' :=
 h.trans (T := fun k => some k = row) ⟨hg.os, hg.tape, hg.output, hg.size, fun k hk hn => hg.block k hk hn⟩ hr
theorem Keeps.freeze {S : Nat -> Prop} {a w : World} (h : Keeps S a w) {p : Addr} (hp : p.block < a.heap.size -> S p.block) (n : Nat) : Keeps S a (w.freeze p n) := by
 refine h.trans (T := fun k => k = p.block) ?_ (fun i hi e => by subst e; exact hp hi)
 unfold World.freeze
 split
 ·exact Keeps.refl _ _
 ·refine ⟨rfl, rfl, rfl, by simp, fun k _ hn => ?_⟩
  simp only [Array.getElem?_modify]
  rw [if_neg (fun e => hn e.symm)]
theorem Keeps.cell {S : Nat -> Prop} {w w' : World} (h : Keeps S w w') {p : Addr} (hp : p.block < w.heap.size) (hn : ¬ S p.block) : w'.cell? p = w.cell? p := World.cell?_of_block (w := w) (h.block p.block hp hn)
theorem Keeps.below {S : Nat -> Prop} {B : Nat} {w w' : World} (h : Keeps S w w') (hB : B <= w.heap.size) (hS : ∀ k, k < B -> ¬ S k) : Below B w w' :=
 ⟨h.os, h.tape, h.output, h.size, fun k hk => h.block k (by omega) (hS k hk)⟩
theorem Keeps.of_below {B : Nat} {w w' : World} (h : Below B w w') : Keeps (fun k => B <= k) w w' :=
 ⟨h.os, h.tape, h.output, h.size, fun k _ hn => h.block k (by omega)⟩
theorem lt_of_block {w : World} {b : Nat} {o : Obj} (h : w.heap[b]? = some o) : b < w.heap.size := (Array.getElem?_eq_some_iff.1 h).1
theorem ownsRowF_kept {S : Nat -> Prop} {w w' : World} {base : Nat} {e : TypeId} {size : Nat} {v : Value} {n : Nat} {xs : List Value} (h : w.ownsRowF base e size v n xs) (hk : Keeps S w w') (hn : ∀ k, v.ownBlock = some k -> ¬ S k) : w'.ownsRowF base e size v n xs := by
 refine ⟨h.1, ?_⟩
 rcases h.2 with h2 | ⟨g, cap, cur, fz, rfl, hb, hg, rest⟩
 ·exact .inl h2
 ·exact .inr ⟨g, cap, cur, fz, rfl, hb, by rw [hk.block g (lt_of_block hg) (hn g rfl)]; exact hg, rest⟩
theorem ownsRowF_lt {w : World} {base : Nat} {e : TypeId} {size : Nat} {v : Value} {n : Nat} {xs : List Value} (h : w.ownsRowF base e size v n xs) {k : Nat} (hk : v.ownBlock = some k) : k < w.heap.size := (h.lt k hk).2
def Later (w : World) (r r' : Option Nat) : Prop := r' = r \/ ∃ g, r' = some g /\ w.heap.size <= g
theorem Later.refl (w : World) (r : Option Nat) : Later w r r := .inl rfl
theorem Later.trans {w w1 : World} {r r1 r2 : Option Nat} (h : Later w r r1) (hs : w.heap.size <= w1.heap.size) (k : Later w1 r1 r2) : Later w r r2 := by
 rcases k with rfl | ⟨g, rfl, hg⟩
 ·exact h
 ·exact .inr ⟨g, rfl, by omega⟩
theorem Later.of_le {w w1 : World} {r r1 : Option Nat} (h : Later w1 r r1) (hs : w.heap.size <= w1.heap.size) : Later w r r1 := (Later.refl w r).trans hs h
section
variable {P : Program} (w : World)
theorem run_append_roomF (t ty e : TypeId) (i : TypeInfo) (ht : P.underlying t = some (.slice e)) (hi : P.info? e = some i)
  (g sLen sCap : Nat) (cur : Array Value) (fz : Nat × Nat) (hg : w.heap[g]? = some (.cells cur e fz)) (hfz : fz.2 <= sLen * i.size)
  (a : Addr) (m c : Nat) (news : List Value) (hl : news.length = m * i.size) (hnews : ∀ j u, news[j]? = some u -> w.cell? (a.add j) = some u) (h1 : ∀ u ∈ news, u.oneCell' = true)
  (hroom : sLen + m <= sCap) (hfit : sLen * i.size + news.length <= cur.size) :
  (Builtin.append_ #[t, t] ty #[.slice (some ⟨g, 0, none⟩) sLen sCap, .slice (some a) m c]).run P w =
   .ok (.slice (some ⟨g, 0, none⟩) (sLen + m) sCap) (w.setRow g (cur.toList.take (sLen * i.size) ++ news ++ cur.toList.drop (sLen * i.size + news.length)).toArray) := by
 have hf := run_firstCells_some (P := P) w i.size m a m c news hl hnews
 have hst := run_storeCells_atF P g (sLen * i.size) e fz news 0 cur w hg (by simpa using hfz) (by simpa using hfit) h1
 simp only [Nat.add_zero] at hst
 simp [Builtin.append_, run_underlying ht, sizeOf, typeInfo, hi, Builtin.lenOf, hroom, hf, Addr.add_lit, hst]
theorem run_append_cellsF (t ty e : TypeId) (i : TypeInfo) (z : Value) (size bytes : Nat) (ht : P.underlying t = some (.slice e)) (hi : P.info? e = some i) (hz : i.zero = some z)
  (hsize : i.size = size) (hby : i.bytes = bytes) (hzs : z.cells.size = size) (hsz : 0 < size)
  (v : Value) (n : Nat) (xs : List Value) (hown : w.ownsRowF 0 e size v n xs)
  (a : Addr) (m c : Nat) (news : List Value) (hl : news.length = m * size) (hnews : ∀ j u, news[j]? = some u -> w.cell? (a.add j) = some u) (h1 : ∀ u ∈ news, u.oneCell' = true)
  (h63 : n + m <= maxLen) (hbytes : (n + m) * bytes <= 140737488355328) :
  ∃ v' w', (Builtin.append_ #[t, t] ty #[v, .slice (some a) m c]).run P w = .ok v' w' /\ w'.ownsRowF 0 e size v' (n + m) (xs ++ news) /\ w.grownBy w' v.ownBlock /\ Later w v.ownBlock v'.ownBlock /\
   (v' = .slice none 0 0 ↔ v = .slice none 0 0 /\ m = 0) := by
 subst hsize
 subst hby
 have hsmall : n + m <= 9223372036854775807 := by simp only [maxLen] at h63; omega
 have hlen : (xs ++ news).length = (n + m) * i.size := by rw [List.length_append, hown.1, hl, Nat.add_mul]
 have grown : ∀ (old : Nat), old < n + m -> ∀ (row : Option Nat),
   (w.drew.alloc (.cells (xs.toArray ++ news.toArray ++ Builtin.zeroCells z.cells (grownCap w (n + m) old e - (n + m))) e)).ownsRowF 0 e i.size
    (.slice (some ⟨w.heap.size, 0, none⟩) (n + m) (grownCap w (n + m) old e)) (n + m) (xs ++ news) /\
   w.grownBy (w.drew.alloc (.cells (xs.toArray ++ news.toArray ++ Builtin.zeroCells z.cells (grownCap w (n + m) old e - (n + m))) e)) row := by
  intro old ho row
  have hge := grownCap_ge w (n + m) old e
  have hcm : grownCap w (n + m) old e <= maxLen := grownCap_le_maxLen w (n + m) old e h63
  refine ⟨⟨hlen, .inr ⟨w.heap.size, _, _, (0, 0), rfl, Nat.zero_le _, heap_alloc_new w.drew _, Nat.zero_le _, hge, hcm, ?_, ?_⟩⟩, ⟨rfl, rfl, rfl, by simp, fun k hk _ => Below.heap_alloc w.drew _ k hk⟩⟩
  ·simp only [Array.size_append, List.size_toArray, size_zeroCells, hzs, hown.1, hl, <- Nat.add_mul]
   congr 1
   omega
  ·simp only [Array.toList_append, List.append_assoc]
   rw [<- List.append_assoc, <- hlen]
   exact List.take_left
 rcases hown.2 with ⟨rfl, rfl⟩ | ⟨g, cap, cur, fz, rfl, hbg, hg, hfz, hnc, hcm, hcs, htake⟩
 ·have hx : xs = [] := List.eq_nil_of_length_eq_zero (by simpa using hown.1)
  subst hx
  by_cases hm : m = 0
  ·subst hm
   have hn : news = [] := List.eq_nil_of_length_eq_zero (by simpa using hl)
   subst hn
   refine ⟨.slice none 0 0, w, ?_, World.ownsRowF_nil w 0 e i.size, ⟨rfl, rfl, rfl, Nat.le_refl _, fun _ _ _ => rfl⟩, .inl rfl, by simp⟩
   simp [Builtin.append_, run_underlying ht, sizeOf, typeInfo, hi, Builtin.lenOf, Builtin.firstCells, loadCells, loadCellsFrom]
  ·have hr := run_append_nil (P := P) w t ty e i z ht hi hz a m c news hl hnews (by omega) (by omega) (by have hb := hbytes; simp only [Nat.zero_add] at hb; omega)
   have hgr := grown 0 (by omega) (Value.ownBlock (.slice none 0 0))
   simp only [Nat.zero_add, List.nil_append, Array.empty_append] at hgr ⊢
   exact ⟨_, _, hr, hgr.1, hgr.2, .inr ⟨_, rfl, Nat.le_refl _⟩, by simp [hm]⟩
 ·by_cases hroom : n + m <= cap
  ·have hfit : n * i.size + news.length <= cur.size := by rw [hl, hcs, <- Nat.add_mul]; exact Nat.mul_le_mul_right _ hroom
   have hr := run_append_roomF (P := P) w t ty e i ht hi g n cap cur fz hg hfz a m c news hl hnews h1 hroom hfit
   refine ⟨_, _, hr, ⟨hlen, .inr ⟨g, cap, _, fz, rfl, hbg, setRow_heap w g cur _ e _ hg, ?_, hroom, hcm, ?_, ?_⟩⟩, ⟨rfl, rfl, rfl, by simp, fun k _ hk => setRow_other w g k _ (fun e => hk (by simp [Value.ownBlock, e]))⟩, .inl rfl, by simp⟩
   ·rw [Nat.add_mul]; omega
   ·simp only [List.size_toArray, List.length_append, List.length_take, List.length_drop, Array.length_toList]
    omega
   ·rw [htake, <- hlen]
    exact List.take_left
  ·have holds : ∀ j u, xs[j]? = some u -> w.cell? ((⟨g, 0, none⟩ : Addr).add j) = some u := hown.cells (g := g) rfl
   have hr := run_append_grow (P := P) w t ty e i z ht hi hz ⟨g, 0, none⟩ n cap xs hown.1 holds a m c news hl hnews (by omega) (by omega) (growslice_fits (by omega) hbytes)
   have hgr := grown cap (by omega) (Value.ownBlock (.slice (some ⟨g, 0, none⟩) n cap))
   exact ⟨_, _, hr, hgr.1, hgr.2, .inr ⟨_, rfl, Nat.le_refl _⟩, by simp⟩
theorem wpList_append_cellsF {ops : Array Oper} {rest : List Oper} {o : Oper} {a : Act} {Q : Exit -> Act -> World -> Prop} (hgd : o.guard = none) (s x : Operand) (t : TypeId)
  (ho : o.op = .call { callee := .builtin .append, args := #[s, x], argTypes := #[t, t] })
  (e : TypeId) (i : TypeInfo) (z : Value) (size bytes : Nat) (ht : P.underlying t = some (.slice e)) (hi : P.info? e = some i) (hz : i.zero = some z)
  (hsize : i.size = size) (hby : i.bytes = bytes) (hzs : z.cells.size = size) (hsz : 0 < size)
  (v : Value) (n : Nat) (xs : List Value) (hs : a.eval s = v) (hown : w.ownsRowF 0 e size v n xs)
  (ad : Addr) (m c : Nat) (news : List Value) (hx : a.eval x = .slice (some ad) m c) (hl : news.length = m * size) (hnews : ∀ j u, news[j]? = some u -> w.cell? (ad.add j) = some u) (h1 : ∀ u ∈ news, u.oneCell' = true)
  (h63 : n + m <= maxLen) (hbytes : (n + m) * bytes <= 140737488355328)
  (h : ∀ v' w', w'.ownsRowF 0 e size v' (n + m) (xs ++ news) -> w.grownBy w' v.ownBlock -> Later w v.ownBlock v'.ownBlock -> (v' = .slice none 0 0 ↔ v = .slice none 0 0 /\ m = 0) -> wpList P ops Q rest (a.put o.dst v') w') : wpList P ops Q (o :: rest) a w := by
 refine wpList_plain hgd fun K hK => ?_
 obtain ⟨v', w', hr, h2, h3, h4, h5⟩ := run_append_cellsF (P := P) w t o.type e i z size bytes ht hi hz hsize hby hzs hsz v n xs hown ad m c news hl hnews h1 h63 hbytes
 unfold Oper.wp execOp
 simp only [ho, resolve, invoke, builtin, Sem.run_bind, Sem.run_pure, Result.andThen_ok, List.map_toArray, List.map_cons, List.map_nil, hs, hx, hr]
 exact hK _ _ (h v' w' h2 h3 h4 h5)
theorem run_append_strF (t u ty e : TypeId) (i : TypeInfo) (ht : P.underlying t = some (.slice e)) (hu : P.underlying u = some .string) (hi : P.info? e = some i) (hz : i.zero = some (.int .u8 0))
  (hsize : i.size = 1) (hby : i.bytes = 1)
  (v : Value) (n : Nat) (xs : List Value) (hown : w.ownsRowF 0 e 1 v n xs) (s : ByteArray)
  (h63 : n + s.size <= maxLen) (hbytes : n + s.size <= 140737488355328) :
  ∃ v' w', (Builtin.append_ #[t, u] ty #[v, .string s]).run P w = .ok v' w' /\ w'.ownsRowF 0 e 1 v' (n + s.size) (xs ++ Lib.strCells s) /\ w.grownBy w' v.ownBlock /\ Later w v.ownBlock v'.ownBlock /\
   (v' = .slice none 0 0 ↔ v = .slice none 0 0 /\ s.size = 0) := by
 have hsmall : n + s.size <= 9223372036854775807 := by simp only [maxLen] at h63; omega
 have hxl : xs.length = n := by simpa using hown.1
 have hlen : (xs ++ Lib.strCells s).length = (n + s.size) * 1 := by rw [List.length_append, hxl, Lib.strCells_length, Nat.mul_one]
 rcases hown.2 with ⟨rfl, rfl⟩ | ⟨g, cap, cur, fz, rfl, hbg, hg, hfz, hnc, hcm, hcs, htake⟩
 ·have hx : xs = [] := List.eq_nil_of_length_eq_zero hxl
  subst hx
  -- the row is new: the elder law with the heap's size for its base
  obtain ⟨v', w', h1, h2, h3, h4⟩ := Lib.run_append_own_stringF (P := P) w w.heap.size t u ty e i ht hu hi hz hsize hby (.slice none 0 0) 0 [] ⟨by simp, .inl ⟨rfl, rfl⟩⟩ s h63 hbytes (Nat.le_refl _)
  refine ⟨v', w', h1, ⟨h2.1, ?_⟩, h3, ?_, h4⟩
  ·rcases h2.2 with q | ⟨g, cap, cur, fz, hv, _, q⟩
   ·exact .inl q
   ·exact .inr ⟨g, cap, cur, fz, hv, Nat.zero_le _, q⟩
  ·rcases h2.2 with ⟨rfl, _⟩ | ⟨g, cap, cur, fz, rfl, hb, q⟩
   ·exact .inl rfl
   ·exact .inr ⟨g, rfl, hb⟩
 ·by_cases hroom : n + s.size <= cap
  ·have hcs' : cur.size = cap := by simpa using hcs
   have hr := Lib.run_append_room_stringF (P := P) w t u ty e i ht hu hi hsize g n cap cur fz hg (by simpa using hfz) s hroom (by omega)
   refine ⟨_, _, hr, ⟨hlen, .inr ⟨g, cap, _, fz, rfl, hbg, setRow_heap w g cur _ e _ hg, by omega, hroom, hcm, ?_, ?_⟩⟩, ⟨rfl, rfl, rfl, by simp, fun k _ hk => setRow_other w g k _ (fun e => hk (by simp [Value.ownBlock, e]))⟩, .inl rfl, by simp⟩
   ·simp only [List.size_toArray, List.length_append, List.length_take, List.length_drop, Array.length_toList, Lib.strCells_length]
    omega
   ·have ht' : cur.toList.take n = xs := by simpa using htake
    rw [ht', <- hlen]
    exact List.take_left
  ·have holds : ∀ j u, xs[j]? = some u -> w.cell? ((⟨g, 0, none⟩ : Addr).add j) = some u := hown.cells (g := g) rfl
   have hr := Lib.run_append_grow_string (P := P) w t u ty e i (.int .u8 0) ht hu hi hz ⟨g, 0, none⟩ n cap xs (by rw [hsize]; simpa using hxl) holds s (by omega) (by omega) (by rw [hby]; exact growslice_fits (by omega) (by omega))
   have hge := grownCap_ge w (n + s.size) cap e
   have hcm2 : grownCap w (n + s.size) cap e <= maxLen := grownCap_le_maxLen w (n + s.size) cap e h63
   refine ⟨_, _, hr, ⟨hlen, .inr ⟨w.heap.size, _, _, (0, 0), rfl, Nat.zero_le _, heap_alloc_new w.drew _, Nat.zero_le _, hge, hcm2, ?_, ?_⟩⟩, ⟨rfl, rfl, rfl, by simp, fun k hk _ => Below.heap_alloc w.drew _ k hk⟩, .inr ⟨_, rfl, Nat.le_refl _⟩, by simp⟩
   ·have hz1 : (Value.int IntKind.u8 0).cells.size = 1 := rfl
    simp only [Array.size_append, List.size_toArray, size_zeroCells, hz1, hxl, Lib.strCells_length]
    omega
   ·simp only [Array.toList_append, List.append_assoc]
    rw [<- List.append_assoc, <- hlen]
    exact List.take_left
theorem wpList_append_strF {ops : Array Oper} {rest : List Oper} {o : Oper} {a : Act} {Q : Exit -> Act -> World -> Prop} (hgd : o.guard = none) (sl x : Operand) (t u : TypeId)
  (ho : o.op = .call { callee := .builtin .append, args := #[sl, x], argTypes := #[t, u] })
  (e : TypeId) (i : TypeInfo) (ht : P.underlying t = some (.slice e)) (hu : P.underlying u = some .string) (hi : P.info? e = some i) (hz : i.zero = some (.int .u8 0))
  (hsize : i.size = 1) (hby : i.bytes = 1)
  (v : Value) (n : Nat) (xs : List Value) (hs : a.eval sl = v) (hown : w.ownsRowF 0 e 1 v n xs) (s : ByteArray) (hx : a.eval x = .string s)
  (h63 : n + s.size <= maxLen) (hbytes : n + s.size <= 140737488355328)
  (h : ∀ v' w', w'.ownsRowF 0 e 1 v' (n + s.size) (xs ++ Lib.strCells s) -> w.grownBy w' v.ownBlock -> Later w v.ownBlock v'.ownBlock -> (v' = .slice none 0 0 ↔ v = .slice none 0 0 /\ s.size = 0) -> wpList P ops Q rest (a.put o.dst v') w') : wpList P ops Q (o :: rest) a w := by
 refine wpList_plain hgd fun K hK => ?_
 obtain ⟨v', w', hr, h2, h3, h4, h5⟩ := run_append_strF (P := P) w t u o.type e i ht hu hi hz hsize hby v n xs hown s h63 hbytes
 unfold Oper.wp execOp
 simp only [ho, resolve, invoke, builtin, Sem.run_bind, Sem.run_pure, Result.andThen_ok, List.map_toArray, List.map_cons, List.map_nil, hs, hx, hr]
 exact hK _ _ (h v' w' h2 h3 h4 h5)
theorem wpList_store_row {ops : Array Oper} {rest : List Oper} {op : Oper} {a : Act} {Q : Exit -> Act -> World -> Prop} (hgd : op.guard = none) (ty : TypeId) (x y : Operand) (ho : op.op = .store ty x y)
  (b : Nat) (cells old : Array Value) (t : TypeId) (hx : a.eval x = .pointer (some ⟨b, 0, none⟩)) (hy : a.eval y = .agg cells)
  (hb : w.heap[b]? = some (.cells old t (0, 0))) (hi : (P.info? ty).map (·.size) = some cells.size) (hs : old.size = cells.size) (h1 : cells.all (·.oneCell') = true)
  (h : wpList P ops Q rest (a.put op.dst undef) (w.setRow b cells)) : wpList P ops Q (op :: rest) a w := by
 refine wpList_plain hgd fun K hK => ?_
 unfold Oper.wp execOp
 simp only [ho, hx, hy, Instr.storeAt, Instr.sureAddr, Sem.run_bind, Sem.run_pure, Result.andThen_ok, run_storeVar_row (P := P) w b t ty old cells hb hi hs h1]
 exact hK _ _ h
theorem Keeps.setRow {S : Nat -> Prop} {a w : World} (h : Keeps S a w) {g : Nat} (hg : g < a.heap.size -> S g) (cs : Array Value) : Keeps S a (w.setRow g cs) :=
 h.trans (T := fun k => k = g) ⟨rfl, rfl, rfl, by simp, fun k _ hn => setRow_other w g k cs hn⟩ (fun i hi e => by subst e; exact hg hi)
end
end Go.Proofs.YthjjfjhajadimaaGreatDoor
