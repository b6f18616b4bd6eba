/-
  Layer 8, plain: what two slots tell, and what a torn write of the next version leaves.
-/
import Derived.Test.YtggogaaooacooaaDoorP02
namespace Go.Proofs.YtggogaaooacooaaDoor.G
set_option maxRecDepth 100000

/-- The slot's version and value, if it counts. -/
def slotV (raw : List UInt8) (i : Nat) : Option (Nat × List UInt8) :=
  if raw.length = 256 ∧ E.front raw = E.back raw ∧ 1 ≤ E.front raw ∧ E.front raw ≤ 1099511627776 ∧ E.front raw % 2 = i then (E.openS (E.front raw) raw).map fun p => (E.front raw, p) else none
/-- What both tell: the greater version. -/
def best : Option (Nat × List UInt8) → Option (Nat × List UInt8) → Option (Nat × List UInt8)
  | none, y => y
  | x, none => x
  | some x, some y => if x.1 < y.1 then some y else some x
theorem best_some (a b : Nat × List UInt8) : best (some a) (some b) = if a.1 < b.1 then some b else some a := rfl
def readS (s : Nat → List UInt8) : Option (Nat × List UInt8) := best (slotV (s 0) 0) (slotV (s 1) 1)

theorem slotV_some {raw : List UInt8} {i v : Nat} {p : List UInt8} (h : slotV raw i = some (v, p)) : 1 ≤ v ∧ v ≤ 1099511627776 ∧ v % 2 = i ∧ p.length ≤ 234 ∧ raw = E.sct v p := by
  unfold slotV at h
  split at h
  · rename_i k
    obtain ⟨k1, k2, k3, k4, k5⟩ := k
    cases hq : E.openS (E.front raw) raw with
    | none => rw [hq] at h; cases h
    | some q =>
      rw [hq] at h
      simp only [Option.map_some, Option.some.injEq, Prod.mk.injEq] at h
      obtain ⟨h1, h2⟩ := h
      subst h1 h2
      obtain ⟨a, b, c⟩ := E.open_some hq
      exact ⟨k3, k4, k5, a, c⟩
  · cases h
theorem slotV_sct {v i : Nat} {p : List UInt8} (h1 : 1 ≤ v) (h2 : v ≤ 1099511627776) (h3 : v % 2 = i) (hp : p.length ≤ 234) : slotV (E.sct v p) i = some (v, p) := by
  have hv : v < 2 ^ 64 := Nat.lt_of_le_of_lt h2 (by decide)
  have hf := E.sct_front hv p
  have hb := E.sct_back hv hp
  unfold slotV
  rw [hf, hb, if_pos ⟨E.sct_length v hp, rfl, h1, h2, h3⟩, E.open_sct (by omega) hp]
  rfl
theorem counts_of {v : Nat} {p : List UInt8} (h1 : 1 ≤ v) (hp : p.length ≤ 234) : E.counts v (E.sct v p) = true := E.counts_sct (by omega) hp

def zeros : List UInt8 := List.replicate 256 0
theorem zeros_length : zeros.length = 256 := List.length_replicate
theorem zeros_front : E.front zeros = 0 := by unfold E.front zeros; rw [List.take_replicate]; exact E.num_zeros _
theorem zeros_back : E.back zeros = 0 := by unfold E.back zeros; rw [List.drop_replicate]; exact E.num_zeros _
theorem slotV_zeros (i : Nat) : slotV zeros i = none := by
  unfold slotV; rw [zeros_front]; exact if_neg (fun h => by omega)

/-- What stands in a slot of a version (0: zeros). -/
def stand (v : Nat) (p : List UInt8) : List UInt8 := if v = 0 then zeros else E.sct v p
theorem stand_length {v : Nat} {p : List UInt8} (hp : p.length ≤ 234) : (stand v p).length = 256 := by
  unfold stand; split
  · exact zeros_length
  · exact E.sct_length v hp
theorem stand_front {v : Nat} (hv : v ≤ 1099511627776) (p : List UInt8) : E.front (stand v p) = v := by
  unfold stand; split
  · rename_i h; rw [zeros_front, h]
  · exact E.sct_front (Nat.lt_of_le_of_lt hv (by decide)) p
theorem stand_back {v : Nat} (hv : v ≤ 1099511627776) {p : List UInt8} (hp : p.length ≤ 234) : E.back (stand v p) = v := by
  unfold stand; split
  · rename_i h; rw [zeros_back, h]
  · exact E.sct_back (Nat.lt_of_le_of_lt hv (by decide)) hp

/-- Torn once more, of the same sector. -/
theorem tear_again (O B : List UInt8) (m n : Nat) (hB : B.length = 256) (hm : m ≤ 256) (hn : n ≤ 256) : E.tear (E.tear O B m) B n = E.tear O B (max m n) := by
  unfold E.tear
  apply List.ext_getElem?
  intro j
  by_cases h1 : j < n
  · rw [List.getElem?_append_left (by simp; omega), List.getElem?_append_left (by simp; omega), List.getElem?_take_of_lt h1, List.getElem?_take_of_lt (by omega)]
  · rw [List.getElem?_append_right (by simp; omega), List.length_take, List.getElem?_drop, show n + (j - min n B.length) = j by omega]
    by_cases h2 : j < m
    · rw [List.getElem?_append_left (by simp; omega), List.getElem?_append_left (by simp; omega), List.getElem?_take_of_lt h2, List.getElem?_take_of_lt (by omega)]
    · rw [List.getElem?_append_right (by simp; omega), List.getElem?_append_right (by simp; omega), List.length_take, List.length_take, List.getElem?_drop, List.getElem?_drop]
      congr 1; omega
theorem tear_none (O B : List UInt8) : E.tear O B 0 = O := by unfold E.tear; simp
theorem tear_all (O B : List UInt8) (hO : O.length = 256) (hB : B.length = 256) : E.tear O B 256 = B := by
  unfold E.tear
  rw [List.take_of_length_le (by omega), List.drop_eq_nil_of_le (by omega), List.append_nil]

/-- WHAT A TORN WRITE LEAVES: the slot of the next version tells that version, just as it was written, or what stood there, or nothing. -/
theorem torn_slot {n o i : Nat} {old next : List UInt8} (ho : o + 1 = n ∨ o = 0) (hn : n + 1 ≤ 1099511627776) (h1 : old.length ≤ 234) (h2 : next.length ≤ 234) {m : Nat} (hm : m ≤ 256) {v : Nat} {p : List UInt8}
    (h : slotV (E.tear (stand o old) (E.sct (n + 1) next) m) i = some (v, p)) : (v = n + 1 ∧ p = next) ∨ (v = o ∧ 1 ≤ o) := by
  obtain ⟨a1, a2, a3, a4, a5⟩ := slotV_some h
  have hol : o ≤ 1099511627776 := by omega
  have hc : E.counts v (E.tear (stand o old) (E.sct (n + 1) next) m) = true := by rw [a5]; exact counts_of a1 a4
  have ht := E.one_tear (stand_length h1) (E.sct_length (n + 1) h2) (stand_front hol old) (stand_back hol h1) (E.sct_front (Nat.lt_of_le_of_lt hn (by decide)) next) (E.sct_back (Nat.lt_of_le_of_lt hn (by decide)) h2) (by omega) hm (Nat.lt_of_le_of_lt a2 (by decide)) hc
  rcases ht with ⟨e1, e2⟩ | ⟨e1, e2⟩
  · refine .inl ⟨e1, ?_⟩
    have e3 : E.sct v p = E.sct (n + 1) next := a5.symm.trans e2
    have k1 := E.sct_pay v a4
    have k2 := E.sct_pay (n + 1) h2
    rw [← k1, e3, k2]
  · exact .inr ⟨e1, by omega⟩

/-- The slots' state behind version n: its own slot holds it; the other one holds a beginning of the next one over what stood there. -/
structure Keeps (s : Nat → List UInt8) (n : Nat) (val : List UInt8) (o : Nat) (old : List UInt8) (next : List UInt8) (m : Nat) : Prop where
  own : s (n % 2) = stand n val
  other : s ((n + 1) % 2) = E.tear (stand o old) (E.sct (n + 1) next) m
  o : o + 1 = n ∨ o = 0
  n : n + 1 ≤ 1099511627776
  val : val.length ≤ 234
  old : old.length ≤ 234
  next : next.length ≤ 234
  m : m ≤ 256

theorem slotV_stand {n : Nat} {p : List UInt8} (hn : n ≤ 1099511627776) (hp : p.length ≤ 234) : slotV (stand n p) (n % 2) = if n = 0 then none else some (n, p) := by
  unfold stand
  split
  · exact slotV_zeros _
  · exact slotV_sct (by omega) hn rfl hp
theorem best_comm {x y : Option (Nat × List UInt8)} (h : ∀ a b, x = some a → y = some b → a.1 ≠ b.1) : best x y = best y x := by
  cases x with
  | none => cases y <;> rfl
  | some a =>
    cases y with
    | none => rfl
    | some b =>
      have := h a b rfl rfl
      rw [best_some, best_some]
      by_cases h1 : a.1 < b.1
      · rw [if_pos h1, if_neg (by omega)]
      · rw [if_neg h1, if_pos (by omega)]
theorem slot_parity {raw : List UInt8} {i : Nat} {a : Nat × List UInt8} (h : slotV raw i = some a) : a.1 % 2 = i := (slotV_some (v := a.1) (p := a.2) h).2.2.1
theorem readS_own (s : Nat → List UInt8) (n : Nat) : readS s = best (slotV (s (n % 2)) (n % 2)) (slotV (s ((n + 1) % 2)) ((n + 1) % 2)) := by
  unfold readS
  rcases Nat.mod_two_eq_zero_or_one n with h | h
  · rw [h, show (n + 1) % 2 = 1 by omega]
  · rw [h, show (n + 1) % 2 = 0 by omega]
    exact best_comm (fun a b ha hb => by have := slot_parity ha; have := slot_parity hb; omega)

/-- READ TELLS the last version that is there, or the next one, whole. -/
theorem Keeps.read {s : Nat → List UInt8} {n o m : Nat} {val old next : List UInt8} (h : Keeps s n val o old next m) :
    readS s = some (n + 1, next) ∨ readS s = if n = 0 then none else some (n, val) := by
  have hown := slotV_stand (n := n) (p := val) (by have := h.n; omega) h.val
  rw [← h.own] at hown
  rw [readS_own s n, hown]
  cases ht : slotV (s ((n + 1) % 2)) ((n + 1) % 2) with
  | none =>
    right
    split <;> rfl
  | some a =>
    obtain ⟨v, p⟩ := a
    have hs := ht
    rw [h.other] at hs
    rcases torn_slot h.o h.n h.old h.next h.m hs with ⟨rfl, rfl⟩ | ⟨rfl, ho⟩
    · left
      split
      · rfl
      · rw [best_some, if_pos (by simp)]
    · right
      have h1 := h.o
      have hn0 : n ≠ 0 := by omega
      rw [if_neg hn0]
      rw [best_some, if_neg (by simp; omega)]
/-- Where it tells the next one, that one stands there whole. -/
theorem Keeps.next_there {s : Nat → List UInt8} {n o m : Nat} {val old next : List UInt8} (h : Keeps s n val o old next m) {p : List UInt8} (hr : readS s = some (n + 1, p)) : s ((n + 1) % 2) = E.sct (n + 1) next := by
  have hown := slotV_stand (n := n) (p := val) (by have := h.n; omega) h.val
  rw [← h.own] at hown
  rw [readS_own s n, hown] at hr
  cases ht : slotV (s ((n + 1) % 2)) ((n + 1) % 2) with
  | none =>
    rw [ht] at hr
    split at hr
    · cases hr
    · simp [best] at hr
  | some a =>
    obtain ⟨v, q⟩ := a
    have h5 := (slotV_some ht).2.2.2.2
    have hs := ht
    rw [h.other] at hs
    rcases torn_slot h.o h.n h.old h.next h.m hs with ⟨rfl, rfl⟩ | ⟨rfl, ho⟩
    · exact h5
    · rw [ht] at hr
      exfalso
      have h1 := h.o
      have hn0 : n ≠ 0 := by omega
      rw [if_neg hn0] at hr
      rw [best_some, if_neg (by simp; omega)] at hr
      simp at hr
/-- The same write again, torn again. -/
theorem Keeps.again {s : Nat → List UInt8} {n o m : Nat} {val old next : List UInt8} (h : Keeps s n val o old next m) {k : Nat} (hk : k ≤ 256) {t : Nat → List UInt8} (ht : t (n % 2) = s (n % 2)) (ht2 : t ((n + 1) % 2) = E.tear (s ((n + 1) % 2)) (E.sct (n + 1) next) k) :
    Keeps t n val o old next (max m k) :=
  ⟨ht.trans h.own, by rw [ht2, h.other, tear_again _ _ _ _ (E.sct_length (n + 1) h.next) h.m hk], h.o, h.n, h.val, h.old, h.next, by have := h.m; omega⟩
/-- Where the next version is there, the one behind it is next. -/
theorem Keeps.step {s : Nat → List UInt8} {n o m : Nat} {val old next : List UInt8} (h : Keeps s n val o old next m) (hs : s ((n + 1) % 2) = E.sct (n + 1) next) {after : List UInt8} (ha : after.length ≤ 234) (hn : n + 2 ≤ 1099511627776) : Keeps s (n + 1) next n val after 0 := by
  refine ⟨?_, ?_, .inl rfl, hn, h.next, h.val, ha, by omega⟩
  · rw [hs]; unfold stand; rw [if_neg (by omega)]
  · rw [tear_none, show (n + 1 + 1) % 2 = n % 2 by omega]; exact h.own
/-- Another value for the next version, where nothing of it was written yet. -/
theorem Keeps.other_next {s : Nat → List UInt8} {n o : Nat} {val old next : List UInt8} (h : Keeps s n val o old next 0) {after : List UInt8} (ha : after.length ≤ 234) : Keeps s n val o old after 0 :=
  ⟨h.own, by rw [h.other, tear_none, tear_none], h.o, h.n, h.val, h.old, ha, by omega⟩
theorem Keeps.start {s : Nat → List UInt8} (h0 : s 0 = zeros) (h1 : s 1 = zeros) {next : List UInt8} (hn : next.length ≤ 234) : Keeps s 0 [] 0 [] next 0 :=
  ⟨h0, by rw [tear_none]; exact h1, .inr rfl, by decide, by decide, by decide, hn, by omega⟩
end Go.Proofs.YtggogaaooacooaaDoor.G
