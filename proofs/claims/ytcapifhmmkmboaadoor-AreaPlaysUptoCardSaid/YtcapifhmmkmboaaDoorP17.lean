/-
  Layer 7, plain: numbers as bytes, the sector of a stamp and a payload, what counts, and what tears leave.
  Layer 8, plain: what two slots tell, and what a torn write of the next version leaves.
-/
import Derived.Test.YtcapifhmmkmboaaDoorP16
namespace Go.Proofs.YtcapifhmmkmboaaDoor.E
set_option maxRecDepth 100000

/-! ### Numbers, the lowest byte first -/
def low : Nat → Nat → List UInt8
  | 0, _ => []
  | n + 1, x => x.toUInt8 :: low n (x / 256)
def num : List UInt8 → Nat
  | [] => 0
  | c :: s => c.toNat + 256 * num s
theorem low_length : ∀ (n x : Nat), (low n x).length = n
  | 0, _ => rfl
  | n + 1, x => by rw [low, List.length_cons, low_length n]
theorem u8_mod (n : Nat) : n.toUInt8.toNat = n % 256 := by rw [Nat.toUInt8, UInt8.toNat_ofNat']
theorem num_low : ∀ (n x : Nat), num (low n x) = x % 256 ^ n
  | 0, x => by rw [low, num, Nat.pow_zero, Nat.mod_one]
  | n + 1, x => by
    rw [low, num, num_low n, u8_mod, Nat.pow_succ, Nat.mul_comm (256 ^ n) 256, Nat.mod_mul]
theorem num_lt : ∀ (s : List UInt8), num s < 256 ^ s.length
  | [] => by decide
  | c :: s => by
    have h1 := num_lt s
    have h2 := c.toNat_lt
    rw [num, List.length_cons, Nat.pow_succ]
    omega
theorem num_append : ∀ (s t : List UInt8), num (s ++ t) = num s + 256 ^ s.length * num t
  | [], t => by simp [num]
  | c :: s, t => by
    rw [List.cons_append, num, num, num_append s t, List.length_cons, Nat.pow_succ, Nat.mul_comm (256 ^ s.length) 256, Nat.mul_add, Nat.mul_assoc, Nat.add_assoc]
theorem num_inj : ∀ {s t : List UInt8}, s.length = t.length → num s = num t → s = t
  | [], [], _, _ => rfl
  | [], _ :: _, h, _ => by simp at h
  | _ :: _, [], h, _ => by simp at h
  | c :: s, d :: t, h, e => by
    rw [num, num] at e
    have h1 := c.toNat_lt
    have h2 := d.toNat_lt
    have hs : s.length = t.length := by simpa using h
    have e1 : c.toNat = d.toNat := by omega
    have e2 : num s = num t := by omega
    rw [UInt8.toNat_inj.1 e1, num_inj hs e2]
theorem num_zeros : ∀ n, num (List.replicate n 0) = 0
  | 0 => rfl
  | n + 1 => by rw [List.replicate_succ, num, num_zeros n]; rfl

/-! ### The sector -/
def pad (p : List UInt8) : List UInt8 := p ++ List.replicate (234 - p.length) 0
def front3 (st : Nat) (p : List UInt8) : List UInt8 := low 8 st ++ (low 2 p.length ++ pad p)
def sct (st : Nat) (p : List UInt8) : List UInt8 := front3 st p ++ (low 4 (C.sum (front3 st p)) ++ low 8 st)
def front (t : List UInt8) : Nat := num (t.take 8)
def back (t : List UInt8) : Nat := num (t.drop 248)
def size (t : List UInt8) : Nat := num ((t.drop 8).take 2)
def pay (t : List UInt8) : List UInt8 := (t.drop 10).take (size t)
theorem pad_length {p : List UInt8} (h : p.length ≤ 234) : (pad p).length = 234 := by unfold pad; simp; omega
theorem front3_length (st : Nat) {p : List UInt8} (h : p.length ≤ 234) : (front3 st p).length = 244 := by
  unfold front3; simp [low_length, pad_length h]
theorem sct_length (st : Nat) {p : List UInt8} (h : p.length ≤ 234) : (sct st p).length = 256 := by
  unfold sct; simp [low_length, front3_length st h]
theorem sct_take (st : Nat) (p : List UInt8) : (sct st p).take 8 = low 8 st := by
  unfold sct front3
  rw [List.append_assoc, List.take_append_of_le_length (by rw [low_length]; omega)]
  exact List.take_of_length_le (by rw [low_length]; omega)
theorem sct_drop (st : Nat) {p : List UInt8} (h : p.length ≤ 234) : (sct st p).drop 248 = low 8 st := by
  unfold sct
  rw [← List.append_assoc]
  exact List.drop_left' (by simp [low_length, front3_length st h])
theorem sct_front {st : Nat} (hs : st < 2 ^ 64) (p : List UInt8) : front (sct st p) = st := by
  unfold front; rw [sct_take, num_low]; exact Nat.mod_eq_of_lt hs
theorem sct_back {st : Nat} (hs : st < 2 ^ 64) {p : List UInt8} (h : p.length ≤ 234) : back (sct st p) = st := by
  unfold back; rw [sct_drop st h, num_low]; exact Nat.mod_eq_of_lt hs
theorem sct_size (st : Nat) {p : List UInt8} (h : p.length ≤ 234) : size (sct st p) = p.length := by
  unfold size sct front3
  rw [List.append_assoc, List.drop_left' (low_length 8 st), List.append_assoc, List.take_append_of_le_length (by rw [low_length]; omega), List.take_of_length_le (by rw [low_length]; omega), num_low]
  exact Nat.mod_eq_of_lt (by omega)
theorem sct_pay (st : Nat) {p : List UInt8} (h : p.length ≤ 234) : pay (sct st p) = p := by
  unfold pay
  rw [sct_size st h]
  unfold sct front3 pad
  have e : low 8 st ++ (low 2 p.length ++ (p ++ List.replicate (234 - p.length) 0)) = (low 8 st ++ low 2 p.length) ++ (p ++ List.replicate (234 - p.length) 0) := by simp
  rw [e, List.append_assoc, List.drop_left' (by simp [low_length]), List.append_assoc, List.take_left' rfl]

/-- What a text tells under a stamp. -/
def openS (st : Nat) (raw : List UInt8) : Option (List UInt8) :=
  if raw.length = 256 ∧ st ≠ 0 ∧ size raw ≤ 234 ∧ raw = sct st (pay raw) then some (pay raw) else none
def counts (st : Nat) (raw : List UInt8) : Bool := (openS st raw).isSome
theorem pay_length {raw : List UInt8} (h : raw.length = 256) (hs : size raw ≤ 234) : (pay raw).length = size raw := by
  unfold pay; simp; omega
theorem open_some {st : Nat} {raw p : List UInt8} (h : openS st raw = some p) : p.length ≤ 234 ∧ st ≠ 0 ∧ raw = sct st p := by
  unfold openS at h
  split at h
  · rename_i k
    obtain ⟨k1, k2, k3, k4⟩ := k
    injection h with h
    rw [← h]
    exact ⟨by rw [pay_length k1 k3]; exact k3, k2, k4⟩
  · cases h
theorem open_sct {st : Nat} (hs : st ≠ 0) {p : List UInt8} (h : p.length ≤ 234) : openS st (sct st p) = some p := by
  unfold openS
  rw [if_pos ⟨sct_length st h, hs, by rw [sct_size st h]; exact h, by rw [sct_pay st h]⟩, sct_pay st h]
theorem counts_sct {st : Nat} (hs : st ≠ 0) {p : List UInt8} (h : p.length ≤ 234) : counts st (sct st p) = true := by
  unfold counts; rw [open_sct hs h]; rfl
theorem counts_ends {st : Nat} (hs : st < 2 ^ 64) {raw : List UInt8} (h : counts st raw = true) : st ≠ 0 ∧ front raw = st ∧ back raw = st := by
  unfold counts at h
  obtain ⟨p, hp⟩ := Option.isSome_iff_exists.1 h
  obtain ⟨h1, h2, rfl⟩ := open_some hp
  exact ⟨h2, sct_front hs p, sct_back hs h1⟩
/-- Under no other stamp. -/
theorem open_other {st o : Nat} (hs : st < 2 ^ 64) (ho : o < 2 ^ 64) {p : List UInt8} (hz : st ≠ 0) (h : p.length ≤ 234) : counts o (sct st p) = decide (o = st) := by
  by_cases e : o = st
  · subst e; rw [counts_sct hz h]; simp
  · cases hc : counts o (sct st p) with
    | false => simp [e]
    | true =>
      have := (counts_ends ho hc).2.1
      rw [sct_front hs] at this
      exact absurd this.symm e

/-! ### Tears -/
def tear (a b : List UInt8) (n : Nat) : List UInt8 := b.take n ++ a.drop n
theorem tear_length {a b : List UInt8} (ha : a.length = 256) (hb : b.length = 256) {n : Nat} (hn : n ≤ 256) : (tear a b n).length = 256 := by
  unfold tear; simp; omega
theorem tear_back {a b : List UInt8} (hb : b.length = 256) {n : Nat} (hn : n ≤ 248) : back (tear a b n) = back a := by
  unfold back tear
  rw [List.drop_append, List.drop_eq_nil_of_le (by simp; omega), List.nil_append, List.length_take, List.drop_drop]
  congr 2; omega
theorem tear_front {a b : List UInt8} (hb : b.length = 256) {n : Nat} (hn : 8 ≤ n) : front (tear a b n) = front b := by
  unfold front tear
  rw [List.take_append_of_le_length (by simp; omega), List.take_take]
  congr 2; omega
theorem tear_new {a b : List UInt8} (ha : a.length = 256) (hb : b.length = 256) {n : Nat} (hn : n ≤ 256) (h8 : 248 ≤ n) (h : back (tear a b n) = back b) : tear a b n = b := by
  have h1 : (tear a b n).take 248 = b.take 248 := by
    unfold tear
    rw [List.take_append_of_le_length (by simp; omega), List.take_take]
    congr 1; omega
  have h2 : (tear a b n).drop 248 = b.drop 248 := num_inj (by rw [List.length_drop, List.length_drop, tear_length ha hb hn, hb]) h
  rw [← List.take_append_drop 248 (tear a b n), h1, h2, List.take_append_drop]
theorem tear_old {a b : List UInt8} (ha : a.length = 256) (hb : b.length = 256) {n : Nat} (h8 : n ≤ 8) (h : front (tear a b n) = front a) : tear a b n = a := by
  have h1 : (tear a b n).drop 8 = a.drop 8 := by
    unfold tear
    rw [List.drop_append, List.drop_eq_nil_of_le (by simp; omega), List.nil_append, List.length_take, List.drop_drop]
    congr 1; omega
  have h2 : (tear a b n).take 8 = a.take 8 := num_inj (by rw [List.length_take, List.length_take, tear_length ha hb (by omega), ha]) h
  rw [← List.take_append_drop 8 (tear a b n), h1, h2, List.take_append_drop]
theorem tear_back_le {a b : List UInt8} (ha : a.length = 256) (hb : b.length = 256) {n : Nat} (hn : n ≤ 256) (h : back a ≤ back b) : back (tear a b n) ≤ back b := by
  by_cases h8 : n ≤ 248
  · rw [tear_back hb h8]; exact h
  · obtain ⟨k, rfl⟩ : ∃ k, n = 248 + k := ⟨n - 248, by omega⟩
    have e : (tear a b (248 + k)).drop 248 = (b.drop 248).take k ++ (a.drop 248).drop k := by
      unfold tear
      rw [List.drop_append, List.drop_take, List.length_take, List.drop_drop, List.drop_drop]
      congr 2
      · omega
      · omega
    have e1 := num_append ((b.drop 248).take k) ((a.drop 248).drop k)
    have e2 := num_append ((b.drop 248).take k) ((b.drop 248).drop k)
    have e3 := num_append ((a.drop 248).take k) ((a.drop 248).drop k)
    rw [List.take_append_drop] at e2 e3
    have hl : ((b.drop 248).take k).length = k := by simp; omega
    have hl2 : ((a.drop 248).take k).length = k := by simp; omega
    have b1 := num_lt ((b.drop 248).take k)
    rw [hl] at e1 e2 b1
    rw [hl2] at e3
    unfold back at h ⊢
    rw [e, e1]
    rw [e2, e3] at h
    generalize num ((b.drop 248).take k) = x at *
    generalize num ((a.drop 248).take k) = y at *
    generalize num ((b.drop 248).drop k) = u at *
    generalize num ((a.drop 248).drop k) = v at *
    rw [e2]
    have hvu : v ≤ u := by
      apply Nat.le_of_not_lt
      intro hlt
      have := Nat.mul_le_mul_left (256 ^ k) (show u + 1 ≤ v from hlt)
      rw [Nat.mul_add, Nat.mul_one] at this
      omega
    have := Nat.mul_le_mul_left (256 ^ k) hvu
    omega

/-- ONE TEAR. -/
theorem one_tear {a b : List UInt8} (ha : a.length = 256) (hb : b.length = 256) {o st : Nat} (hfa : front a = o) (hba : back a = o) (hfb : front b = st) (hbb : back b = st) (hne : st ≠ o) {n : Nat} (hn : n ≤ 256)
    {x : Nat} (hx : x < 2 ^ 64) (hc : counts x (tear a b n) = true) : (x = st ∧ tear a b n = b) ∨ (x = o ∧ tear a b n = a) := by
  obtain ⟨h0, h1, h2⟩ := counts_ends hx hc
  by_cases h8 : 8 ≤ n
  · have hf := tear_front (a := a) hb h8
    have hxs : x = st := by rw [← h1, hf, hfb]
    by_cases h248 : n ≤ 248
    · have hk := tear_back (a := a) hb h248
      rw [h2, hba] at hk
      exact absurd (hxs.symm.trans hk) hne
    · exact Or.inl ⟨hxs, tear_new ha hb hn (by omega) (by rw [h2, hbb]; exact hxs)⟩
  · have hk := tear_back (a := a) hb (show n ≤ 248 by omega)
    have hxo : x = o := by rw [← h2, hk, hba]
    exact Or.inr ⟨hxo, tear_old ha hb (by omega) (by rw [h1, hfa]; exact hxo)⟩
/-- MANY TEARS: one of them. -/
theorem next_tear {a b : List UInt8} (ha : a.length = 256) (hb : b.length = 256) {o st : Nat} (hba : back a ≤ o) (hbb : back b = st) (hlt : o < st) {n : Nat} (hn : n ≤ 256) :
    back (tear a b n) ≤ st ∧ (∀ {x : Nat}, x < 2 ^ 64 → st < x → counts x (tear a b n) = false) ∧ (st < 2 ^ 64 → counts st (tear a b n) = true → tear a b n = b) := by
  have h1 : back (tear a b n) ≤ st := by
    have := tear_back_le ha hb hn (by omega : back a ≤ back b)
    omega
  refine ⟨h1, fun {x} hx hs => ?_, fun hst hc => ?_⟩
  · cases hc : counts x (tear a b n) with
    | false => rfl
    | true =>
      have := (counts_ends hx hc).2.2
      omega
  · obtain ⟨h0, h2, h3⟩ := counts_ends hst hc
    by_cases h248 : n ≤ 248
    · have hk := tear_back (a := a) hb h248
      omega
    · exact tear_new ha hb hn (by omega) (by omega)
end Go.Proofs.YtcapifhmmkmboaaDoor.E
namespace Go.Proofs.YtcapifhmmkmboaaDoor.G
set_option maxRecDepth 100000

/-- The slot's version and value, if it counts. -/
def slotV (raw : List UInt8) (i : Nat) : Option (Nat × List UInt8) :=
  if raw.length = 256 ∧ E.front raw = E.back raw ∧ 1 ≤ E.front raw ∧ E.front raw ≤ 1099511627776 ∧ E.front raw % 2 = i then (E.openS (E.front raw) raw).map fun p => (E.front raw, p) else none
/-- What both tell: the greater version. -/
def best : Option (Nat × List UInt8) → Option (Nat × List UInt8) → Option (Nat × List UInt8)
  | none, y => y
  | x, none => x
  | some x, some y => if x.1 < y.1 then some y else some x
theorem best_some (a b : Nat × List UInt8) : best (some a) (some b) = if a.1 < b.1 then some b else some a := rfl
def readS (s : Nat → List UInt8) : Option (Nat × List UInt8) := best (slotV (s 0) 0) (slotV (s 1) 1)

theorem slotV_some {raw : List UInt8} {i v : Nat} {p : List UInt8} (h : slotV raw i = some (v, p)) : 1 ≤ v ∧ v ≤ 1099511627776 ∧ v % 2 = i ∧ p.length ≤ 234 ∧ raw = E.sct v p := by
  unfold slotV at h
  split at h
  · rename_i k
    obtain ⟨k1, k2, k3, k4, k5⟩ := k
    cases hq : E.openS (E.front raw) raw with
    | none => rw [hq] at h; cases h
    | some q =>
      rw [hq] at h
      simp only [Option.map_some, Option.some.injEq, Prod.mk.injEq] at h
      obtain ⟨h1, h2⟩ := h
      subst h1 h2
      obtain ⟨a, b, c⟩ := E.open_some hq
      exact ⟨k3, k4, k5, a, c⟩
  · cases h
theorem slotV_sct {v i : Nat} {p : List UInt8} (h1 : 1 ≤ v) (h2 : v ≤ 1099511627776) (h3 : v % 2 = i) (hp : p.length ≤ 234) : slotV (E.sct v p) i = some (v, p) := by
  have hv : v < 2 ^ 64 := Nat.lt_of_le_of_lt h2 (by decide)
  have hf := E.sct_front hv p
  have hb := E.sct_back hv hp
  unfold slotV
  rw [hf, hb, if_pos ⟨E.sct_length v hp, rfl, h1, h2, h3⟩, E.open_sct (by omega) hp]
  rfl
theorem counts_of {v : Nat} {p : List UInt8} (h1 : 1 ≤ v) (hp : p.length ≤ 234) : E.counts v (E.sct v p) = true := E.counts_sct (by omega) hp

def zeros : List UInt8 := List.replicate 256 0
theorem zeros_length : zeros.length = 256 := List.length_replicate
theorem zeros_front : E.front zeros = 0 := by unfold E.front zeros; rw [List.take_replicate]; exact E.num_zeros _
theorem zeros_back : E.back zeros = 0 := by unfold E.back zeros; rw [List.drop_replicate]; exact E.num_zeros _
theorem slotV_zeros (i : Nat) : slotV zeros i = none := by
  unfold slotV; rw [zeros_front]; exact if_neg (fun h => by omega)

/-- What stands in a slot of a version (0: zeros). -/
def stand (v : Nat) (p : List UInt8) : List UInt8 := if v = 0 then zeros else E.sct v p
theorem stand_length {v : Nat} {p : List UInt8} (hp : p.length ≤ 234) : (stand v p).length = 256 := by
  unfold stand; split
  · exact zeros_length
  · exact E.sct_length v hp
theorem stand_front {v : Nat} (hv : v ≤ 1099511627776) (p : List UInt8) : E.front (stand v p) = v := by
  unfold stand; split
  · rename_i h; rw [zeros_front, h]
  · exact E.sct_front (Nat.lt_of_le_of_lt hv (by decide)) p
theorem stand_back {v : Nat} (hv : v ≤ 1099511627776) {p : List UInt8} (hp : p.length ≤ 234) : E.back (stand v p) = v := by
  unfold stand; split
  · rename_i h; rw [zeros_back, h]
  · exact E.sct_back (Nat.lt_of_le_of_lt hv (by decide)) hp

/-- Torn once more, of the same sector. -/
theorem tear_again (O B : List UInt8) (m n : Nat) (hB : B.length = 256) (hm : m ≤ 256) (hn : n ≤ 256) : E.tear (E.tear O B m) B n = E.tear O B (max m n) := by
  unfold E.tear
  apply List.ext_getElem?
  intro j
  by_cases h1 : j < n
  · rw [List.getElem?_append_left (by simp; omega), List.getElem?_append_left (by simp; omega), List.getElem?_take_of_lt h1, List.getElem?_take_of_lt (by omega)]
  · rw [List.getElem?_append_right (by simp; omega), List.length_take, List.getElem?_drop, show n + (j - min n B.length) = j by omega]
    by_cases h2 : j < m
    · rw [List.getElem?_append_left (by simp; omega), List.getElem?_append_left (by simp; omega), List.getElem?_take_of_lt h2, List.getElem?_take_of_lt (by omega)]
    · rw [List.getElem?_append_right (by simp; omega), List.getElem?_append_right (by simp; omega), List.length_take, List.length_take, List.getElem?_drop, List.getElem?_drop]
      congr 1; omega
theorem tear_none (O B : List UInt8) : E.tear O B 0 = O := by unfold E.tear; simp
theorem tear_all (O B : List UInt8) (hO : O.length = 256) (hB : B.length = 256) : E.tear O B 256 = B := by
  unfold E.tear
  rw [List.take_of_length_le (by omega), List.drop_eq_nil_of_le (by omega), List.append_nil]

/-- WHAT A TORN WRITE LEAVES: the slot of the next version tells that version, just as it was written, or what stood there, or nothing. -/
theorem torn_slot {n o i : Nat} {old next : List UInt8} (ho : o + 1 = n ∨ o = 0) (hn : n + 1 ≤ 1099511627776) (h1 : old.length ≤ 234) (h2 : next.length ≤ 234) {m : Nat} (hm : m ≤ 256) {v : Nat} {p : List UInt8}
    (h : slotV (E.tear (stand o old) (E.sct (n + 1) next) m) i = some (v, p)) : (v = n + 1 ∧ p = next) ∨ (v = o ∧ 1 ≤ o) := by
  obtain ⟨a1, a2, a3, a4, a5⟩ := slotV_some h
  have hol : o ≤ 1099511627776 := by omega
  have hc : E.counts v (E.tear (stand o old) (E.sct (n + 1) next) m) = true := by rw [a5]; exact counts_of a1 a4
  have ht := E.one_tear (stand_length h1) (E.sct_length (n + 1) h2) (stand_front hol old) (stand_back hol h1) (E.sct_front (Nat.lt_of_le_of_lt hn (by decide)) next) (E.sct_back (Nat.lt_of_le_of_lt hn (by decide)) h2) (by omega) hm (Nat.lt_of_le_of_lt a2 (by decide)) hc
  rcases ht with ⟨e1, e2⟩ | ⟨e1, e2⟩
  · refine .inl ⟨e1, ?_⟩
    have e3 : E.sct v p = E.sct (n + 1) next := a5.symm.trans e2
    have k1 := E.sct_pay v a4
    have k2 := E.sct_pay (n + 1) h2
    rw [← k1, e3, k2]
  · exact .inr ⟨e1, by omega⟩

/-- The slots' state behind version n: its own slot holds it; the other one holds a beginning of the next one over what stood there. -/
structure Keeps (s : Nat → List UInt8) (n : Nat) (val : List UInt8) (o : Nat) (old : List UInt8) (next : List UInt8) (m : Nat) : Prop where
  own : s (n % 2) = stand n val
  other : s ((n + 1) % 2) = E.tear (stand o old) (E.sct (n + 1) next) m
  o : o + 1 = n ∨ o = 0
  n : n + 1 ≤ 1099511627776
  val : val.length ≤ 234
  old : old.length ≤ 234
  next : next.length ≤ 234
  m : m ≤ 256

theorem slotV_stand {n : Nat} {p : List UInt8} (hn : n ≤ 1099511627776) (hp : p.length ≤ 234) : slotV (stand n p) (n % 2) = if n = 0 then none else some (n, p) := by
  unfold stand
  split
  · exact slotV_zeros _
  · exact slotV_sct (by omega) hn rfl hp
theorem best_comm {x y : Option (Nat × List UInt8)} (h : ∀ a b, x = some a → y = some b → a.1 ≠ b.1) : best x y = best y x := by
  cases x with
  | none => cases y <;> rfl
  | some a =>
    cases y with
    | none => rfl
    | some b =>
      have := h a b rfl rfl
      rw [best_some, best_some]
      by_cases h1 : a.1 < b.1
      · rw [if_pos h1, if_neg (by omega)]
      · rw [if_neg h1, if_pos (by omega)]
theorem slot_parity {raw : List UInt8} {i : Nat} {a : Nat × List UInt8} (h : slotV raw i = some a) : a.1 % 2 = i := (slotV_some (v := a.1) (p := a.2) h).2.2.1
theorem readS_own (s : Nat → List UInt8) (n : Nat) : readS s = best (slotV (s (n % 2)) (n % 2)) (slotV (s ((n + 1) % 2)) ((n + 1) % 2)) := by
  unfold readS
  rcases Nat.mod_two_eq_zero_or_one n with h | h
  · rw [h, show (n + 1) % 2 = 1 by omega]
  · rw [h, show (n + 1) % 2 = 0 by omega]
    exact best_comm (fun a b ha hb => by have := slot_parity ha; have := slot_parity hb; omega)

/-- READ TELLS the last version that is there, or the next one, whole. -/
theorem Keeps.read {s : Nat → List UInt8} {n o m : Nat} {val old next : List UInt8} (h : Keeps s n val o old next m) :
    readS s = some (n + 1, next) ∨ readS s = if n = 0 then none else some (n, val) := by
  have hown := slotV_stand (n := n) (p := val) (by have := h.n; omega) h.val
  rw [← h.own] at hown
  rw [readS_own s n, hown]
  cases ht : slotV (s ((n + 1) % 2)) ((n + 1) % 2) with
  | none =>
    right
    split <;> rfl
  | some a =>
    obtain ⟨v, p⟩ := a
    have hs := ht
    rw [h.other] at hs
    rcases torn_slot h.o h.n h.old h.next h.m hs with ⟨rfl, rfl⟩ | ⟨rfl, ho⟩
    · left
      split
      · rfl
      · rw [best_some, if_pos (by simp)]
    · right
      have h1 := h.o
      have hn0 : n ≠ 0 := by omega
      rw [if_neg hn0]
      rw [best_some, if_neg (by simp; omega)]
/-- Where it tells the next one, that one stands there whole. -/
theorem Keeps.next_there {s : Nat → List UInt8} {n o m : Nat} {val old next : List UInt8} (h : Keeps s n val o old next m) {p : List UInt8} (hr : readS s = some (n + 1, p)) : s ((n + 1) % 2) = E.sct (n + 1) next := by
  have hown := slotV_stand (n := n) (p := val) (by have := h.n; omega) h.val
  rw [← h.own] at hown
  rw [readS_own s n, hown] at hr
  cases ht : slotV (s ((n + 1) % 2)) ((n + 1) % 2) with
  | none =>
    rw [ht] at hr
    split at hr
    · cases hr
    · simp [best] at hr
  | some a =>
    obtain ⟨v, q⟩ := a
    have h5 := (slotV_some ht).2.2.2.2
    have hs := ht
    rw [h.other] at hs
    rcases torn_slot h.o h.n h.old h.next h.m hs with ⟨rfl, rfl⟩ | ⟨rfl, ho⟩
    · exact h5
    · rw [ht] at hr
      exfalso
      have h1 := h.o
      have hn0 : n ≠ 0 := by omega
      rw [if_neg hn0] at hr
      rw [best_some, if_neg (by simp; omega)] at hr
      simp at hr
/-- The same write again, torn again. -/
theorem Keeps.again {s : Nat → List UInt8} {n o m : Nat} {val old next : List UInt8} (h : Keeps s n val o old next m) {k : Nat} (hk : k ≤ 256) {t : Nat → List UInt8} (ht : t (n % 2) = s (n % 2)) (ht2 : t ((n + 1) % 2) = E.tear (s ((n + 1) % 2)) (E.sct (n + 1) next) k) :
    Keeps t n val o old next (max m k) :=
  ⟨ht.trans h.own, by rw [ht2, h.other, tear_again _ _ _ _ (E.sct_length (n + 1) h.next) h.m hk], h.o, h.n, h.val, h.old, h.next, by have := h.m; omega⟩
/-- Where the next version is there, the one behind it is next. -/
theorem Keeps.step {s : Nat → List UInt8} {n o m : Nat} {val old next : List UInt8} (h : Keeps s n val o old next m) (hs : s ((n + 1) % 2) = E.sct (n + 1) next) {after : List UInt8} (ha : after.length ≤ 234) (hn : n + 2 ≤ 1099511627776) : Keeps s (n + 1) next n val after 0 := by
  refine ⟨?_, ?_, .inl rfl, hn, h.next, h.val, ha, by omega⟩
  · rw [hs]; unfold stand; rw [if_neg (by omega)]
  · rw [tear_none, show (n + 1 + 1) % 2 = n % 2 by omega]; exact h.own
/-- Another value for the next version, where nothing of it was written yet. -/
theorem Keeps.other_next {s : Nat → List UInt8} {n o : Nat} {val old next : List UInt8} (h : Keeps s n val o old next 0) {after : List UInt8} (ha : after.length ≤ 234) : Keeps s n val o old after 0 :=
  ⟨h.own, by rw [h.other, tear_none, tear_none], h.o, h.n, h.val, h.old, ha, by omega⟩
theorem Keeps.start {s : Nat → List UInt8} (h0 : s 0 = zeros) (h1 : s 1 = zeros) {next : List UInt8} (hn : next.length ≤ 234) : Keeps s 0 [] 0 [] next 0 :=
  ⟨h0, by rw [tear_none]; exact h1, .inr rfl, by decide, by decide, by decide, hn, by omega⟩
end Go.Proofs.YtcapifhmmkmboaaDoor.G
