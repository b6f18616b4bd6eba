/-
  Layer 7, plain: numbers as bytes, the sector of a stamp and a payload, what counts, and what tears leave.
  Layer 10, plain: a record's pieces, the records of a log, what is told where only the right sectors count.
-/
import Derived.Test.YtggogaaooacooaaDoorP01
namespace Go.Proofs.YtggogaaooacooaaDoor.E
set_option maxRecDepth 100000

/-! ### Numbers, the lowest byte first -/
def low : Nat → Nat → List UInt8
  | 0, _ => []
  | n + 1, x => x.toUInt8 :: low n (x / 256)
def num : List UInt8 → Nat
  | [] => 0
  | c :: s => c.toNat + 256 * num s
theorem low_length : ∀ (n x : Nat), (low n x).length = n
  | 0, _ => rfl
  | n + 1, x => by rw [low, List.length_cons, low_length n]
theorem u8_mod (n : Nat) : n.toUInt8.toNat = n % 256 := by rw [Nat.toUInt8, UInt8.toNat_ofNat']
theorem num_low : ∀ (n x : Nat), num (low n x) = x % 256 ^ n
  | 0, x => by rw [low, num, Nat.pow_zero, Nat.mod_one]
  | n + 1, x => by
    rw [low, num, num_low n, u8_mod, Nat.pow_succ, Nat.mul_comm (256 ^ n) 256, Nat.mod_mul]
theorem num_lt : ∀ (s : List UInt8), num s < 256 ^ s.length
  | [] => by decide
  | c :: s => by
    have h1 := num_lt s
    have h2 := c.toNat_lt
    rw [num, List.length_cons, Nat.pow_succ]
    omega
theorem num_append : ∀ (s t : List UInt8), num (s ++ t) = num s + 256 ^ s.length * num t
  | [], t => by simp [num]
  | c :: s, t => by
    rw [List.cons_append, num, num, num_append s t, List.length_cons, Nat.pow_succ, Nat.mul_comm (256 ^ s.length) 256, Nat.mul_add, Nat.mul_assoc, Nat.add_assoc]
theorem num_inj : ∀ {s t : List UInt8}, s.length = t.length → num s = num t → s = t
  | [], [], _, _ => rfl
  | [], _ :: _, h, _ => by simp at h
  | _ :: _, [], h, _ => by simp at h
  | c :: s, d :: t, h, e => by
    rw [num, num] at e
    have h1 := c.toNat_lt
    have h2 := d.toNat_lt
    have hs : s.length = t.length := by simpa using h
    have e1 : c.toNat = d.toNat := by omega
    have e2 : num s = num t := by omega
    rw [UInt8.toNat_inj.1 e1, num_inj hs e2]
theorem num_zeros : ∀ n, num (List.replicate n 0) = 0
  | 0 => rfl
  | n + 1 => by rw [List.replicate_succ, num, num_zeros n]; rfl

/-! ### The sector -/
def pad (p : List UInt8) : List UInt8 := p ++ List.replicate (234 - p.length) 0
def front3 (st : Nat) (p : List UInt8) : List UInt8 := low 8 st ++ (low 2 p.length ++ pad p)
def sct (st : Nat) (p : List UInt8) : List UInt8 := front3 st p ++ (low 4 (C.sum (front3 st p)) ++ low 8 st)
def front (t : List UInt8) : Nat := num (t.take 8)
def back (t : List UInt8) : Nat := num (t.drop 248)
def size (t : List UInt8) : Nat := num ((t.drop 8).take 2)
def pay (t : List UInt8) : List UInt8 := (t.drop 10).take (size t)
theorem pad_length {p : List UInt8} (h : p.length ≤ 234) : (pad p).length = 234 := by unfold pad; simp; omega
theorem front3_length (st : Nat) {p : List UInt8} (h : p.length ≤ 234) : (front3 st p).length = 244 := by
  unfold front3; simp [low_length, pad_length h]
theorem sct_length (st : Nat) {p : List UInt8} (h : p.length ≤ 234) : (sct st p).length = 256 := by
  unfold sct; simp [low_length, front3_length st h]
theorem sct_take (st : Nat) (p : List UInt8) : (sct st p).take 8 = low 8 st := by
  unfold sct front3
  rw [List.append_assoc, List.take_append_of_le_length (by rw [low_length]; omega)]
  exact List.take_of_length_le (by rw [low_length]; omega)
theorem sct_drop (st : Nat) {p : List UInt8} (h : p.length ≤ 234) : (sct st p).drop 248 = low 8 st := by
  unfold sct
  rw [← List.append_assoc]
  exact List.drop_left' (by simp [low_length, front3_length st h])
theorem sct_front {st : Nat} (hs : st < 2 ^ 64) (p : List UInt8) : front (sct st p) = st := by
  unfold front; rw [sct_take, num_low]; exact Nat.mod_eq_of_lt hs
theorem sct_back {st : Nat} (hs : st < 2 ^ 64) {p : List UInt8} (h : p.length ≤ 234) : back (sct st p) = st := by
  unfold back; rw [sct_drop st h, num_low]; exact Nat.mod_eq_of_lt hs
theorem sct_size (st : Nat) {p : List UInt8} (h : p.length ≤ 234) : size (sct st p) = p.length := by
  unfold size sct front3
  rw [List.append_assoc, List.drop_left' (low_length 8 st), List.append_assoc, List.take_append_of_le_length (by rw [low_length]; omega), List.take_of_length_le (by rw [low_length]; omega), num_low]
  exact Nat.mod_eq_of_lt (by omega)
theorem sct_pay (st : Nat) {p : List UInt8} (h : p.length ≤ 234) : pay (sct st p) = p := by
  unfold pay
  rw [sct_size st h]
  unfold sct front3 pad
  have e : low 8 st ++ (low 2 p.length ++ (p ++ List.replicate (234 - p.length) 0)) = (low 8 st ++ low 2 p.length) ++ (p ++ List.replicate (234 - p.length) 0) := by simp
  rw [e, List.append_assoc, List.drop_left' (by simp [low_length]), List.append_assoc, List.take_left' rfl]

/-- What a text tells under a stamp. -/
def openS (st : Nat) (raw : List UInt8) : Option (List UInt8) :=
  if raw.length = 256 ∧ st ≠ 0 ∧ size raw ≤ 234 ∧ raw = sct st (pay raw) then some (pay raw) else none
def counts (st : Nat) (raw : List UInt8) : Bool := (openS st raw).isSome
theorem pay_length {raw : List UInt8} (h : raw.length = 256) (hs : size raw ≤ 234) : (pay raw).length = size raw := by
  unfold pay; simp; omega
theorem open_some {st : Nat} {raw p : List UInt8} (h : openS st raw = some p) : p.length ≤ 234 ∧ st ≠ 0 ∧ raw = sct st p := by
  unfold openS at h
  split at h
  · rename_i k
    obtain ⟨k1, k2, k3, k4⟩ := k
    injection h with h
    rw [← h]
    exact ⟨by rw [pay_length k1 k3]; exact k3, k2, k4⟩
  · cases h
theorem open_sct {st : Nat} (hs : st ≠ 0) {p : List UInt8} (h : p.length ≤ 234) : openS st (sct st p) = some p := by
  unfold openS
  rw [if_pos ⟨sct_length st h, hs, by rw [sct_size st h]; exact h, by rw [sct_pay st h]⟩, sct_pay st h]
theorem counts_sct {st : Nat} (hs : st ≠ 0) {p : List UInt8} (h : p.length ≤ 234) : counts st (sct st p) = true := by
  unfold counts; rw [open_sct hs h]; rfl
theorem counts_ends {st : Nat} (hs : st < 2 ^ 64) {raw : List UInt8} (h : counts st raw = true) : st ≠ 0 ∧ front raw = st ∧ back raw = st := by
  unfold counts at h
  obtain ⟨p, hp⟩ := Option.isSome_iff_exists.1 h
  obtain ⟨h1, h2, rfl⟩ := open_some hp
  exact ⟨h2, sct_front hs p, sct_back hs h1⟩
/-- Under no other stamp. -/
theorem open_other {st o : Nat} (hs : st < 2 ^ 64) (ho : o < 2 ^ 64) {p : List UInt8} (hz : st ≠ 0) (h : p.length ≤ 234) : counts o (sct st p) = decide (o = st) := by
  by_cases e : o = st
  · subst e; rw [counts_sct hz h]; simp
  · cases hc : counts o (sct st p) with
    | false => simp [e]
    | true =>
      have := (counts_ends ho hc).2.1
      rw [sct_front hs] at this
      exact absurd this.symm e

/-! ### Tears -/
def tear (a b : List UInt8) (n : Nat) : List UInt8 := b.take n ++ a.drop n
theorem tear_length {a b : List UInt8} (ha : a.length = 256) (hb : b.length = 256) {n : Nat} (hn : n ≤ 256) : (tear a b n).length = 256 := by
  unfold tear; simp; omega
theorem tear_back {a b : List UInt8} (hb : b.length = 256) {n : Nat} (hn : n ≤ 248) : back (tear a b n) = back a := by
  unfold back tear
  rw [List.drop_append, List.drop_eq_nil_of_le (by simp; omega), List.nil_append, List.length_take, List.drop_drop]
  congr 2; omega
theorem tear_front {a b : List UInt8} (hb : b.length = 256) {n : Nat} (hn : 8 ≤ n) : front (tear a b n) = front b := by
  unfold front tear
  rw [List.take_append_of_le_length (by simp; omega), List.take_take]
  congr 2; omega
theorem tear_new {a b : List UInt8} (ha : a.length = 256) (hb : b.length = 256) {n : Nat} (hn : n ≤ 256) (h8 : 248 ≤ n) (h : back (tear a b n) = back b) : tear a b n = b := by
  have h1 : (tear a b n).take 248 = b.take 248 := by
    unfold tear
    rw [List.take_append_of_le_length (by simp; omega), List.take_take]
    congr 1; omega
  have h2 : (tear a b n).drop 248 = b.drop 248 := num_inj (by rw [List.length_drop, List.length_drop, tear_length ha hb hn, hb]) h
  rw [← List.take_append_drop 248 (tear a b n), h1, h2, List.take_append_drop]
theorem tear_old {a b : List UInt8} (ha : a.length = 256) (hb : b.length = 256) {n : Nat} (h8 : n ≤ 8) (h : front (tear a b n) = front a) : tear a b n = a := by
  have h1 : (tear a b n).drop 8 = a.drop 8 := by
    unfold tear
    rw [List.drop_append, List.drop_eq_nil_of_le (by simp; omega), List.nil_append, List.length_take, List.drop_drop]
    congr 1; omega
  have h2 : (tear a b n).take 8 = a.take 8 := num_inj (by rw [List.length_take, List.length_take, tear_length ha hb (by omega), ha]) h
  rw [← List.take_append_drop 8 (tear a b n), h1, h2, List.take_append_drop]
theorem tear_back_le {a b : List UInt8} (ha : a.length = 256) (hb : b.length = 256) {n : Nat} (hn : n ≤ 256) (h : back a ≤ back b) : back (tear a b n) ≤ back b := by
  by_cases h8 : n ≤ 248
  · rw [tear_back hb h8]; exact h
  · obtain ⟨k, rfl⟩ : ∃ k, n = 248 + k := ⟨n - 248, by omega⟩
    have e : (tear a b (248 + k)).drop 248 = (b.drop 248).take k ++ (a.drop 248).drop k := by
      unfold tear
      rw [List.drop_append, List.drop_take, List.length_take, List.drop_drop, List.drop_drop]
      congr 2
      · omega
      · omega
    have e1 := num_append ((b.drop 248).take k) ((a.drop 248).drop k)
    have e2 := num_append ((b.drop 248).take k) ((b.drop 248).drop k)
    have e3 := num_append ((a.drop 248).take k) ((a.drop 248).drop k)
    rw [List.take_append_drop] at e2 e3
    have hl : ((b.drop 248).take k).length = k := by simp; omega
    have hl2 : ((a.drop 248).take k).length = k := by simp; omega
    have b1 := num_lt ((b.drop 248).take k)
    rw [hl] at e1 e2 b1
    rw [hl2] at e3
    unfold back at h ⊢
    rw [e, e1]
    rw [e2, e3] at h
    generalize num ((b.drop 248).take k) = x at *
    generalize num ((a.drop 248).take k) = y at *
    generalize num ((b.drop 248).drop k) = u at *
    generalize num ((a.drop 248).drop k) = v at *
    rw [e2]
    have hvu : v ≤ u := by
      apply Nat.le_of_not_lt
      intro hlt
      have := Nat.mul_le_mul_left (256 ^ k) (show u + 1 ≤ v from hlt)
      rw [Nat.mul_add, Nat.mul_one] at this
      omega
    have := Nat.mul_le_mul_left (256 ^ k) hvu
    omega

/-- ONE TEAR. -/
theorem one_tear {a b : List UInt8} (ha : a.length = 256) (hb : b.length = 256) {o st : Nat} (hfa : front a = o) (hba : back a = o) (hfb : front b = st) (hbb : back b = st) (hne : st ≠ o) {n : Nat} (hn : n ≤ 256)
    {x : Nat} (hx : x < 2 ^ 64) (hc : counts x (tear a b n) = true) : (x = st ∧ tear a b n = b) ∨ (x = o ∧ tear a b n = a) := by
  obtain ⟨h0, h1, h2⟩ := counts_ends hx hc
  by_cases h8 : 8 ≤ n
  · have hf := tear_front (a := a) hb h8
    have hxs : x = st := by rw [← h1, hf, hfb]
    by_cases h248 : n ≤ 248
    · have hk := tear_back (a := a) hb h248
      rw [h2, hba] at hk
      exact absurd (hxs.symm.trans hk) hne
    · exact Or.inl ⟨hxs, tear_new ha hb hn (by omega) (by rw [h2, hbb]; exact hxs)⟩
  · have hk := tear_back (a := a) hb (show n ≤ 248 by omega)
    have hxo : x = o := by rw [← h2, hk, hba]
    exact Or.inr ⟨hxo, tear_old ha hb (by omega) (by rw [h1, hfa]; exact hxo)⟩
/-- MANY TEARS: one of them. -/
theorem next_tear {a b : List UInt8} (ha : a.length = 256) (hb : b.length = 256) {o st : Nat} (hba : back a ≤ o) (hbb : back b = st) (hlt : o < st) {n : Nat} (hn : n ≤ 256) :
    back (tear a b n) ≤ st ∧ (∀ {x : Nat}, x < 2 ^ 64 → st < x → counts x (tear a b n) = false) ∧ (st < 2 ^ 64 → counts st (tear a b n) = true → tear a b n = b) := by
  have h1 : back (tear a b n) ≤ st := by
    have := tear_back_le ha hb hn (by omega : back a ≤ back b)
    omega
  refine ⟨h1, fun {x} hx hs => ?_, fun hst hc => ?_⟩
  · cases hc : counts x (tear a b n) with
    | false => rfl
    | true =>
      have := (counts_ends hx hc).2.2
      omega
  · obtain ⟨h0, h2, h3⟩ := counts_ends hst hc
    by_cases h248 : n ≤ 248
    · have hk := tear_back (a := a) hb h248
      omega
    · exact tear_new ha hb hn (by omega) (by omega)
end Go.Proofs.YtggogaaooacooaaDoor.E
namespace Go.Proofs.YtggogaaooacooaaDoor.J
set_option maxRecDepth 100000

/-- How many sectors so many bytes need. -/
def cost (b : Nat) : Nat := if b ≤ 229 then 1 else 2 + (b - 230) / 233
/-- Piece number k. -/
def pay (v : List UInt8) : Nat → List UInt8
  | 0 => 1 :: (E.low 4 v.length ++ v.take 229)
  | k + 1 => 0 :: (v.drop (229 + 233 * k)).take 233
/-- How many bytes lie in the first k pieces. -/
def ends : Nat → Nat
  | 0 => 0
  | k + 1 => 229 + 233 * k
theorem cost_pos (b : Nat) : 0 < cost b := by unfold cost; split <;> omega
theorem cost_le (b : Nat) : b ≤ ends (cost b) := by
  unfold cost; split
  · show b ≤ 229 + 233 * 0; omega
  · show b ≤ ends (2 + (b - 230) / 233)
    rw [show 2 + (b - 230) / 233 = (1 + (b - 230) / 233) + 1 by omega]
    show b ≤ 229 + 233 * (1 + (b - 230) / 233)
    omega
theorem ends_lt {b k : Nat} (h : k + 1 < cost b) : ends (k + 1) < b := by
  show 229 + 233 * k < b
  unfold cost at h; split at h <;> omega
theorem cost_bound {b m : Nat} (h : b ≤ ends m) (hm : 0 < m) : cost b ≤ m := by
  obtain ⟨k, rfl⟩ : ∃ k, m = k + 1 := ⟨m - 1, by omega⟩
  have h : b ≤ 229 + 233 * k := h
  unfold cost; split <;> omega
theorem pay0_length (v : List UInt8) : (pay v 0).length = 5 + min 229 v.length := by simp [pay, E.low_length]; omega
theorem payS_length (v : List UInt8) (k : Nat) : (pay v (k + 1)).length = 1 + min 233 (v.length - (229 + 233 * k)) := by simp [pay]; omega
theorem pay_le (v : List UInt8) : ∀ k, (pay v k).length ≤ 234
  | 0 => by rw [pay0_length]; omega
  | k + 1 => by rw [payS_length]; omega
theorem pay_drop0 (v : List UInt8) : (pay v 0).drop 5 = v.take 229 := by
  show ([1] ++ E.low 4 v.length ++ v.take 229).drop 5 = _
  exact List.drop_left' (by simp [E.low_length])
theorem pay_dropS (v : List UInt8) (k : Nat) : (pay v (k + 1)).drop 1 = (v.drop (229 + 233 * k)).take 233 := rfl
/-- The number that the first piece tells. -/
def sizeOf (p : List UInt8) : Nat := E.num ((p.drop 1).take 4)
theorem size_pay {v : List UInt8} (h : v.length < 4294967296) : sizeOf (pay v 0) = v.length := by
  unfold sizeOf
  rw [show (pay v 0).drop 1 = E.low 4 v.length ++ v.take 229 from rfl, List.take_left' (E.low_length 4 _), E.num_low]
  exact Nat.mod_eq_of_lt (by omega)
theorem size_lt (p : List UInt8) : sizeOf p < 4294967296 := by
  have h := E.num_lt ((p.drop 1).take 4)
  have h2 : ((p.drop 1).take 4).length ≤ 4 := by rw [List.length_take]; omega
  exact Nat.lt_of_lt_of_le h (Nat.le_trans (Nat.pow_le_pow_right (by decide) h2) (by decide))

/-- The text out of the first k pieces. -/
def textTo (p : Nat → List UInt8) : Nat → List UInt8
  | 0 => []
  | 1 => (p 0).drop 5
  | k + 2 => textTo p (k + 1) ++ (p (k + 1)).drop 1
theorem text_pay (v : List UInt8) : ∀ k, textTo (pay v) k = v.take (ends k)
  | 0 => by simp [textTo, ends]
  | 1 => pay_drop0 v
  | k + 2 => by
    rw [textTo, text_pay v (k + 1), pay_dropS]
    show v.take (229 + 233 * k) ++ _ = v.take (229 + 233 * (k + 1))
    rw [show 229 + 233 * (k + 1) = (229 + 233 * k) + 233 by omega]
    exact List.take_add.symm
theorem text_all (v : List UInt8) : textTo (pay v) (cost v.length) = v := by
  rw [text_pay, List.take_of_length_le (cost_le _)]
theorem text_congr {p q : Nat → List UInt8} : ∀ k, (∀ j, j < k → p j = q j) → textTo p k = textTo q k
  | 0, _ => rfl
  | 1, h => by rw [textTo, textTo, h 0 (by omega)]
  | k + 2, h => by rw [textTo, textTo, text_congr (k + 1) (fun j hj => h j (by omega)), h (k + 1) (by omega)]

/-- A whole record begins in sector i. -/
structure Whole (s : Nat → Option (List UInt8)) (n i : Nat) (v : List UInt8) : Prop where
  small : v.length < 4294967296
  room : i + cost v.length ≤ n
  each : ∀ k, k < cost v.length → s (i + k) = some (pay v k)
theorem Whole.one {s : Nat → Option (List UInt8)} {n i : Nat} {v u : List UInt8} (h : Whole s n i v) (k : Whole s n i u) : v = u := by
  have e0 := (h.each 0 (cost_pos _)).symm.trans (k.each 0 (cost_pos _))
  injection e0 with e0
  have el : v.length = u.length := by rw [← size_pay h.small, ← size_pay k.small, e0]
  have e1 : textTo (pay v) (cost v.length) = textTo (pay u) (cost v.length) := text_congr _ (fun j hj => by
    have := (h.each j hj).symm.trans (k.each j (by rw [← el]; exact hj))
    injection this)
  rw [text_all] at e1
  rw [e1, el, text_all]
open Classical in
/-- The whole record that begins in sector i. -/
noncomputable def rec (s : Nat → Option (List UInt8)) (n i : Nat) : Option (List UInt8) := if h : ∃ v, Whole s n i v then some h.choose else none
theorem rec_some {s : Nat → Option (List UInt8)} {n i : Nat} {v : List UInt8} (h : Whole s n i v) : rec s n i = some v := by
  unfold rec
  rw [dif_pos ⟨v, h⟩]
  exact congrArg some ((Exists.choose_spec (p := fun v => Whole s n i v) ⟨v, h⟩).one h)
theorem rec_none {s : Nat → Option (List UInt8)} {n i : Nat} (h : ∀ v, ¬ Whole s n i v) : rec s n i = none := dif_neg (fun ⟨v, k⟩ => h v k)
theorem rec_whole {s : Nat → Option (List UInt8)} {n i : Nat} {v : List UInt8} (h : rec s n i = some v) : Whole s n i v := by
  unfold rec at h
  split at h
  · rename_i k
    injection h with h
    rw [← h]
    exact k.choose_spec
  · cases h
/-- The records from sector i on (fuel). -/
noncomputable def log (s : Nat → Option (List UInt8)) (n : Nat) : Nat → Nat → List (List UInt8)
  | 0, _ => []
  | f + 1, i => match rec s n i with
    | none => []
    | some v => v :: log s n f (i + cost v.length)
/-- All. -/
noncomputable def logAll (s : Nat → Option (List UInt8)) (n : Nat) : List (List UInt8) := log s n n 0
theorem log_end {s : Nat → Option (List UInt8)} {n f i : Nat} (h : n ≤ i) : log s n f i = [] := by
  cases f with
  | zero => rfl
  | succ f =>
    rw [log, rec_none (fun v k => by have := k.room; have := cost_pos v.length; omega)]
theorem log_fuel {s : Nat → Option (List UInt8)} {n : Nat} : ∀ (f g i : Nat), n - i ≤ f → n - i ≤ g → log s n f i = log s n g i
  | 0, g, i, h1, _ => by rw [log_end (show n ≤ i by omega), log_end (show n ≤ i by omega)]
  | f + 1, 0, i, _, h2 => by rw [log_end (show n ≤ i by omega), log_end (show n ≤ i by omega)]
  | f + 1, g + 1, i, h1, h2 => by
    rw [log, log]
    cases h : rec s n i with
    | none => rfl
    | some v =>
      have := cost_pos v.length
      have := (rec_whole h).room
      simp only
      rw [log_fuel f g (i + cost v.length) (by omega) (by omega)]
theorem log_step {s : Nat → Option (List UInt8)} {n i : Nat} {v : List UInt8} (h : rec s n i = some v) : log s n (n - i) i = v :: log s n (n - (i + cost v.length)) (i + cost v.length) := by
  have h1 := cost_pos v.length
  have h2 := (rec_whole h).room
  obtain ⟨f, hf⟩ : ∃ f, n - i = f + 1 := ⟨n - i - 1, by omega⟩
  rw [hf, log, h]
  simp only
  rw [log_fuel f (n - (i + cost v.length)) _ (by omega) (by omega)]
theorem log_stop {s : Nat → Option (List UInt8)} {n i f : Nat} (h : rec s n i = none) : log s n f i = [] := by
  cases f with
  | zero => rfl
  | succ f => rw [log, h]
theorem log_length {s : Nat → Option (List UInt8)} {n : Nat} : ∀ (f i : Nat), (log s n f i).length ≤ f
  | 0, _ => Nat.le_refl _
  | f + 1, i => by
    rw [log]
    split
    · simp
    · simp only [List.length_cons]
      have := log_length (s := s) (n := n) f
      exact Nat.succ_le_succ (this _)

/-! ### Where only the right sectors count -/
/-- All pieces of a list of records. -/
def stream : List (List UInt8) → List (List UInt8)
  | [] => []
  | v :: r => (List.range (cost v.length)).map (pay v) ++ stream r
def total : List (List UInt8) → Nat
  | [] => 0
  | v :: r => cost v.length + total r
theorem stream_length : ∀ l, (stream l).length = total l
  | [] => rfl
  | v :: r => by rw [stream, total, List.length_append, stream_length r]; simp
theorem stream_append : ∀ (a b : List (List UInt8)), stream (a ++ b) = stream a ++ stream b
  | [], b => rfl
  | v :: r, b => by rw [List.cons_append, stream, stream, stream_append r b, List.append_assoc]
theorem total_append : ∀ (a b : List (List UInt8)), total (a ++ b) = total a + total b
  | [], b => by simp [total]
  | v :: r, b => by rw [List.cons_append, total, total, total_append r b, Nat.add_assoc]
theorem stream_le : ∀ (l : List (List UInt8)) (p : List UInt8), p ∈ stream l → p.length ≤ 234
  | [], p, h => by simp [stream] at h
  | v :: r, p, h => by
    rw [stream, List.mem_append] at h
    rcases h with h | h
    · obtain ⟨k, _, rfl⟩ := List.mem_map.1 h
      exact pay_le v k
    · exact stream_le r p h
theorem stream_at (v : List UInt8) (r : List (List UInt8)) {k : Nat} (h : k < cost v.length) : (stream (v :: r))[k]? = some (pay v k) := by
  rw [stream, List.getElem?_append_left (by simpa using h)]
  simp [h]
theorem stream_past (v : List UInt8) (r : List (List UInt8)) (k : Nat) : (stream (v :: r))[cost v.length + k]? = (stream r)[k]? := by
  rw [stream, List.getElem?_append_right (by simp)]
  simp
/-- The log tells some first ones; all of those whose sectors count. -/
theorem log_prefix {s : Nat → Option (List UInt8)} {n : Nat} : ∀ (l : List (List UInt8)) (i : Nat), (∀ v ∈ l, v.length < 4294967296) → i + total l ≤ n → (∀ k p, s (i + k) = some p → (stream l)[k]? = some p) →
    ∃ m, m ≤ l.length ∧ (∀ f, n - i ≤ f → log s n f i = l.take m) ∧ ∀ j, j ≤ l.length → (∀ k, k < total (l.take j) → (s (i + k)).isSome) → j ≤ m
  | [], i, _, _, hs => by
    refine ⟨0, Nat.le_refl _, fun f _ => ?_, fun j hj _ => hj⟩
    rw [log_stop (rec_none fun v k => ?_)]
    · rfl
    · have := hs 0 _ (k.each 0 (cost_pos _))
      simp [stream] at this
  | v :: r, i, hsm, hn, hs => by
    rw [total] at hn
    by_cases hall : ∀ k, k < cost v.length → (s (i + k)).isSome
    · have hw : Whole s n i v := ⟨hsm v (by simp), by omega, fun k hk => by
        obtain ⟨p, hp⟩ := Option.isSome_iff_exists.1 (hall k hk)
        have := hs k p hp
        rw [stream_at v r hk] at this
        rw [hp, ← this]⟩
      obtain ⟨m, h1, h2, h3⟩ := log_prefix (s := s) (n := n) r (i + cost v.length) (fun u hu => hsm u (by simp [hu])) (by omega) (fun k p hp => by
        have := hs (cost v.length + k) p (by rw [← Nat.add_assoc]; exact hp)
        rw [stream_past] at this
        exact this)
      refine ⟨m + 1, by simp; omega, fun f hf => ?_, fun j hj hk => ?_⟩
      · have hc := cost_pos v.length
        obtain ⟨g, rfl⟩ : ∃ g, f = g + 1 := ⟨f - 1, by omega⟩
        rw [log, rec_some hw]
        simp only
        rw [h2 g (by omega), List.take_succ_cons]
      · cases j with
        | zero => omega
        | succ j =>
          have ht : total ((v :: r).take (j + 1)) = cost v.length + total (r.take j) := by rw [List.take_succ_cons, total]
          have := h3 j (by simpa using hj) (fun k hk2 => by
            have := hk (cost v.length + k) (by rw [ht]; omega)
            rw [← Nat.add_assoc] at this
            exact this)
          omega
    · refine ⟨0, by omega, fun f _ => ?_, fun j hj hk => ?_⟩
      · rw [log_stop (rec_none fun u k => hall fun q hq => ?_)]
        · rfl
        · have e0 := hs 0 _ (k.each 0 (cost_pos _))
          rw [stream_at v r (cost_pos _)] at e0
          injection e0 with e0
          have el : u.length = v.length := by rw [← size_pay k.small, ← size_pay (hsm v (by simp)), e0]
          rw [k.each q (by rw [el]; exact hq)]
          rfl
      · cases j with
        | zero => omega
        | succ j => exact absurd (fun k hk2 => hk k (by rw [List.take_succ_cons, total]; omega)) hall
/-- .. and of all that count, all. -/
theorem log_whole {s : Nat → Option (List UInt8)} {n : Nat} {l : List (List UInt8)} (h1 : ∀ v ∈ l, v.length < 4294967296) (h2 : total l ≤ n) (h3 : ∀ k, s k = (stream l)[k]?) : logAll s n = l := by
  obtain ⟨m, hm, hl, hj⟩ := log_prefix (s := s) (n := n) l 0 h1 (by omega) (fun k p hp => by rw [Nat.zero_add] at hp; rw [← h3]; exact hp)
  have := hj l.length (Nat.le_refl _) (fun k hk => by
    rw [List.take_length] at hk
    rw [Nat.zero_add, h3, List.getElem?_eq_getElem (by rw [stream_length]; exact hk)]
    rfl)
  unfold logAll
  rw [hl n (by omega), show m = l.length by omega, List.take_length]
end Go.Proofs.YtggogaaooacooaaDoor.J
