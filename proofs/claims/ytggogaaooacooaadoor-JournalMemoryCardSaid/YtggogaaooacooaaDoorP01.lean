/-
  Layer 3, plain: the sum of 32 bits, the rest by 97, the digit by doubling; what each tells of slips.
-/

namespace Go.Proofs.YtggogaaooacooaaDoor.C

/-! ### The register -/
def poly : Nat := 0x82F63B78
@[irreducible] def bit (r : Nat) : Nat := if r % 2 = 1 then r / 2 ^^^ poly else r / 2
@[irreducible] def byte8 (r : Nat) : Nat := bit (bit (bit (bit (bit (bit (bit (bit r)))))))
/-- The register's way over a text. -/
def go : Nat → List UInt8 → Nat
  | r, [] => r
  | r, c :: s => go (byte8 (r ^^^ c.toNat)) s
def full : Nat := 0xFFFFFFFF
def extend (sum : Nat) (s : List UInt8) : Nat := go (sum ^^^ full) s ^^^ full
def sum (s : List UInt8) : Nat := extend 0 s

theorem go_append : ∀ (s t : List UInt8) (r : Nat), go r (s ++ t) = go (go r s) t
  | [], _, _ => rfl
  | _ :: s, t, _ => go_append s t _
theorem xor_cancel (a b : Nat) : a ^^^ b ^^^ b = a := by rw [Nat.xor_assoc, Nat.xor_self, Nat.xor_zero]
theorem extend_extend (x : Nat) (s t : List UInt8) : extend (extend x s) t = extend x (s ++ t) := by
  unfold extend; rw [xor_cancel, go_append]
theorem extend_sum (s t : List UInt8) : extend (sum s) t = sum (s ++ t) := extend_extend 0 s t

theorem bit_lt {r : Nat} (h : r < 2 ^ 32) : bit r < 2 ^ 32 := by
  unfold bit; split
  · exact Nat.xor_lt_two_pow (by omega) (by decide)
  · omega
theorem byte8_lt {r : Nat} (h : r < 2 ^ 32) : byte8 r < 2 ^ 32 := by
  unfold byte8
  exact bit_lt (bit_lt (bit_lt (bit_lt (bit_lt (bit_lt (bit_lt (bit_lt h)))))))
theorem go_lt : ∀ (s : List UInt8) {r : Nat}, r < 2 ^ 32 → go r s < 2 ^ 32
  | [], _, h => h
  | c :: s, r, h => go_lt s (byte8_lt (Nat.xor_lt_two_pow h (Nat.lt_of_lt_of_le c.toNat_lt (by decide))))
theorem extend_lt {x : Nat} (h : x < 2 ^ 32) (s : List UInt8) : extend x s < 2 ^ 32 := Nat.xor_lt_two_pow (go_lt s (Nat.xor_lt_two_pow h (by decide))) (by decide)

theorem xor_swap (a b c d : Nat) : (a ^^^ b) ^^^ (c ^^^ d) = (a ^^^ c) ^^^ (b ^^^ d) := by
  rw [Nat.xor_assoc, Nat.xor_assoc, ← Nat.xor_assoc b, Nat.xor_comm b c, Nat.xor_assoc c]
theorem xor_parity (a b : Nat) : (a ^^^ b) % 2 = (a % 2 + b % 2) % 2 := by
  have h := Nat.xor_mod_two_pow (a := a) (b := b) (n := 1)
  rw [Nat.pow_one] at h
  rw [h]
  rcases Nat.mod_two_eq_zero_or_one a with h1 | h1 <;> rcases Nat.mod_two_eq_zero_or_one b with h2 | h2 <;> rw [h1, h2] <;> rfl
theorem bit_xor (a b : Nat) : bit (a ^^^ b) = bit a ^^^ bit b := by
  unfold bit
  rw [xor_parity, Nat.xor_div_two]
  rcases Nat.mod_two_eq_zero_or_one a with h1 | h1 <;> rcases Nat.mod_two_eq_zero_or_one b with h2 | h2 <;> rw [h1, h2]
  · rfl
  · show (a / 2 ^^^ b / 2) ^^^ poly = a / 2 ^^^ (b / 2 ^^^ poly)
    rw [Nat.xor_assoc]
  · show (a / 2 ^^^ b / 2) ^^^ poly = (a / 2 ^^^ poly) ^^^ b / 2
    rw [Nat.xor_assoc, Nat.xor_assoc, Nat.xor_comm (b / 2)]
  · show a / 2 ^^^ b / 2 = (a / 2 ^^^ poly) ^^^ (b / 2 ^^^ poly)
    rw [xor_swap, Nat.xor_self, Nat.xor_zero]
theorem byte8_xor (a b : Nat) : byte8 (a ^^^ b) = byte8 a ^^^ byte8 b := by unfold byte8; simp only [bit_xor]
theorem xor_eq_zero {a b : Nat} (h : a ^^^ b = 0) : a = b := by
  have := xor_cancel a b
  rw [h, Nat.zero_xor] at this
  exact this.symm
theorem bit_zero {r : Nat} (h : r < 2 ^ 32) (e : bit r = 0) : r = 0 := by
  unfold bit at e
  split at e
  · have := xor_eq_zero e
    have : r / 2 = 2197175160 := this
    omega
  · omega
theorem byte8_zero {r : Nat} (h : r < 2 ^ 32) (e : byte8 r = 0) : r = 0 := by
  unfold byte8 at e
  exact bit_zero h (bit_zero (bit_lt h) (bit_zero (bit_lt (bit_lt h)) (bit_zero (bit_lt (bit_lt (bit_lt h))) (bit_zero (bit_lt (bit_lt (bit_lt (bit_lt h)))) (bit_zero (bit_lt (bit_lt (bit_lt (bit_lt (bit_lt h))))) (bit_zero (bit_lt (bit_lt (bit_lt (bit_lt (bit_lt (bit_lt h)))))) (bit_zero (bit_lt (bit_lt (bit_lt (bit_lt (bit_lt (bit_lt (bit_lt h))))))) e)))))))
theorem bit_double (b : Nat) : bit (2 * b) = b := by
  unfold bit; rw [if_neg (by omega)]; omega
theorem byte8_shift (b : Nat) : byte8 (256 * b) = b := by
  unfold byte8
  rw [show 256 * b = 2 * (2 * (2 * (2 * (2 * (2 * (2 * (2 * b))))))) by omega]
  simp only [bit_double]
theorem byte8_in (x b : Nat) : byte8 x ^^^ b = byte8 (x ^^^ 256 * b) := by rw [byte8_xor, byte8_shift]

/-- The way of a difference. -/
def dif : Nat → List Nat → Nat
  | d, [] => d
  | d, c :: s => dif (byte8 (d ^^^ c)) s
theorem go_dif : ∀ (s t : List UInt8) (a b : Nat), s.length = t.length → go a s ^^^ go b t = dif (a ^^^ b) (List.zipWith (fun x y : UInt8 => x.toNat ^^^ y.toNat) s t)
  | [], [], _, _, _ => rfl
  | [], _ :: _, _, _, h => by simp at h
  | _ :: _, [], _, _, h => by simp at h
  | x :: s, y :: t, a, b, h => by
    rw [go, go, go_dif s t _ _ (by simpa using h), List.zipWith_cons_cons, dif, ← byte8_xor, xor_swap]
theorem dif_lt : ∀ (s : List Nat) {d : Nat}, d < 2 ^ 32 → (∀ c ∈ s, c < 256) → dif d s < 2 ^ 32
  | [], _, h, _ => h
  | c :: s, d, h, hs => dif_lt s (byte8_lt (Nat.xor_lt_two_pow h (Nat.lt_of_lt_of_le (hs c (by simp)) (by decide)))) (fun x hx => hs x (by simp [hx]))
theorem dif_append : ∀ (s t : List Nat) (d : Nat), dif d (s ++ t) = dif (dif d s) t
  | [], _, _ => rfl
  | _ :: s, t, _ => dif_append s t _
theorem bit_nought : bit 0 = 0 := by unfold bit; rfl
theorem byte8_nought : byte8 0 = 0 := by unfold byte8; simp only [bit_nought]
theorem dif_noughts : ∀ n, dif 0 (List.replicate n 0) = 0
  | 0 => rfl
  | n + 1 => by rw [List.replicate_succ, dif, Nat.xor_self, byte8_nought, dif_noughts n]
theorem dif_rest : ∀ (n : Nat) {d : Nat}, d < 2 ^ 32 → dif d (List.replicate n 0) = 0 → d = 0
  | 0, _, _, h => h
  | n + 1, d, hd, h => by
    rw [List.replicate_succ, dif, Nat.xor_zero] at h
    exact byte8_zero hd (dif_rest n (byte8_lt hd) h)

theorem xor_low {b x : Nat} (hb : b < 256) : (b ^^^ 256 * x) % 256 = b := by
  have h := Nat.xor_mod_two_pow (a := b) (b := 256 * x) (n := 8)
  rw [show (2 : Nat) ^ 8 = 256 from rfl, Nat.mul_mod_right, Nat.xor_zero, Nat.mod_eq_of_lt hb] at h
  exact h
theorem xor_high {b x : Nat} (hb : b < 256) : (b ^^^ 256 * x) / 256 = x := by
  have h := Nat.xor_div_two_pow (a := b) (b := 256 * x) (n := 8)
  rw [show (2 : Nat) ^ 8 = 256 from rfl, Nat.div_eq_of_lt hb, Nat.zero_xor, Nat.mul_div_cancel_left _ (by decide)] at h
  exact h
/-- Up to four bytes, as one number. -/
def word : List Nat → Nat
  | [] => 0
  | b :: r => b ^^^ 256 * word r
theorem word_zero : ∀ {l : List Nat}, (∀ b ∈ l, b < 256) → word l = 0 → ∀ b ∈ l, b = 0
  | [], _, _, b, hb => by simp at hb
  | b :: r, h, e, c, hc => by
    rw [word] at e
    have h1 := xor_low (b := b) (x := word r) (h b (by simp))
    have h2 := xor_high (b := b) (x := word r) (h b (by simp))
    rw [e] at h1 h2
    rcases List.mem_cons.1 hc with rfl | hc
    · exact h1.symm
    · exact word_zero (fun x hx => h x (by simp [hx])) h2.symm c hc
theorem word_lt : ∀ {l : List Nat}, (∀ b ∈ l, b < 256) → word l < 256 ^ l.length
  | [], _ => by decide
  | b :: r, h => by
    have h0 := h b (by simp)
    have hr := word_lt (l := r) (fun x hx => h x (by simp [hx]))
    have h2 := xor_high (b := b) (x := word r) h0
    rw [word, List.length_cons, Nat.pow_succ]
    have := Nat.div_add_mod (b ^^^ 256 * word r) 256
    rw [h2] at this
    have := Nat.mod_lt (b ^^^ 256 * word r) (show 0 < 256 by decide)
    omega
def rounds : Nat → Nat → Nat
  | 0, d => d
  | n + 1, d => rounds n (byte8 d)
theorem rounds_zero : ∀ (n : Nat) {d : Nat}, d < 2 ^ 32 → rounds n d = 0 → d = 0
  | 0, _, _, h => h
  | n + 1, _, hd, h => byte8_zero hd (rounds_zero n (byte8_lt hd) h)
theorem rounds_nought : ∀ n, rounds n 0 = 0
  | 0 => rfl
  | n + 1 => by rw [rounds, byte8_nought, rounds_nought n]
theorem dif_word : ∀ (l : List Nat) (d : Nat), dif d l = rounds l.length (d ^^^ word l)
  | [], d => by rw [word, Nat.xor_zero]; rfl
  | b :: r, d => by
    rw [dif, dif_word r, List.length_cons, rounds, byte8_in, word, Nat.xor_assoc]

/-- BURSTS: what turns in four neighbouring bytes turns the sum; what doesn't turn, doesn't. -/
theorem dif_burst (n k : Nat) (l : List Nat) (hl : l.length ≤ 4) (h : ∀ b ∈ l, b < 256) : dif 0 (List.replicate n 0 ++ l ++ List.replicate k 0) = 0 ↔ ∀ b ∈ l, b = 0 := by
  rw [dif_append, dif_append, dif_noughts]
  have hw : word l < 2 ^ 32 := Nat.lt_of_lt_of_le (word_lt h) (by
    rw [show (2 : Nat) ^ 32 = 256 ^ 4 from rfl]; exact Nat.pow_le_pow_right (by decide) hl)
  constructor
  · intro e
    have h1 := dif_rest k (dif_lt l (by decide) h) e
    rw [dif_word, Nat.zero_xor] at h1
    exact word_zero h (rounds_zero _ hw h1)
  · intro e
    have : l = List.replicate l.length 0 := List.eq_replicate_iff.2 ⟨rfl, e⟩
    rw [this, dif_noughts, dif_noughts]

theorem sum_dif (s t : List UInt8) (h : s.length = t.length) : sum s = sum t ↔ dif 0 (List.zipWith (fun x y : UInt8 => x.toNat ^^^ y.toNat) s t) = 0 := by
  have hd := go_dif s t full full h
  rw [Nat.xor_self] at hd
  rw [← hd]
  unfold sum extend
  rw [Nat.zero_xor]
  constructor
  · intro e
    have := congrArg (· ^^^ full) e
    simp only [xor_cancel] at this
    rw [this, Nat.xor_self]
  · intro e; rw [xor_eq_zero e]

/-! ### The rest by 97 -/
/-- What a character stands for. -/
def val (c : UInt8) : Option Nat :=
  if 48 ≤ c.toNat ∧ c.toNat ≤ 57 then some (c.toNat - 48) else if 65 ≤ c.toNat ∧ c.toNat ≤ 90 then some (c.toNat - 55) else none
/-- One character more. -/
def put (r v : Nat) : Nat := if 9 < v then (r * 100 + v) % 97 else (r * 10 + v) % 97
theorem put_two (r v : Nat) (h : v < 100) : put r v = if 9 < v then ((r * 10 + v / 10) % 97 * 10 + v % 10) % 97 else (r * 10 + v % 10) % 97 := by
  unfold put; split <;> omega
def restG : Nat → List UInt8 → Option Nat
  | r, [] => some r
  | r, c :: s => match val c with
    | none => none
    | some v => restG (put r v) s
def rest (s : List UInt8) : Option Nat := if s = [] then none else restG 0 s
def good (s : List UInt8) : Bool := s.all fun c => (val c).isSome

theorem val_lt {c : UInt8} {v : Nat} (h : val c = some v) : v < 36 := by
  unfold val at h
  split at h
  · injection h with h; omega
  · split at h
    · injection h with h; omega
    · cases h
theorem put_lt (r v : Nat) : put r v < 97 := by unfold put; split <;> omega
theorem restG_lt : ∀ {s : List UInt8} {r q : Nat}, r < 97 → restG r s = some q → q < 97
  | [], r, q, hr, h => by injection h with h; omega
  | c :: s, r, q, hr, h => by
    rw [restG] at h
    cases hv : val c with
    | none => rw [hv] at h; cases h
    | some v => rw [hv] at h; exact restG_lt (put_lt r v) h
theorem restG_append : ∀ (s t : List UInt8) (r : Nat), restG r (s ++ t) = (restG r s).bind fun q => restG q t
  | [], _, _ => rfl
  | c :: s, t, r => by
    rw [List.cons_append, restG, restG]
    cases val c with
    | none => rfl
    | some v => exact restG_append s t _
theorem restG_good : ∀ (s : List UInt8) (r : Nat), (restG r s).isSome = good s
  | [], _ => rfl
  | c :: s, r => by
    rw [restG]
    unfold good
    rw [List.all_cons]
    cases hv : val c with
    | none => rfl
    | some v => simpa [good] using restG_good s (put r v)
/-- What is apart stays apart. -/
theorem put_apart {r q v : Nat} (hr : r < 97) (hq : q < 97) (h : r ≠ q) : put r v ≠ put q v := by
  unfold put
  split <;> omega
theorem restG_apart : ∀ {s : List UInt8} {r q : Nat}, r < 97 → q < 97 → r ≠ q → good s = true → restG r s ≠ restG q s
  | [], r, q, _, _, h, _ => fun e => h (by injection e)
  | c :: s, r, q, hr, hq, h, hg => by
    rw [restG, restG]
    unfold good at hg
    rw [List.all_cons, Bool.and_eq_true] at hg
    cases hv : val c with
    | none => rw [hv] at hg; simp at hg
    | some v => exact restG_apart (put_lt _ _) (put_lt _ _) (put_apart hr hq h) hg.2
/-- One character another of its kind. -/
theorem put_one {r v u : Nat} (hv : v < 36) (hu : u < 36) (hk : (9 < v) = (9 < u)) (h : v ≠ u) : put r v ≠ put r u := by
  unfold put
  simp only [hk]
  split <;> omega
/-- Two neighbours of a kind exchanged. -/
theorem put_swap {r v u : Nat} (hv : v < 36) (hu : u < 36) (hk : (9 < v) = (9 < u)) (h : v ≠ u) : put (put r v) u ≠ put (put r u) v := by
  unfold put
  simp only [hk]
  split <;> omega

/-- The check digits. -/
def two (n : Nat) : List UInt8 := [(48 + n / 10).toUInt8, (48 + n % 10).toUInt8]
def digits (s : List UInt8) : Option (List UInt8) :=
  match rest s with
  | none => none
  | some _ => some (two (98 - (rest (s ++ [48, 48])).getD 0))
def fits (s : List UInt8) : Bool := decide (3 ≤ s.length) && (digits (s.take (s.length - 2)) == some (s.drop (s.length - 2)))
/-- A character's kind. -/
def cls (c : UInt8) : Nat := if 48 ≤ c.toNat ∧ c.toNat ≤ 57 then 1 else if 65 ≤ c.toNat ∧ c.toNat ≤ 90 then 2 else 0

theorem val_inj {c d : UInt8} {v : Nat} (hc : val c = some v) (hd : val d = some v) : c = d := by
  apply UInt8.toNat_inj.1
  unfold val at hc hd
  split at hc
  · injection hc with hc
    split at hd
    · injection hd with hd; omega
    · split at hd
      · injection hd with hd; omega
      · cases hd
  · split at hc
    · injection hc with hc
      split at hd
      · injection hd with hd; omega
      · split at hd
        · injection hd with hd; omega
        · cases hd
    · cases hc
theorem val_kind {c d : UInt8} {v u : Nat} (hc : val c = some v) (hd : val d = some u) (h : cls c = cls d) : (9 < v) = (9 < u) := by
  unfold val at hc hd
  unfold cls at h
  apply propext
  split at hc
  · rename_i q
    rw [if_pos q] at h
    injection hc with hc
    split at hd
    · injection hd with hd; omega
    · split at hd
      · rename_i q1 q2; rw [if_neg q1, if_pos q2] at h; cases h
      · cases hd
  · split at hc
    · rename_i q1 q2
      rw [if_neg q1, if_pos q2] at h
      injection hc with hc
      split at hd
      · rename_i q3; rw [if_pos q3] at h; cases h
      · split at hd
        · injection hd with hd; omega
        · cases hd
    · cases hc
theorem val_cls {c d : UInt8} {v : Nat} (hc : val c = some v) (h : cls c = cls d) : ∃ u, val d = some u := by
  unfold val at hc ⊢
  unfold cls at h
  split at hc
  · rename_i q
    rw [if_pos q] at h
    split at h
    · rename_i q2; exact ⟨_, by rw [if_pos q2]⟩
    · split at h <;> cases h
  · split at hc
    · rename_i q1 q2
      rw [if_neg q1, if_pos q2] at h
      split at h
      · cases h
      · rename_i q3
        split at h
        · rename_i q4; exact ⟨_, by rw [if_neg q3, if_pos q4]⟩
        · cases h
    · cases hc
theorem good_append (s t : List UInt8) : good (s ++ t) = (good s && good t) := by simp [good]
theorem restG_some {s : List UInt8} (h : good s = true) (r : Nat) : ∃ q, restG r s = some q := by
  have := restG_good s r
  rw [h] at this
  exact Option.isSome_iff_exists.1 this
theorem rest_ne {s : List UInt8} (h : s ≠ []) : rest s = restG 0 s := if_neg h
theorem rest_good {s : List UInt8} {q : Nat} (h : rest s = some q) : s ≠ [] ∧ good s = true ∧ restG 0 s = some q := by
  by_cases hs : s = []
  · unfold rest at h; rw [if_pos hs] at h; cases h
  · rw [rest_ne hs] at h
    refine ⟨hs, ?_, h⟩
    have := restG_good s 0
    rw [h] at this
    exact this.symm

/-- ONE CHARACTER another of its kind: another rest. -/
theorem rest_one {a r : List UInt8} {c d : UInt8} (hg : good (a ++ c :: r) = true) (hne : c ≠ d) (hk : cls c = cls d) : restG 0 (a ++ c :: r) ≠ restG 0 (a ++ d :: r) := by
  rw [good_append, Bool.and_eq_true] at hg
  obtain ⟨ha, hr⟩ := hg
  unfold good at hr
  rw [List.all_cons, Bool.and_eq_true] at hr
  obtain ⟨v, hv⟩ := Option.isSome_iff_exists.1 hr.1
  obtain ⟨u, hu⟩ := val_cls hv hk
  obtain ⟨q, hq⟩ := restG_some ha 0
  rw [restG_append, restG_append, hq]
  show restG q (c :: r) ≠ restG q (d :: r)
  rw [restG, restG, hv, hu]
  refine restG_apart (put_lt _ _) (put_lt _ _) (put_one (val_lt hv) (val_lt hu) (val_kind hv hu hk) (fun e => hne ?_)) hr.2
  subst e; exact val_inj hv hu
/-- TWO NEIGHBOURS of a kind exchanged: another rest. -/
theorem rest_swap {a r : List UInt8} {c d : UInt8} (hg : good (a ++ c :: d :: r) = true) (hne : c ≠ d) (hk : cls c = cls d) : restG 0 (a ++ c :: d :: r) ≠ restG 0 (a ++ d :: c :: r) := by
  rw [good_append, Bool.and_eq_true] at hg
  obtain ⟨ha, hr⟩ := hg
  unfold good at hr
  rw [List.all_cons, List.all_cons, Bool.and_eq_true, Bool.and_eq_true] at hr
  obtain ⟨v, hv⟩ := Option.isSome_iff_exists.1 hr.1
  obtain ⟨u, hu⟩ := Option.isSome_iff_exists.1 hr.2.1
  obtain ⟨q, hq⟩ := restG_some ha 0
  rw [restG_append, restG_append, hq]
  show restG q (c :: d :: r) ≠ restG q (d :: c :: r)
  simp only [restG, hv, hu]
  refine restG_apart (put_lt _ _) (put_lt _ _) (put_swap (val_lt hv) (val_lt hu) (val_kind hv hu hk) (fun e => hne ?_)) hr.2.2
  subst e; exact val_inj hv hu

theorem val_digit {n : Nat} (h : n < 10) : val (48 + n).toUInt8 = some n := by
  have : (48 + n).toUInt8.toNat = 48 + n := by
    rw [Nat.toUInt8, UInt8.toNat_ofNat']; exact Nat.mod_eq_of_lt (by omega)
  unfold val
  rw [this, if_pos (by omega)]
  congr 1; omega
theorem restG_two {s : List UInt8} {q n : Nat} (hq : restG 0 s = some q) (hn : n < 100) : restG 0 (s ++ two n) = some ((q * 100 + n) % 97) := by
  rw [restG_append, hq]
  show restG q (two n) = _
  simp only [two, restG, val_digit (show n / 10 < 10 by omega), val_digit (show n % 10 < 10 by omega)]
  congr 1
  unfold put
  rw [if_neg (by omega), if_neg (by omega)]
  omega
theorem two_noughts : two 0 = [48, 48] := by decide
theorem digits_some {s d : List UInt8} (h : digits s = some d) : ∃ q, restG 0 s = some q ∧ s ≠ [] ∧ good s = true ∧ d = two (98 - (q * 100) % 97) := by
  unfold digits at h
  cases hr : rest s with
  | none => rw [hr] at h; cases h
  | some q =>
    rw [hr] at h
    obtain ⟨hs, hg, hq⟩ := rest_good hr
    have h0 := restG_two hq (n := 0) (by decide)
    rw [two_noughts] at h0
    simp only [rest_ne (s := s ++ [48, 48]) (by simp), h0, Option.getD_some, Nat.add_zero] at h
    injection h with h
    exact ⟨q, hq, hs, hg, h.symm⟩
theorem digits_none {s : List UInt8} (h : digits s = none) : rest s = none := by
  unfold digits at h
  cases hr : rest s with
  | none => rfl
  | some q => rw [hr] at h; cases h
theorem digits_rest {s d : List UInt8} (h : digits s = some d) : rest (s ++ d) = some 1 ∧ d.length = 2 := by
  obtain ⟨q, hq, hs, hg, rfl⟩ := digits_some h
  rw [rest_ne (by simp [hs]), restG_two hq (by omega)]
  exact ⟨by congr 1; omega, rfl⟩
theorem fits_digits {s d : List UInt8} (h : digits s = some d) : fits (s ++ d) = true := by
  obtain ⟨_, hd⟩ := digits_rest h
  obtain ⟨q, hq, hs, hg, _⟩ := digits_some h
  have hl : 0 < s.length := List.length_pos_iff.2 hs
  unfold fits
  rw [List.length_append, hd, Nat.add_sub_cancel, List.take_left, List.drop_left, h]
  simp; omega
theorem fits_inv {s : List UInt8} (h : fits s = true) : ∃ p d, s = p ++ d ∧ digits p = some d := by
  unfold fits at h
  rw [Bool.and_eq_true] at h
  exact ⟨_, _, (List.take_append_drop (s.length - 2) s).symm, by simpa using h.2⟩
theorem fits_rest {s : List UInt8} (h : fits s = true) : rest s = some 1 := by
  obtain ⟨p, d, rfl, hd⟩ := fits_inv h
  exact (digits_rest hd).1
theorem fits_one {a r : List UInt8} {c d : UInt8} (h : fits (a ++ c :: r) = true) (hne : c ≠ d) (hk : cls c = cls d) : fits (a ++ d :: r) = false := by
  cases h2 : fits (a ++ d :: r) with
  | false => rfl
  | true =>
    obtain ⟨_, hg, h1⟩ := rest_good (fits_rest h)
    obtain ⟨_, _, h3⟩ := rest_good (fits_rest h2)
    exact absurd (h1.trans h3.symm) (rest_one hg hne hk)
theorem fits_swap {a r : List UInt8} {c d : UInt8} (h : fits (a ++ c :: d :: r) = true) (hne : c ≠ d) (hk : cls c = cls d) : fits (a ++ d :: c :: r) = false := by
  cases h2 : fits (a ++ d :: c :: r) with
  | false => rfl
  | true =>
    obtain ⟨_, hg, h1⟩ := rest_good (fits_rest h)
    obtain ⟨_, _, h3⟩ := rest_good (fits_rest h2)
    exact absurd (h1.trans h3.symm) (rest_swap hg hne hk)

/-! ### The digit by doubling -/
def dbl (v : Nat) : Nat := if 4 < v then 2 * v - 9 else 2 * v
/-- The weighed sum; odd: the length of what is left is odd (the last character counts twice). -/
def luhnG : List Nat → Nat
  | [] => 0
  | v :: r => (if r.length % 2 = 0 then dbl v else v) + luhnG r
def luhn (l : List Nat) : Nat := (10 - luhnG l % 10) % 10
theorem dbl_apart : ∀ v < 10, ∀ u < 10, v ≠ u → dbl v % 10 ≠ dbl u % 10 := by decide
theorem dbl_swap' : ∀ v < 10, ∀ u < 10, (v = u ∨ (v = 0 ∧ u = 9) ∨ (v = 9 ∧ u = 0)) ∨ (dbl v + u) % 10 ≠ (dbl u + v) % 10 := by decide
theorem dbl_swap (v : Nat) (hv : v < 10) (u : Nat) (hu : u < 10) (h : v ≠ u) (h1 : ¬ (v = 0 ∧ u = 9)) (h2 : ¬ (v = 9 ∧ u = 0)) : (dbl v + u) % 10 ≠ (dbl u + v) % 10 := by
  rcases dbl_swap' v hv u hu with (e | e | e) | e
  · exact absurd e h
  · exact absurd e h1
  · exact absurd e h2
  · exact e
theorem luhnG_append : ∀ (a b c : List Nat), b.length = c.length → luhnG b % 10 ≠ luhnG c % 10 → luhnG (a ++ b) % 10 ≠ luhnG (a ++ c) % 10
  | [], _, _, _, h => h
  | v :: a, b, c, hl, h => by
    have ih := luhnG_append a b c hl h
    rw [List.cons_append, List.cons_append, luhnG, luhnG, List.length_append, List.length_append, hl]
    omega
theorem luhn_one (a r : List Nat) {v u : Nat} (hv : v < 10) (hu : u < 10) (h : v ≠ u) : luhn (a ++ v :: r) ≠ luhn (a ++ u :: r) := by
  have h1 : luhnG (v :: r) % 10 ≠ luhnG (u :: r) % 10 := by
    rw [luhnG, luhnG]
    have := dbl_apart v hv u hu h
    split <;> omega
  have := luhnG_append a _ _ (by simp) h1
  unfold luhn
  omega
theorem luhn_swap (a r : List Nat) {v u : Nat} (hv : v < 10) (hu : u < 10) (h : v ≠ u) (h1 : ¬ (v = 0 ∧ u = 9)) (h2 : ¬ (v = 9 ∧ u = 0)) : luhn (a ++ v :: u :: r) ≠ luhn (a ++ u :: v :: r) := by
  have h3 : luhnG (v :: u :: r) % 10 ≠ luhnG (u :: v :: r) % 10 := by
    rw [luhnG, luhnG, luhnG, luhnG, List.length_cons, List.length_cons]
    have := dbl_swap v hv u hu h h1 h2
    by_cases hr : r.length % 2 = 0
    · rw [if_neg (by omega), if_pos hr, if_neg (by omega), if_pos hr]; omega
    · rw [if_pos (by omega), if_neg hr, if_pos (by omega), if_neg hr]; omega
  have := luhnG_append a _ _ (by simp) h3
  unfold luhn
  omega
end Go.Proofs.YtggogaaooacooaaDoor.C
namespace Go.Proofs.YtggogaaooacooaaDoor.C
/-- Four bits at once. -/
def tab : List Nat := [0x00000000, 0x105EC76F, 0x20BD8EDE, 0x30E349B1, 0x417B1DBC, 0x5125DAD3, 0x61C69362, 0x7198540D, 0x82F63B78, 0x92A8FC17, 0xA24BB5A6, 0xB21572C9, 0xC38D26C4, 0xD3D3E1AB, 0xE330A81A, 0xF36E6F75]
def nib (r : Nat) : Nat := bit (bit (bit (bit r)))
theorem byte8_nib (r : Nat) : byte8 r = nib (nib r) := by unfold byte8 nib; rfl
theorem split16 (r : Nat) : r = (16 * (r / 16)) ^^^ (r % 16) := by
  have h := Nat.two_pow_add_eq_or_of_lt (b := r % 16) (i := 4) (Nat.mod_lt _ (by decide)) (r / 16)
  have h2 : 16 * (r / 16) ^^^ r % 16 = 16 * (r / 16) ||| r % 16 := by
    apply Nat.eq_of_testBit_eq
    intro i
    rw [Nat.testBit_xor, Nat.testBit_or]
    by_cases hi : i < 4
    · rw [show 16 * (r / 16) = 2 ^ 4 * (r / 16) from rfl, Nat.testBit_two_pow_mul]; have : ¬ 4 ≤ i := by omega
      simp [this]
    · have : (r % 16).testBit i = false := Nat.testBit_lt_two_pow (Nat.lt_of_lt_of_le (Nat.mod_lt _ (by decide)) (show 16 ≤ 2 ^ i from Nat.pow_le_pow_right (n := 2) (by decide) (show 4 ≤ i by omega)))
      rw [this]; simp
  rw [h2]
  have h3 : 16 * (r / 16) ||| r % 16 = 16 * (r / 16) + r % 16 := h.symm
  rw [h3]; omega
theorem nib_small : ∀ l < 16, nib l = tab.getD l 0 := by unfold nib bit poly tab; decide
theorem nib_16 (q : Nat) : nib (16 * q) = q := by
  unfold nib
  rw [show 16 * q = 2 * (2 * (2 * (2 * q))) by omega]
  simp only [bit_double]
theorem nib_xor (a b : Nat) : nib (a ^^^ b) = nib a ^^^ nib b := by unfold nib; simp only [bit_xor]
theorem nib_tab (r : Nat) : nib r = (r / 16) ^^^ tab.getD (r % 16) 0 := by
  conv => lhs; rw [split16 r]
  rw [nib_xor, nib_16, nib_small _ (Nat.mod_lt _ (by decide))]
theorem nib_lt {r : Nat} (h : r < 2 ^ 32) : nib r < 2 ^ 32 := bit_lt (bit_lt (bit_lt (bit_lt h)))
end Go.Proofs.YtggogaaooacooaaDoor.C
namespace Go.Proofs.YtggogaaooacooaaDoor.C
/-! ### Luhn over texts -/
def isDig (c : UInt8) : Bool := decide (48 ≤ c.toNat ∧ c.toNat ≤ 57)
def dv (c : UInt8) : Nat := c.toNat - 48
def allDig (s : List UInt8) : Bool := s.all isDig
def luhnB (s : List UInt8) : Option Nat := if s ≠ [] ∧ allDig s = true then some (luhn (s.map dv)) else none
theorem luhnB_some {s : List UInt8} (h : s ≠ []) (hd : allDig s = true) : luhnB s = some (luhn (s.map dv)) := if_pos ⟨h, hd⟩
theorem luhnB_bad {s : List UInt8} (hd : allDig s = false) : luhnB s = none := if_neg (fun h => by rw [hd] at h; exact absurd h.2 (by decide))
theorem luhnB_nil : luhnB [] = none := if_neg (fun h => h.1 rfl)
theorem luhn_lt (l : List Nat) : luhn l < 10 := Nat.mod_lt _ (by decide)
theorem allDig_append (s t : List UInt8) : allDig (s ++ t) = (allDig s && allDig t) := by simp [allDig]
theorem allDig_cons (c : UInt8) (t : List UInt8) : allDig (c :: t) = (isDig c && allDig t) := rfl
theorem isDig_lt {c : UInt8} (h : isDig c = true) : dv c < 10 := by
  unfold isDig at h; have := of_decide_eq_true h; unfold dv; omega
theorem luhnG_le : ∀ (l : List Nat), (∀ v ∈ l, v < 10) → luhnG l ≤ 9 * l.length
  | [], _ => by decide
  | v :: r, h => by
    have h0 := h v (by simp)
    have := luhnG_le r (fun x hx => h x (by simp [hx]))
    rw [luhnG, List.length_cons]
    unfold dbl
    split <;> (try split) <;> omega
theorem dv_lt {s : List UInt8} (h : allDig s = true) : ∀ v ∈ s.map dv, v < 10 := by
  intro v hv
  obtain ⟨c, hc, rfl⟩ := List.mem_map.1 hv
  exact isDig_lt (List.all_eq_true.1 h c hc)
theorem dv_inj {c d : UInt8} (hc : isDig c = true) (hd : isDig d = true) (h : dv c = dv d) : c = d := by
  unfold isDig at hc hd
  have := of_decide_eq_true hc
  have := of_decide_eq_true hd
  unfold dv at h
  exact UInt8.toNat_inj.1 (by omega)
/-- ONE DIGIT another one: another check digit. -/
theorem luhnB_one {a r : List UInt8} {c d : UInt8} (hg : allDig (a ++ c :: r) = true) (hd : isDig d = true) (hne : c ≠ d) : ∃ m n, luhnB (a ++ c :: r) = some m ∧ luhnB (a ++ d :: r) = some n ∧ n ≠ m := by
  rw [allDig_append, Bool.and_eq_true, allDig_cons, Bool.and_eq_true] at hg
  obtain ⟨ha, hc, hr⟩ := hg
  refine ⟨_, _, luhnB_some (by simp) (by rw [allDig_append, allDig_cons, ha, hc, hr]; rfl), luhnB_some (by simp) (by rw [allDig_append, allDig_cons, ha, hd, hr]; rfl), ?_⟩
  rw [List.map_append, List.map_append, List.map_cons, List.map_cons]
  exact luhn_one _ _ (isDig_lt hd) (isDig_lt hc) (fun e => hne (dv_inj hc hd e.symm))
theorem luhnB_swap {a r : List UInt8} {c d : UInt8} (hg : allDig (a ++ c :: d :: r) = true) (hne : c ≠ d) (h1 : ¬ (c = 48 ∧ d = 57)) (h2 : ¬ (c = 57 ∧ d = 48)) : ∃ m n, luhnB (a ++ c :: d :: r) = some m ∧ luhnB (a ++ d :: c :: r) = some n ∧ n ≠ m := by
  rw [allDig_append, Bool.and_eq_true, allDig_cons, Bool.and_eq_true, allDig_cons, Bool.and_eq_true] at hg
  obtain ⟨ha, hc, hd, hr⟩ := hg
  refine ⟨_, _, luhnB_some (by simp) (by rw [allDig_append, allDig_cons, allDig_cons, ha, hc, hd, hr]; rfl), luhnB_some (by simp) (by rw [allDig_append, allDig_cons, allDig_cons, ha, hc, hd, hr]; rfl), ?_⟩
  rw [List.map_append, List.map_append, List.map_cons, List.map_cons, List.map_cons, List.map_cons]
  have k48 : dv (48 : UInt8) = 0 := by decide
  have k57 : dv (57 : UInt8) = 9 := by decide
  refine luhn_swap _ _ (isDig_lt hd) (isDig_lt hc) (fun e => hne (dv_inj hc hd e.symm)) (fun e => h2 ⟨?_, ?_⟩) (fun e => h1 ⟨?_, ?_⟩)
  · exact dv_inj hc (by decide) (e.2.trans k57.symm)
  · exact dv_inj hd (by decide) (e.1.trans k48.symm)
  · exact dv_inj hc (by decide) (e.2.trans k48.symm)
  · exact dv_inj hd (by decide) (e.1.trans k57.symm)
/-- From the last one: the state behind the bytes from k on. -/
theorem luhnG_back (s : List UInt8) (k : Nat) (h : k < s.length) : luhnG ((s.map dv).drop k) = (if (s.length - (k + 1)) % 2 = 0 then dbl (dv s[k]) else dv s[k]) + luhnG ((s.map dv).drop (k + 1)) := by
  rw [List.drop_eq_getElem_cons (by simpa using h), luhnG, List.getElem_map, List.length_drop]
  simp only [List.length_map]
theorem allDig_back (s : List UInt8) (k : Nat) (h : k < s.length) : allDig (s.drop k) = (isDig s[k] && allDig (s.drop (k + 1))) := by
  rw [List.drop_eq_getElem_cons h, allDig_cons]
theorem allDig_drop {s : List UInt8} (k : Nat) (h : allDig (s.drop k) = false) : allDig s = false := by
  have := List.take_append_drop k s
  rw [← this, allDig_append, h, Bool.and_false]
theorem allDig_take_snoc (s : List UInt8) (k : Nat) (h : k < s.length) : allDig (s.take (k + 1)) = (allDig (s.take k) && isDig s[k]) := by
  rw [List.take_succ_eq_append_getElem h, allDig_append, allDig_cons]; simp [allDig]
theorem allDig_take {s : List UInt8} (k : Nat) (h : allDig (s.take k) = false) : allDig s = false := by
  have := List.take_append_drop k s
  rw [← this, allDig_append, h, Bool.false_and]

/-! ### Bit by bit -/
def bits : Nat → Nat → Nat
  | 0, r => r
  | n + 1, r => bits n (bit r)
theorem bits_eight (r : Nat) : byte8 r = bits 8 r := by unfold byte8; rfl
theorem bits_step {j : Nat} (h : j < 8) (z : Nat) : bits (8 - j) z = bits (8 - (j + 1)) (bit z) := by
  rw [show 8 - j = (8 - (j + 1)) + 1 by omega, bits]
theorem bit_even {z : Nat} (h : z % 2 = 0) : bit z = z / 2 := by unfold bit; rw [if_neg (by omega)]
theorem bit_odd {z : Nat} (h : z % 2 = 1) : bit z = z / 2 ^^^ poly := by unfold bit; rw [if_pos h]
end Go.Proofs.YtggogaaooacooaaDoor.C
