/-
  Layer 2, plain: parts, their forms, keys; the order; what comes back.
-/
namespace Go.Proofs.YtfhfbpjhjigbnaaDoor.K

/-- A part of a key. -/
inductive PartD where
  | num (n : Int)
  | txt (s : List UInt8)

def cmpB : List UInt8 → List UInt8 → Int
  | [], [] => 0
  | [], _ :: _ => -1
  | _ :: _, [] => 1
  | a :: x, b :: y => if a < b then -1 else if b < a then 1 else cmpB x y

theorem cmpB_self : ∀ x, cmpB x x = 0
  | [] => rfl
  | a :: x => by rw [cmpB, if_neg (UInt8.lt_irrefl a), if_neg (UInt8.lt_irrefl a), cmpB_self x]

theorem cmpB_cons (a : UInt8) (x y : List UInt8) : cmpB (a :: x) (a :: y) = cmpB x y := by
  rw [cmpB, if_neg (UInt8.lt_irrefl a), if_neg (UInt8.lt_irrefl a)]

theorem cmpB_append : ∀ (p x y : List UInt8), cmpB (p ++ x) (p ++ y) = cmpB x y
  | [], _, _ => rfl
  | a :: p, x, y => by rw [List.cons_append, List.cons_append, cmpB_cons, cmpB_append p]

theorem cmpB_range : ∀ x y, cmpB x y = -1 ∨ cmpB x y = 0 ∨ cmpB x y = 1
  | [], [] => by simp [cmpB]
  | [], _ :: _ => by simp [cmpB]
  | _ :: _, [] => by simp [cmpB]
  | a :: x, b :: y => by
    rw [cmpB]
    split
    · simp
    · split
      · simp
      · exact cmpB_range x y

theorem cmpB_swap : ∀ x y, cmpB y x = -cmpB x y
  | [], [] => by simp [cmpB]
  | [], _ :: _ => by simp [cmpB]
  | _ :: _, [] => by simp [cmpB]
  | a :: x, b :: y => by
    rw [cmpB, cmpB]
    by_cases h1 : a < b
    · have h2 : ¬ b < a := by rw [UInt8.lt_iff_toNat_lt] at *; omega
      rw [if_neg h2, if_pos h1, if_pos h1]; rfl
    · by_cases h2 : b < a
      · rw [if_pos h2, if_neg h1, if_pos h2]
      · rw [if_neg h2, if_neg h1, if_neg h1, if_neg h2, cmpB_swap x y]

theorem cmpB_zero : ∀ {x y}, cmpB x y = 0 → x = y
  | [], [], _ => rfl
  | [], _ :: _, h => by simp [cmpB] at h
  | _ :: _, [], h => by simp [cmpB] at h
  | a :: x, b :: y, h => by
    rw [cmpB] at h
    split at h
    · simp at h
    · split at h
      · simp at h
      · rename_i h1 h2
        have e : a = b := by
          apply UInt8.toNat_inj.1
          rw [UInt8.lt_iff_toNat_lt] at *
          omega
        rw [e, cmpB_zero h]

theorem cmpB_trans : ∀ {x y z}, cmpB x y ≤ 0 → cmpB y z ≤ 0 → cmpB x z ≤ 0
  | [], _, [], _, _ => by simp [cmpB]
  | [], _, _ :: _, _, _ => by simp [cmpB]
  | _ :: _, [], _, h, _ => by simp [cmpB] at h
  | _ :: _, _ :: _, [], _, h => by simp [cmpB] at h
  | a :: x, b :: y, c :: z, h1, h2 => by
    rw [cmpB] at h1 h2 ⊢
    simp only [UInt8.lt_iff_toNat_lt] at *
    by_cases a1 : a.toNat < b.toNat
    · by_cases b1 : c.toNat < b.toNat
      · rw [if_neg (by omega), if_pos b1] at h2; simp at h2
      · rw [if_pos (by omega)]; simp
    · rw [if_neg a1] at h1
      by_cases a2 : b.toNat < a.toNat
      · rw [if_pos a2] at h1; simp at h1
      · rw [if_neg a2] at h1
        by_cases b1 : b.toNat < c.toNat
        · rw [if_pos (by omega)]; simp
        · rw [if_neg b1] at h2
          by_cases b2 : c.toNat < b.toNat
          · rw [if_pos b2] at h2; simp at h2
          · rw [if_neg b2] at h2
            rw [if_neg (by omega), if_neg (by omega)]
            exact cmpB_trans h1 h2

/-! ### Forms -/
/-- k bytes of x, the high one first. -/
def beB : Nat → Nat → List UInt8
  | 0, _ => []
  | k + 1, x => (x / 256 ^ k % 256).toUInt8 :: beB k (x % 256 ^ k)
def deB : List UInt8 → Nat
  | [] => 0
  | b :: r => b.toNat * 256 ^ r.length + deB r
/-- A text's bytes, each 0 with a 255 behind it. -/
def escB : List UInt8 → List UInt8
  | [] => []
  | c :: r => if c = 0 then 0 :: 255 :: escB r else c :: escB r
def formB : PartD → List UInt8
  | .num n => 1 :: beB 8 (n + 9223372036854775808).toNat
  | .txt s => 2 :: (escB s ++ [0, 1])
def joinB : List PartD → List UInt8
  | [] => []
  | p :: r => formB p ++ joinB r
theorem joinB_append : ∀ a b, joinB (a ++ b) = joinB a ++ joinB b
  | [], b => rfl
  | p :: r, b => by rw [List.cons_append, joinB, joinB, joinB_append r b, List.append_assoc]

theorem beB_length : ∀ k x, (beB k x).length = k
  | 0, _ => rfl
  | k + 1, x => by rw [beB, List.length_cons, beB_length k]

theorem u8_toNat {n : Nat} (h : n < 256) : n.toUInt8.toNat = n := by
  simp; omega

theorem cmpB_be : ∀ (k a b : Nat) (x y : List UInt8), a < 256 ^ k → b < 256 ^ k → cmpB (beB k a ++ x) (beB k b ++ y) = if a < b then -1 else if b < a then 1 else cmpB x y
  | 0, a, b, x, y, ha, hb => by
    simp at ha hb
    subst ha hb
    simp [beB]
  | k + 1, a, b, x, y, ha, hb => by
    have hp : 0 < 256 ^ k := Nat.pow_pos (by omega)
    rw [Nat.pow_succ] at ha hb
    have a1 : a / 256 ^ k < 256 := Nat.div_lt_of_lt_mul ha
    have b1 : b / 256 ^ k < 256 := Nat.div_lt_of_lt_mul hb
    have ea := Nat.div_add_mod a (256 ^ k)
    have eb := Nat.div_add_mod b (256 ^ k)
    have ma := Nat.mod_lt a hp
    have mb := Nat.mod_lt b hp
    have ih := cmpB_be k (a % 256 ^ k) (b % 256 ^ k) x y ma mb
    rw [beB, beB, List.cons_append, List.cons_append, cmpB, Nat.mod_eq_of_lt a1, Nat.mod_eq_of_lt b1]
    simp only [UInt8.lt_iff_toNat_lt, u8_toNat a1, u8_toNat b1]
    rw [ih]
    generalize a / 256 ^ k = qa at *
    generalize b / 256 ^ k = qb at *
    generalize a % 256 ^ k = ra at *
    generalize b % 256 ^ k = rb at *
    generalize 256 ^ k = m at *
    by_cases h1 : qa < qb
    · have : m * qa + m ≤ m * qb := by rw [← Nat.mul_succ]; exact Nat.mul_le_mul_left m h1
      rw [if_pos h1, if_pos (by omega)]
    · rw [if_neg h1]
      by_cases h2 : qb < qa
      · have : m * qb + m ≤ m * qa := by rw [← Nat.mul_succ]; exact Nat.mul_le_mul_left m h2
        rw [if_pos h2, if_neg (by omega), if_pos (by omega)]
      · have e : qa = qb := by omega
        subst e
        rw [if_neg h2]
        by_cases h3 : ra < rb
        · rw [if_pos h3, if_pos (by omega)]
        · rw [if_neg h3]
          by_cases h4 : rb < ra
          · rw [if_pos h4, if_neg (by omega), if_pos (by omega)]
          · rw [if_neg h4, if_neg (by omega), if_neg (by omega)]

theorem cmpB_esc : ∀ (s t x y : List UInt8), cmpB (escB s ++ 0 :: 1 :: x) (escB t ++ 0 :: 1 :: y) = if cmpB s t = 0 then cmpB x y else cmpB s t
  | [], [], x, y => by simp [escB, cmpB_cons, cmpB]
  | [], c :: t, x, y => by
    have h : cmpB [] (c :: t) = -1 := rfl
    rw [h, if_neg (by decide), escB, escB]
    by_cases e : c = 0
    · rw [if_pos e]
      simp only [List.nil_append, List.cons_append, cmpB_cons]
      rw [cmpB, if_pos (by decide)]
    · rw [if_neg e]
      simp only [List.nil_append, List.cons_append]
      rw [cmpB, if_pos]
      rw [UInt8.lt_iff_toNat_lt]
      have : c.toNat ≠ 0 := fun h => e (UInt8.toNat_inj.1 h)
      show 0 < c.toNat
      omega
  | c :: s, [], x, y => by
    have h : cmpB (c :: s) [] = 1 := rfl
    rw [h, if_neg (by decide), escB, escB]
    by_cases e : c = 0
    · rw [if_pos e]
      simp only [List.nil_append, List.cons_append, cmpB_cons]
      rw [cmpB, if_neg (by decide), if_pos (by decide)]
    · rw [if_neg e]
      simp only [List.nil_append, List.cons_append]
      have hc : c.toNat ≠ 0 := fun h => e (UInt8.toNat_inj.1 h)
      rw [cmpB, if_neg (by rw [UInt8.lt_iff_toNat_lt]; show ¬ c.toNat < 0; omega), if_pos (by rw [UInt8.lt_iff_toNat_lt]; show 0 < c.toNat; omega)]
  | c :: s, d :: t, x, y => by
    have ih := cmpB_esc s t x y
    have hesc : ∀ (c : UInt8) (s r : List UInt8), ∃ q, escB (c :: s) ++ r = c :: q := fun c s r => by
      rw [escB]
      by_cases e : c = 0
      · rw [if_pos e, e]; exact ⟨_, rfl⟩
      · rw [if_neg e]; exact ⟨_, rfl⟩
    by_cases e : c = d
    · subst e
      rw [cmpB_cons, escB, escB]
      by_cases e0 : c = 0
      · rw [if_pos e0, if_pos e0]
        simp only [List.cons_append, cmpB_cons]
        exact ih
      · rw [if_neg e0, if_neg e0]
        simp only [List.cons_append, cmpB_cons]
        exact ih
    · obtain ⟨q1, h1⟩ := hesc c s (0 :: 1 :: x)
      obtain ⟨q2, h2⟩ := hesc d t (0 :: 1 :: y)
      rw [h1, h2, cmpB, cmpB]
      have hne : c.toNat ≠ d.toNat := fun h => e (UInt8.toNat_inj.1 h)
      simp only [UInt8.lt_iff_toNat_lt]
      by_cases l : c.toNat < d.toNat
      · rw [if_pos l, if_pos l]; simp
      · have l2 : d.toNat < c.toNat := by omega
        simp [l, l2]

/-! ### The order -/
def cmpP : PartD → PartD → Int
  | .num a, .num b => if a < b then -1 else if b < a then 1 else 0
  | .num _, .txt _ => -1
  | .txt _, .num _ => 1
  | .txt s, .txt t => cmpB s t
def cmpL : List PartD → List PartD → Int
  | [], [] => 0
  | [], _ :: _ => -1
  | _ :: _, [] => 1
  | a :: x, b :: y => if cmpP a b = 0 then cmpL x y else cmpP a b

def PartD.Ok : PartD → Prop
  | .num n => -9223372036854775808 ≤ n ∧ n ≤ 9223372036854775807
  | .txt _ => True

theorem cmp_form {a b : PartD} (ha : a.Ok) (hb : b.Ok) (x y : List UInt8) : cmpB (formB a ++ x) (formB b ++ y) = if cmpP a b = 0 then cmpB x y else cmpP a b := by
  match a, b, ha, hb with
  | .num a, .num b, ha, hb =>
    simp only [PartD.Ok] at ha hb
    rw [formB, formB, List.cons_append, List.cons_append, cmpB_cons, cmpB_be 8 _ _ x y (by omega) (by omega), cmpP]
    by_cases h1 : a < b
    · rw [if_pos h1, if_pos (by omega)]; simp
    · rw [if_neg h1, if_neg (by omega)]
      by_cases h2 : b < a
      · rw [if_pos h2, if_pos (by omega)]; simp
      · rw [if_neg h2, if_neg (by omega)]; simp
  | .num a, .txt t, _, _ => simp [formB, cmpP, cmpB]
  | .txt s, .num b, _, _ => simp [formB, cmpP, cmpB]
  | .txt s, .txt t, _, _ =>
    have h := cmpB_esc s t x y
    rw [formB, formB, cmpP, List.cons_append, List.cons_append, cmpB_cons, List.append_assoc, List.append_assoc]
    by_cases e : cmpB s t = 0
    · rw [if_pos e] at h ⊢; exact h
    · rw [if_neg e] at h ⊢; exact h

theorem formB_cons (a : PartD) : ∃ c r, formB a = c :: r := by
  cases a <;> exact ⟨_, _, rfl⟩

/-- KEYS STAND AS THEIR LISTS DO. -/
theorem cmp_join : ∀ {a b : List PartD}, (∀ p ∈ a, p.Ok) → (∀ p ∈ b, p.Ok) → cmpB (joinB a) (joinB b) = cmpL a b
  | [], [], _, _ => rfl
  | [], b :: r, _, _ => by
    obtain ⟨c, q, h⟩ := formB_cons b
    rw [joinB, joinB, h]; rfl
  | a :: r, [], _, _ => by
    obtain ⟨c, q, h⟩ := formB_cons a
    rw [joinB, joinB, h]; rfl
  | a :: r, b :: r', ha, hb => by
    rw [joinB, joinB, cmp_form (ha a (by simp)) (hb b (by simp)), cmpL, cmp_join (fun p hp => ha p (by simp [hp])) (fun p hp => hb p (by simp [hp]))]

/-! ### Reading back -/
def unesc : List UInt8 → Option (List UInt8 × List UInt8)
  | [] => none
  | [_] => none
  | c :: d :: r => if c = 0 then (if d = 1 then some ([], r) else if d = 255 then (unesc r).map fun x => (0 :: x.1, x.2) else none)
    else (unesc (d :: r)).map fun x => (c :: x.1, x.2)

theorem unesc_ne {c : UInt8} (h : c ≠ 0) (r : List UInt8) : unesc (c :: r) = (unesc r).map fun x => (c :: x.1, x.2) := by
  cases r with
  | nil => simp [unesc]
  | cons d q => rw [unesc, if_neg h]
theorem unesc_end (r : List UInt8) : unesc (0 :: 1 :: r) = some ([], r) := by rw [unesc, if_pos rfl, if_pos rfl]
theorem unesc_zero (r : List UInt8) : unesc (0 :: 255 :: r) = (unesc r).map fun x => (0 :: x.1, x.2) := by rw [unesc, if_pos rfl, if_neg (by decide), if_pos rfl]
theorem unesc_bad {d : UInt8} (h1 : d ≠ 1) (h2 : d ≠ 255) (r : List UInt8) : unesc (0 :: d :: r) = none := by rw [unesc, if_pos rfl, if_neg h1, if_neg h2]

theorem unesc_esc (r : List UInt8) : ∀ s, unesc (escB s ++ 0 :: 1 :: r) = some (s, r)
  | [] => unesc_end r
  | c :: s => by
    rw [escB]
    by_cases e : c = 0
    · rw [if_pos e, List.cons_append, List.cons_append, unesc_zero, unesc_esc r s, e]
      rfl
    · rw [if_neg e, List.cons_append, unesc_ne e, unesc_esc r s]
      rfl

theorem unesc_inv : ∀ (n : Nat) {l s r : List UInt8}, l.length ≤ n → unesc l = some (s, r) → l = escB s ++ 0 :: 1 :: r
  | _, [], s, r, _, h => by simp [unesc] at h
  | 0, c :: l, s, r, hn, _ => by simp at hn
  | n + 1, c :: l, s, r, hn, h => by
    by_cases e : c = 0
    · subst e
      match l, hn, h with
      | [], _, h => simp [unesc] at h
      | d :: q, hn, h =>
        by_cases e1 : d = 1
        · subst e1
          rw [unesc_end] at h
          simp only [Option.some.injEq, Prod.mk.injEq] at h
          obtain ⟨rfl, rfl⟩ := h
          rfl
        · by_cases e2 : d = 255
          · subst e2
            rw [unesc_zero] at h
            obtain ⟨⟨s', r'⟩, h1, h2⟩ := Option.map_eq_some_iff.1 h
            simp only [Prod.mk.injEq] at h2
            obtain ⟨rfl, rfl⟩ := h2
            rw [unesc_inv n (by simp at hn ⊢; omega) h1, escB, if_pos rfl]; rfl
          · rw [unesc_bad e1 e2] at h; cases h
    · rw [unesc_ne e] at h
      obtain ⟨⟨s', r'⟩, h1, h2⟩ := Option.map_eq_some_iff.1 h
      simp only [Prod.mk.injEq] at h2
      obtain ⟨rfl, rfl⟩ := h2
      rw [unesc_inv n (by simp at hn ⊢; omega) h1, escB, if_neg e]; rfl

theorem deB_lt : ∀ l, deB l < 256 ^ l.length
  | [] => by simp [deB]
  | b :: r => by
    have h1 := deB_lt r
    have h2 := b.toNat_lt
    rw [deB, List.length_cons, Nat.pow_succ]
    have : b.toNat * 256 ^ r.length + 256 ^ r.length ≤ 256 ^ r.length * 256 := by
      rw [← Nat.succ_mul, Nat.mul_comm]; exact Nat.mul_le_mul_left _ (by omega)
    omega
theorem deB_beB : ∀ k x, x < 256 ^ k → deB (beB k x) = x
  | 0, x, h => by simp at h; simp [beB, deB, h]
  | k + 1, x, h => by
    rw [Nat.pow_succ] at h
    have a1 : x / 256 ^ k < 256 := Nat.div_lt_of_lt_mul h
    rw [beB, deB, beB_length, Nat.mod_eq_of_lt a1, u8_toNat a1, deB_beB k _ (Nat.mod_lt _ (Nat.pow_pos (by omega)))]
    rw [Nat.mul_comm]
    exact Nat.div_add_mod x (256 ^ k)
theorem beB_deB : ∀ l, beB l.length (deB l) = l
  | [] => rfl
  | b :: r => by
    have h := deB_lt r
    have hp : 0 < 256 ^ r.length := Nat.pow_pos (by omega)
    have hb := b.toNat_lt
    rw [List.length_cons, beB, deB]
    have e1 : (b.toNat * 256 ^ r.length + deB r) / 256 ^ r.length = b.toNat := by
      rw [Nat.mul_comm, Nat.mul_add_div hp, Nat.div_eq_of_lt h]; rfl
    have e2 : (b.toNat * 256 ^ r.length + deB r) % 256 ^ r.length = deB r := by
      rw [Nat.mul_comm, Nat.mul_add_mod, Nat.mod_eq_of_lt h]
    rw [e1, e2, beB_deB r, Nat.mod_eq_of_lt hb]
    congr 1
    simp

/-- The part that a key begins with, and what is left. -/
def headB : List UInt8 → Option (PartD × List UInt8)
  | [] => none
  | c :: l => if c = 1 then (if l.length < 8 then none else some (.num ((deB (l.take 8) : Int) - 9223372036854775808), l.drop 8))
    else if c = 2 then (unesc l).map fun x => (.txt x.1, x.2) else none

theorem headB_form {p : PartD} (hp : p.Ok) (r : List UInt8) : headB (formB p ++ r) = some (p, r) := by
  match p, hp with
  | .num n, hp =>
    simp only [PartD.Ok] at hp
    rw [formB, List.cons_append, headB, if_pos rfl]
    have hl := beB_length 8 (n + 9223372036854775808).toNat
    rw [if_neg (by rw [List.length_append, hl]; omega), List.take_left' hl, List.drop_left' hl, deB_beB 8 _ (by omega)]
    congr 3
    omega
  | .txt s, _ =>
    rw [formB, List.cons_append, headB, if_neg (by decide), if_pos rfl, List.append_assoc]
    show Option.map _ (unesc (escB s ++ 0 :: 1 :: r)) = _
    rw [unesc_esc r s]
    rfl

theorem headB_inv {l r : List UInt8} {p : PartD} (h : headB l = some (p, r)) : p.Ok ∧ l = formB p ++ r := by
  match l, h with
  | [], h => simp [headB] at h
  | c :: l, h =>
    rw [headB] at h
    by_cases e1 : c = 1
    · rw [if_pos e1] at h
      by_cases hl : l.length < 8
      · rw [if_pos hl] at h; simp at h
      · rw [if_neg hl] at h
        simp only [Option.some.injEq, Prod.mk.injEq] at h
        obtain ⟨rfl, rfl⟩ := h
        have ht : (l.take 8).length = 8 := by rw [List.length_take]; omega
        have hlt := deB_lt (l.take 8)
        rw [ht] at hlt
        have hlt' : deB (l.take 8) < 18446744073709551616 := hlt
        refine ⟨by simp only [PartD.Ok]; omega, ?_⟩
        rw [formB, e1, show ((deB (l.take 8) : Int) - 9223372036854775808 + 9223372036854775808).toNat = deB (l.take 8) by omega]
        have hb := beB_deB (l.take 8)
        rw [ht] at hb
        rw [hb, List.cons_append, List.take_append_drop]
    · rw [if_neg e1] at h
      by_cases e2 : c = 2
      · rw [if_pos e2] at h
        obtain ⟨⟨s, r'⟩, h1, h2⟩ := Option.map_eq_some_iff.1 h
        simp only [Prod.mk.injEq] at h2
        obtain ⟨rfl, rfl⟩ := h2
        refine ⟨trivial, ?_⟩
        rw [formB, e2, unesc_inv l.length (Nat.le_refl _) h1]
        simp
      · rw [if_neg e2] at h; simp at h

/-- The parts of a key (none: it is no key). -/
def splitN : Nat → List UInt8 → Option (List PartD)
  | 0, l => if l = [] then some [] else none
  | n + 1, l => if l = [] then some [] else match headB l with
    | none => none
    | some (p, r) => (splitN n r).map (p :: ·)
def splitB (l : List UInt8) : Option (List PartD) := splitN l.length l

theorem splitN_join : ∀ {a : List PartD} {n : Nat}, (∀ p ∈ a, p.Ok) → (joinB a).length ≤ n → splitN n (joinB a) = some a
  | [], n, _, _ => by cases n <;> simp [joinB, splitN]
  | p :: r, n, ha, hn => by
    obtain ⟨c, q, hc⟩ := formB_cons p
    have hne : joinB (p :: r) ≠ [] := by rw [joinB, hc]; simp
    cases n with
    | zero => rw [joinB, hc] at hn; simp at hn
    | succ n =>
      rw [splitN, if_neg hne, joinB, headB_form (ha p (by simp))]
      simp only
      rw [splitN_join (fun p hp => ha p (by simp [hp])) (by rw [joinB, hc, List.length_append] at hn; simp at hn; omega)]
      rfl
theorem splitB_join {a : List PartD} (ha : ∀ p ∈ a, p.Ok) : splitB (joinB a) = some a := splitN_join ha (Nat.le_refl _)

theorem splitN_inv : ∀ {n : Nat} {l : List UInt8} {a : List PartD}, splitN n l = some a → (∀ p ∈ a, p.Ok) ∧ l = joinB a
  | 0, l, a, h => by
    rw [splitN] at h
    by_cases e : l = []
    · rw [if_pos e] at h; injection h with h; subst h; exact ⟨by simp, e⟩
    · rw [if_neg e] at h; cases h
  | n + 1, l, a, h => by
    rw [splitN] at h
    by_cases e : l = []
    · rw [if_pos e] at h; injection h with h; subst h; exact ⟨by simp, e⟩
    · rw [if_neg e] at h
      cases hh : headB l with
      | none => rw [hh] at h; cases h
      | some z =>
        obtain ⟨p, r⟩ := z
        rw [hh] at h
        obtain ⟨b, h1, rfl⟩ := Option.map_eq_some_iff.1 h
        obtain ⟨h2, h3⟩ := headB_inv hh
        obtain ⟨h4, rfl⟩ := splitN_inv h1
        exact ⟨fun q hq => by rcases List.mem_cons.1 hq with rfl | hq; exact h2; exact h4 q hq, h3⟩

/-- Keys begin with one another just as their lists do. -/
theorem join_prefix : ∀ {a b : List PartD}, (∀ p ∈ a, p.Ok) → (∀ p ∈ b, p.Ok) → (joinB a <+: joinB b ↔ a <+: b)
  | [], b, _, _ => by simp [joinB]
  | p :: a, [], _, _ => by
    obtain ⟨c, q, hc⟩ := formB_cons p
    simp [joinB, hc]
  | p :: a, q :: b, ha, hb => by
    have ih := join_prefix (a := a) (b := b) (fun p hp => ha p (by simp [hp])) (fun p hp => hb p (by simp [hp]))
    constructor
    · rintro ⟨t, ht⟩
      rw [joinB, joinB, List.append_assoc] at ht
      have h1 := headB_form (ha p (by simp)) (joinB a ++ t)
      rw [ht, headB_form (hb q (by simp))] at h1
      simp only [Option.some.injEq, Prod.mk.injEq] at h1
      obtain ⟨rfl, h1⟩ := h1
      rw [List.cons_prefix_cons]
      exact ⟨rfl, ih.1 ⟨t, h1.symm⟩⟩
    · intro h
      rw [List.cons_prefix_cons] at h
      obtain ⟨rfl, h⟩ := h
      obtain ⟨t, ht⟩ := ih.2 h
      exact ⟨t, by rw [joinB, joinB, List.append_assoc, ht]⟩

/-! ### After -/
/-- The least text above all that begin with s (none: there is none). -/
def afterB : List UInt8 → Option (List UInt8)
  | [] => none
  | c :: r => match afterB r with
    | some t => some (c :: t)
    | none => if c = 255 then none else some [c + 1]

theorem afterB_none : ∀ {s}, afterB s = none → ∀ c ∈ s, c = 255
  | [], _, c, h => by cases h
  | a :: r, h, c, hc => by
    rw [afterB] at h
    cases hr : afterB r with
    | some t => rw [hr] at h; cases h
    | none =>
      rw [hr] at h
      simp only at h
      split at h
      · rename_i e
        rcases List.mem_cons.1 hc with rfl | hc
        · exact e
        · exact afterB_none hr c hc
      · cases h

theorem cmpB_nil (t : List UInt8) : cmpB [] t ≤ 0 := by cases t <;> simp [cmpB]

/-- Without an After: what begins with s is what lies from s on. -/
theorem prefix_all : ∀ {s t : List UInt8}, (∀ c ∈ s, c = 255) → (s <+: t ↔ cmpB s t ≤ 0)
  | [], t, _ => by simp [cmpB_nil]
  | c :: s, [], _ => by simp [cmpB]
  | c :: s, d :: t, h => by
    have e := h c (by simp)
    have ih := prefix_all (s := s) (t := t) (fun x hx => h x (by simp [hx]))
    rw [List.cons_prefix_cons, cmpB, ih, e]
    have hd := d.toNat_lt
    by_cases h1 : (255 : UInt8) = d
    · rw [← h1]; simp
    · have hne : d.toNat ≠ 255 := fun q => h1 (UInt8.toNat_inj.1 q.symm)
      have h2 : ¬ (255 : UInt8) < d := by rw [UInt8.lt_iff_toNat_lt]; show ¬ 255 < d.toNat; omega
      have h3 : d < (255 : UInt8) := by rw [UInt8.lt_iff_toNat_lt]; show d.toNat < 255; omega
      rw [if_neg h2, if_pos h3]
      simp [h1]

/-- With an After: from s on, and below it. -/
theorem prefix_after : ∀ {s e t : List UInt8}, afterB s = some e → (s <+: t ↔ cmpB s t ≤ 0 ∧ cmpB t e < 0)
  | [], e, t, h => by simp [afterB] at h
  | c :: s, e, t, h => by
    rw [afterB] at h
    cases hr : afterB s with
    | some u =>
      rw [hr] at h
      simp only [Option.some.injEq] at h
      subst h
      match t with
      | [] => simp [cmpB]
      | d :: t =>
        have ih := prefix_after (t := t) hr
        rw [List.cons_prefix_cons, ih, cmpB, cmpB]
        simp only [UInt8.lt_iff_toNat_lt]
        by_cases e1 : c = d
        · subst e1; simp
        · have hne : c.toNat ≠ d.toNat := fun q => e1 (UInt8.toNat_inj.1 q)
          by_cases l : c.toNat < d.toNat
          · rw [if_pos l, if_neg (by omega), if_pos l]; simp [e1]
          · rw [if_neg l, if_pos (by omega)]; simp [e1]
    | none =>
      rw [hr] at h
      simp only at h
      split at h
      · cases h
      · rename_i hc
        simp only [Option.some.injEq] at h
        subst h
        have hall := afterB_none hr
        have hcn : c.toNat ≠ 255 := fun q => hc (UInt8.toNat_inj.1 q)
        have hc1 : (c + 1).toNat = c.toNat + 1 := by rw [UInt8.toNat_add]; have := c.toNat_lt; show (c.toNat + 1) % 256 = _; omega
        match t with
        | [] => simp [cmpB]
        | d :: t =>
          have ih := prefix_all (s := s) (t := t) hall
          rw [List.cons_prefix_cons, ih, cmpB, cmpB]
          simp only [UInt8.lt_iff_toNat_lt, hc1]
          by_cases e1 : c = d
          · subst e1
            rw [if_neg (by omega), if_neg (by omega), if_pos (by omega)]; simp
          · have hne : c.toNat ≠ d.toNat := fun q => e1 (UInt8.toNat_inj.1 q)
            by_cases l : c.toNat < d.toNat
            · rw [if_pos l, if_neg (by omega)]
              by_cases l2 : c.toNat + 1 < d.toNat
              · rw [if_pos l2]; simp [e1]
              · rw [if_neg l2]
                have : cmpB t [] = 0 ∨ cmpB t [] = 1 := by cases t <;> simp [cmpB]
                simp only [e1, false_and, false_iff, not_and]
                intro _
                omega
            · rw [if_neg l, if_pos (by omega)]; simp [e1]

theorem after_above {s e : List UInt8} (h : afterB s = some e) : cmpB s e < 0 := ((prefix_after (t := s) h).1 (List.prefix_refl s)).2
theorem after_off {s e : List UInt8} (h : afterB s = some e) : ¬ s <+: e := fun q => by
  have := ((prefix_after (t := e) h).1 q).2
  rw [cmpB_self] at this
  omega
end Go.Proofs.YtfhfbpjhjigbnaaDoor.K
