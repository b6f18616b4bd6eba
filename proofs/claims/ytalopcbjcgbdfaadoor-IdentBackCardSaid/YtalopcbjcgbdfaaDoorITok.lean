/-
  Layer 5, plain: tokens, the numbers that they stand for, their order.
-/
import Derived.Test.YtalopcbjcgbdfaaDoorISpec
import Derived.Test.YtalopcbjcgbdfaaDoorMPadS
import GoSem.Op.String
namespace Go.Proofs.YtalopcbjcgbdfaaDoor.I

theorem allDg_dig (s : List UInt8) : M.allDg s = s.all dig := rfl
/-- The thirteen bytes ahead of the check digits. -/
def head13 (n : Nat) : List UInt8 := 80 :: M.low 12 n
def tok (n : Nat) : List UInt8 := head13 n ++ (C.digits (head13 n)).getD []
def isTok (s : List UInt8) : Bool := decide (s.length = 15) && (s.head? == some 80 && (s.drop 1).all dig)
def numOf (s : List UInt8) : Nat := M.val 0 ((s.drop 1).take 12)
/-- What Number answers: the number, the error's number. -/
def numV (s : List UInt8) : Nat × Nat :=
  if isTok s = true then (if C.fits s = true then (if numOf s = 0 then (0, 7) else (numOf s, 0)) else (0, 8)) else (0, 7)

theorem digits_head {x : List UInt8} (hx : x.all dig = true) : ∃ d, C.digits (80 :: x) = some d ∧ ∃ n, n < 100 ∧ d = C.two n := by
  have hg : C.good (80 :: x) = true := good_dl (by rw [List.all_cons, all_mono (fun _ => dig_dl) hx]; rfl)
  cases hd : C.digits (80 :: x) with
  | none =>
    have hr := C.digits_none hd
    rw [C.rest_ne (by simp)] at hr
    obtain ⟨q, hq⟩ := C.restG_some hg 0
    rw [hq] at hr; cases hr
  | some d =>
    obtain ⟨q, _, _, _, rfl⟩ := C.digits_some hd
    exact ⟨_, rfl, _, by omega, rfl⟩
theorem low_dig (k n : Nat) : (M.low k n).all dig = true := M.allDg_low k n
theorem tok_some (n : Nat) : ∃ m, m < 100 ∧ C.digits (head13 n) = some (C.two m) ∧ tok n = head13 n ++ C.two m := by
  obtain ⟨d, hd, m, hm, rfl⟩ := digits_head (low_dig 12 n)
  have hd' : C.digits (head13 n) = some (C.two m) := hd
  exact ⟨m, hm, hd', by unfold tok; rw [hd']; rfl⟩
theorem head13_length (n : Nat) : (head13 n).length = 13 := by unfold head13; rw [List.length_cons, M.low_length]
theorem tok_length (n : Nat) : (tok n).length = 15 := by
  obtain ⟨m, _, _, e⟩ := tok_some n
  rw [e, List.length_append, head13_length]; rfl
theorem tok_isTok (n : Nat) : isTok (tok n) = true := by
  obtain ⟨m, hm, _, e⟩ := tok_some n
  unfold isTok
  rw [tok_length, e]
  have : (head13 n ++ C.two m).drop 1 = M.low 12 n ++ C.two m := rfl
  rw [this, List.all_append, low_dig, two_dig hm]
  rfl
theorem tok_fits (n : Nat) : C.fits (tok n) = true := by
  obtain ⟨m, _, hd, e⟩ := tok_some n
  rw [e]; exact C.fits_digits hd
theorem tok_num (n : Nat) (h : n < 1000000000000) : numOf (tok n) = n := by
  obtain ⟨m, _, _, e⟩ := tok_some n
  unfold numOf
  rw [e]
  have : (head13 n ++ C.two m).drop 1 = M.low 12 n ++ C.two m := rfl
  rw [this, List.take_left' (M.low_length 12 n), M.val_low, Nat.zero_mul, Nat.zero_add]
  exact Nat.mod_eq_of_lt (by simpa using h)
/-- A number comes back from its token. -/
theorem numV_tok {n : Nat} (h1 : 1 ≤ n) (h2 : n < 1000000000000) : numV (tok n) = (n, 0) := by
  unfold numV
  rw [if_pos (tok_isTok n), if_pos (tok_fits n), tok_num n h2, if_neg (by omega)]
theorem isTok_iff {s : List UInt8} : isTok s = true ↔ s.length = 15 ∧ s.head? = some 80 ∧ (s.drop 1).all dig = true := by
  unfold isTok; rw [Bool.and_eq_true, Bool.and_eq_true, decide_eq_true_iff, beq_iff_eq]
theorem isTok_parts {s : List UInt8} (h : isTok s = true) : ∃ x d, s = 80 :: x ++ d ∧ x.length = 12 ∧ d.length = 2 ∧ x.all dig = true ∧ d.all dig = true := by
  obtain ⟨hl, hh, ha⟩ := isTok_iff.1 h
  cases s with
  | nil => cases hh
  | cons c r =>
    have hc : c = 80 := by simpa using hh
    subst hc
    have hr : r.length = 14 := by simpa using hl
    have ha' : r.all dig = true := ha
    refine ⟨r.take 12, r.drop 12, by rw [List.cons_append, List.take_append_drop], by simp; omega, by simp; omega, ?_, ?_⟩
    · rw [← List.take_append_drop 12 r, List.all_append, Bool.and_eq_true] at ha'
      exact ha'.1
    · rw [← List.take_append_drop 12 r, List.all_append, Bool.and_eq_true] at ha'
      exact ha'.2
theorem fits_back {p d : List UInt8} (hd : d.length = 2) (h : C.fits (p ++ d) = true) : C.digits p = some d := by
  unfold C.fits at h
  rw [Bool.and_eq_true] at h
  have hl : (p ++ d).length - 2 = p.length := by simp; omega
  rw [hl, List.take_left, List.drop_left] at h
  simpa using h.2
/-- WHAT NUMBER TAKES is the token of its answer. -/
theorem tok_numV {s : List UInt8} {v : Nat} (h : numV s = (v, 0)) : 1 ≤ v ∧ v < 1000000000000 ∧ tok v = s := by
  unfold numV at h
  by_cases h1 : isTok s = true
  · rw [if_pos h1] at h
    by_cases h2 : C.fits s = true
    · rw [if_pos h2] at h
      by_cases h3 : numOf s = 0
      · rw [if_pos h3] at h; cases h
      · rw [if_neg h3] at h
        have hv : numOf s = v := congrArg Prod.fst h
        obtain ⟨x, d, rfl, hx, hd, ax, ad⟩ := isTok_parts h1
        have hn : numOf (80 :: x ++ d) = M.val 0 x := by
          unfold numOf
          have : (80 :: x ++ d).drop 1 = x ++ d := rfl
          rw [this, List.take_left' hx]
        rw [hn] at h3 hv
        have hlt := (M.val_lt 12 x 0 hx ax).2
        subst hv
        refine ⟨by omega, by simpa using hlt, ?_⟩
        have hl : M.low 12 (M.val 0 x) = x := M.low_of 12 x 0 hx ax
        have hb := fits_back (p := 80 :: x) hd h2
        unfold tok head13
        rw [hl, hb]; rfl
    · rw [if_neg h2] at h; cases h
  · rw [if_neg h1] at h; cases h
theorem numV_zero {s : List UInt8} {v e : Nat} (h : numV s = (v, e)) (he : e ≠ 0) : v = 0 := by
  unfold numV at h
  split at h
  · split at h
    · split at h
      · injection h with h1 h2; exact h1.symm
      · injection h with h1 h2; exact absurd h2.symm he
    · injection h with h1 h2; exact h1.symm
  · injection h with h1 h2; exact h1.symm

/-! ### Order -/
theorem less_digits (x y : List UInt8) : ∀ (s t : List UInt8), s.length = t.length → s.all dig = true → t.all dig = true →
    Op.bytesLess (s ++ x) (t ++ y) = if M.val 0 s < M.val 0 t then true else if M.val 0 t < M.val 0 s then false else Op.bytesLess x y
  | [], [], _, _, _ => rfl
  | [], _ :: _, h, _, _ => by simp at h
  | _ :: _, [], h, _, _ => by simp at h
  | a :: s, b :: t, h, hs, ht => by
    have hl : s.length = t.length := by simpa using h
    rw [List.all_cons, Bool.and_eq_true] at hs ht
    have ih := less_digits x y s t hl hs.2 ht.2
    have va : M.val 0 (a :: s) = (a.toNat - 48) * 10 ^ s.length + M.val 0 s ∧ M.val 0 s < 10 ^ s.length := by
      have := M.val_lt s.length s (a.toNat - 48) rfl hs.2
      rw [← this.1]
      refine ⟨?_, this.2⟩
      rw [M.val]
      have : M.isDg a = true := hs.1
      rw [this]; simp
    have vb : M.val 0 (b :: t) = (b.toNat - 48) * 10 ^ s.length + M.val 0 t ∧ M.val 0 t < 10 ^ s.length := by
      have := M.val_lt t.length t (b.toNat - 48) rfl ht.2
      rw [hl, ← this.1]
      refine ⟨?_, this.2⟩
      rw [M.val]
      have : M.isDg b = true := ht.1
      rw [this]; simp
    have da : 48 ≤ a.toNat ∧ a.toNat ≤ 57 := of_decide_eq_true hs.1
    have db : 48 ≤ b.toNat ∧ b.toNat ≤ 57 := of_decide_eq_true ht.1
    obtain ⟨va1, va2⟩ := va
    obtain ⟨vb1, vb2⟩ := vb
    rw [List.cons_append, List.cons_append, Op.bytesLess, ih, va1, vb1]
    generalize 10 ^ s.length = P at *
    generalize M.val 0 s = S at *
    generalize M.val 0 t = T at *
    rcases Nat.lt_trichotomy a.toNat b.toNat with hab | hab | hab
    · have h2 : (a.toNat - 48) * P + P ≤ (b.toNat - 48) * P := by
        rw [← Nat.succ_mul]; exact Nat.mul_le_mul_right P (by omega)
      have h3 : a < b := hab
      rw [decide_eq_true h3, Bool.true_or, if_pos (by omega)]
    · have e : a = b := UInt8.toNat_inj.1 hab
      subst e
      have h3 : ¬ a < a := Nat.lt_irrefl a.toNat
      rw [decide_eq_false h3, Bool.false_or, beq_self_eq_true, Bool.true_and]
      simp only [Nat.add_lt_add_iff_left]
    · have h2 : (b.toNat - 48) * P + P ≤ (a.toNat - 48) * P := by
        rw [← Nat.succ_mul]; exact Nat.mul_le_mul_right P (by omega)
      have h4 : ¬ a < b := Nat.lt_asymm hab
      have h5 : (a == b) = false := by rw [beq_eq_false_iff_ne]; rintro rfl; exact Nat.lt_irrefl _ hab
      rw [decide_eq_false h4, h5, Bool.false_and, Bool.or_false, if_neg (by omega), if_pos (by omega)]
theorem less_irrefl : ∀ s : List UInt8, Op.bytesLess s s = false
  | [] => rfl
  | a :: s => by
    have h3 : ¬ a < a := Nat.lt_irrefl a.toNat
    rw [Op.bytesLess, decide_eq_false h3, less_irrefl s, Bool.and_false, Bool.or_false]
/-- TOKENS SORT as their numbers do. -/
theorem less_tok {m n : Nat} (hm : m < 1000000000000) (hn : n < 1000000000000) : Op.bytesLess (tok m) (tok n) = decide (m < n) := by
  obtain ⟨a, _, _, ea⟩ := tok_some m
  obtain ⟨b, _, _, eb⟩ := tok_some n
  have h3 : ¬ (80 : UInt8) < 80 := by decide
  by_cases hmn : m = n
  · subst hmn; rw [less_irrefl]; simp
  · rw [ea, eb]
    unfold head13
    rw [List.cons_append, List.cons_append, Op.bytesLess, decide_eq_false h3, Bool.false_or, beq_self_eq_true, Bool.true_and, less_digits _ _ _ _ (by rw [M.low_length, M.low_length]) (low_dig 12 m) (low_dig 12 n), M.val_low, M.val_low, Nat.zero_mul, Nat.zero_add, Nat.zero_add, Nat.mod_eq_of_lt (by simpa using hm), Nat.mod_eq_of_lt (by simpa using hn)]
    by_cases h : m < n
    · rw [if_pos h, decide_eq_true h]
    · rw [if_neg h, if_pos (by omega), decide_eq_false h]
/-- The twelve digits: noughts and the number's own. -/
theorem low12 {n : Nat} (h : n < 1000000000000) : (M.dec n).length ≤ 12 ∧ List.replicate (12 - (M.dec n).length) 48 ++ M.dec n = M.low 12 n := by
  obtain ⟨j, e, h1, h2⟩ := M.dec_spec n
  have hj : j + 1 ≤ 12 := by
    rcases h2 with h2 | h2
    · omega
    · rcases Nat.lt_or_ge 12 (j + 1) with h3 | h3
      · have : 10 ^ 12 ≤ 10 ^ j := Nat.pow_le_pow_right (by decide) (by omega)
        have : (10 : Nat) ^ 12 = 1000000000000 := rfl
        omega
      · exact h3
  have hl : (M.dec n).length = j + 1 := by rw [e, M.low_length]
  refine ⟨by omega, ?_⟩
  rw [hl, e]
  have := M.low_zeros (j + 1) n h1 (12 - (j + 1))
  rw [show 12 - (j + 1) + (j + 1) = 12 by omega] at this
  exact this.symm
/-- A slip in a token. -/
theorem tok_one {a r : List UInt8} {c d : UInt8} {v : Nat} (h : numV (a ++ c :: r) = (v, 0)) (hc : dig c = true) (hd : dig d = true) (hne : c ≠ d) : (numV (a ++ d :: r)).2 ≠ 0 := by
  intro h2
  have hf : ∀ {s : List UInt8} {e : Nat}, (numV s).2 = e → e = 0 → C.fits s = true := by
    intro s e h he
    unfold numV at h
    split at h
    · split at h
      · rename_i q; exact q
      · subst he; cases h
    · subst he; cases h
  have h3 := hf (congrArg Prod.snd h) rfl
  have h4 := hf h2 rfl
  rw [C.fits_one h3 hne (val_cls_dig hc hd)] at h4
  cases h4
theorem tok_swap {a r : List UInt8} {c d : UInt8} {v : Nat} (h : numV (a ++ c :: d :: r) = (v, 0)) (hc : dig c = true) (hd : dig d = true) (hne : c ≠ d) : (numV (a ++ d :: c :: r)).2 ≠ 0 := by
  intro h2
  have hf : ∀ {s : List UInt8} {e : Nat}, (numV s).2 = e → e = 0 → C.fits s = true := by
    intro s e h he
    unfold numV at h
    split at h
    · split at h
      · rename_i q; exact q
      · subst he; cases h
    · subst he; cases h
  have h3 := hf (congrArg Prod.snd h) rfl
  have h4 := hf h2 rfl
  rw [C.fits_swap h3 hne (val_cls_dig hc hd)] at h4
  cases h4

/-! ### The system's accounts -/
def sysHead (kind : Int) : List UInt8 :=
  if kind = 2 then [111, 117, 116, 115, 105, 100, 101, 46] else if kind = 3 then [115, 117, 115, 112, 101, 110, 115, 101, 46] else if kind = 4 then [99, 108, 101, 97, 114, 105, 110, 103, 46] else if kind = 5 then [102, 101, 101, 115, 46] else []
end Go.Proofs.YtalopcbjcgbdfaaDoor.I
