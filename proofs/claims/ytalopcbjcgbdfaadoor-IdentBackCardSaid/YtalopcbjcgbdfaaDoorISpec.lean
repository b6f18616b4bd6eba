/-
  Layer 5, plain: account numbers, their normal form, masks, ids.
-/
import Derived.Test.YtalopcbjcgbdfaaDoorCSpec
namespace Go.Proofs.YtalopcbjcgbdfaaDoor.I

def dig (c : UInt8) : Bool := decide (48 ≤ c.toNat ∧ c.toNat ≤ 57)
def cap (c : UInt8) : Bool := decide (65 ≤ c.toNat ∧ c.toNat ≤ 90)
def small (c : UInt8) : Bool := decide (97 ≤ c.toNat ∧ c.toNat ≤ 122)
def dl (c : UInt8) : Bool := dig c || cap c
def idc (c : UInt8) : Bool := dig c || cap c || small c || decide (c.toNat = 46) || decide (c.toNat = 95) || decide (c.toNat = 45)
/-- The capital letter of a small one. -/
def up (c : UInt8) : UInt8 := if small c then c - 32 else c
theorem up_toNat (c : UInt8) : (up c).toNat = if small c then c.toNat - 32 else c.toNat := by
  unfold up
  split
  · rename_i h
    unfold small at h
    have := of_decide_eq_true h
    have h2 : (32 : UInt8) ≤ c := by show (32 : UInt8).toNat ≤ c.toNat; have : (32 : UInt8).toNat = 32 := rfl; omega
    rw [UInt8.toNat_sub_of_le _ _ h2]; rfl
  · rfl
def country (s : List UInt8) : Bool := decide (s.length = 2) && s.all cap
def body (s : List UInt8) : Bool := decide (s.length ≠ 0) && (decide (s.length ≤ 30) && s.all dl)
def form (s : List UInt8) : Bool := decide (4 < s.length) && (country (s.take 2) && (((s.drop 2).take 2).all dig && body (s.drop 4)))
/-- What Check answers: an error's number. -/
def chk (s : List UInt8) : Nat := if form s = true then (if C.fits (s.drop 4 ++ s.take 4) = true then 0 else 8) else 7
def norm (s : List UInt8) : List UInt8 := (s.filter (fun c => c != 32)).map up
/-- What Make answers, if it does. -/
def make (c b : List UInt8) : Option (List UInt8) := if (country c && body b) = true then some (c ++ (C.digits (b ++ c)).getD [] ++ b) else none
def mask (s : List UInt8) : List UInt8 := if s.length ≤ 8 then List.replicate s.length 42 else s.take 4 ++ List.replicate (s.length - 8) 42 ++ s.drop (s.length - 4)
def idB (s : List UInt8) : Bool := decide (s.length ≠ 0) && (decide (s.length ≤ 32) && s.all idc)

theorem dl_val {c : UInt8} (h : dl c = true) : (C.val c).isSome = true := by
  unfold dl dig cap at h
  unfold C.val
  rw [Bool.or_eq_true, decide_eq_true_iff, decide_eq_true_iff] at h
  rcases h with h | h
  · rw [if_pos h]; rfl
  · rw [if_neg (by omega), if_pos h]; rfl
theorem good_dl {s : List UInt8} (h : s.all dl = true) : C.good s = true := by
  unfold C.good
  rw [List.all_eq_true] at h ⊢
  exact fun c hc => dl_val (h c hc)
theorem all_mono {p q : UInt8 → Bool} (hpq : ∀ c, p c = true → q c = true) {s : List UInt8} (h : s.all p = true) : s.all q = true := by
  rw [List.all_eq_true] at h ⊢
  exact fun c hc => hpq c (h c hc)
theorem cap_dl {c : UInt8} (h : cap c = true) : dl c = true := by unfold dl; rw [h, Bool.or_true]
theorem dig_dl {c : UInt8} (h : dig c = true) : dl c = true := by unfold dl; rw [h, Bool.true_or]
theorem country_iff {c : List UInt8} : country c = true ↔ c.length = 2 ∧ c.all cap = true := by
  unfold country; rw [Bool.and_eq_true, decide_eq_true_iff]
theorem body_iff {c : List UInt8} : body c = true ↔ c.length ≠ 0 ∧ c.length ≤ 30 ∧ c.all dl = true := by
  unfold body; rw [Bool.and_eq_true, Bool.and_eq_true, decide_eq_true_iff, decide_eq_true_iff]
theorem form_iff {s : List UInt8} : form s = true ↔ 4 < s.length ∧ country (s.take 2) = true ∧ ((s.drop 2).take 2).all dig = true ∧ body (s.drop 4) = true := by
  unfold form; rw [Bool.and_eq_true, Bool.and_eq_true, Bool.and_eq_true, decide_eq_true_iff]
/-- The body with the country behind it has check digits. -/
theorem digits_made {c b : List UInt8} (hc : country c = true) (hb : body b = true) : ∃ d, C.digits (b ++ c) = some d ∧ ∃ n, n < 100 ∧ d = C.two n := by
  obtain ⟨hc2, hca⟩ := country_iff.1 hc
  obtain ⟨hb0, _, hba⟩ := body_iff.1 hb
  have hg : C.good (b ++ c) = true := by
    rw [C.good_append, good_dl hba, good_dl (all_mono (fun _ => cap_dl) hca)]; rfl
  cases hd : C.digits (b ++ c) with
  | none =>
    have hr := C.digits_none hd
    have hne : b ++ c ≠ [] := by intro e; have := congrArg List.length e; rw [List.length_append, List.length_nil] at this; omega
    rw [C.rest_ne hne] at hr
    obtain ⟨q, hq⟩ := C.restG_some hg 0
    rw [hq] at hr; cases hr
  | some d =>
    obtain ⟨q, _, _, _, rfl⟩ := C.digits_some hd
    exact ⟨_, rfl, _, by omega, rfl⟩
theorem two_dig {n : Nat} (h : n < 100) : (C.two n).all dig = true := by
  have key : ∀ m < 100, (C.two m).all dig = true := by decide
  exact key n h
theorem two_length (n : Nat) : (C.two n).length = 2 := rfl

theorem list_two {α : Type} {l : List α} (h : l.length = 2) : ∃ x y, l = [x, y] := by
  match l, h with
  | [x, y], _ => exact ⟨x, y, rfl⟩
theorem parts_of (c d b : List UInt8) (hc : c.length = 2) (hd : d.length = 2) : (c ++ d ++ b).take 2 = c ∧ ((c ++ d ++ b).drop 2).take 2 = d ∧ (c ++ d ++ b).drop 4 = b ∧ (c ++ d ++ b).take 4 = c ++ d := by
  obtain ⟨x, y, rfl⟩ := list_two hc
  obtain ⟨z, w, rfl⟩ := list_two hd
  exact ⟨rfl, rfl, rfl, rfl⟩
theorem form_of {c d b : List UInt8} (hc : country c = true) (hb : body b = true) (hd : d.length = 2) (hdd : d.all dig = true) : form (c ++ d ++ b) = true := by
  obtain ⟨hc2, hca⟩ := country_iff.1 hc
  obtain ⟨hb0, _, _⟩ := body_iff.1 hb
  obtain ⟨h1, h2, h3, _⟩ := parts_of c d b hc2 hd
  rw [form_iff, h1, h2, h3]
  exact ⟨by simp; omega, hc, hdd, hb⟩
/-- What the form says. -/
theorem form_parts {s : List UInt8} (h : form s = true) : ∃ c d b, s = c ++ d ++ b ∧ c.length = 2 ∧ d.length = 2 ∧ country c = true ∧ d.all dig = true ∧ body b = true := by
  obtain ⟨h0, h1, h2, h3⟩ := form_iff.1 h
  refine ⟨s.take 2, (s.drop 2).take 2, s.drop 4, ?_, by simp; omega, by simp; omega, h1, h2, h3⟩
  have e : s.drop 4 = (s.drop 2).drop 2 := by rw [List.drop_drop]
  rw [e, List.append_assoc, List.take_append_drop, List.take_append_drop]
theorem chk_of {c d b : List UInt8} (hc : country c = true) (hb : body b = true) (hd : d.length = 2) (hdd : d.all dig = true) : chk (c ++ d ++ b) = if C.digits (b ++ c) = some d then 0 else 8 := by
  obtain ⟨hc2, hca⟩ := country_iff.1 hc
  obtain ⟨h1, h2, h3, h4⟩ := parts_of c d b hc2 hd
  unfold chk
  rw [if_pos (form_of hc hb hd hdd), h3, h4]
  have hl : (b ++ (c ++ d)).length = b.length + 4 := by simp; omega
  have e : C.fits (b ++ (c ++ d)) = true ↔ C.digits (b ++ c) = some d := by
    unfold C.fits
    rw [hl, show b.length + 4 - 2 = b.length + 2 by omega, ← List.append_assoc]
    have t1 : (b ++ c ++ d).take (b.length + 2) = b ++ c := by
      rw [List.take_append_of_le_length (by simp; omega), List.take_of_length_le (by simp; omega)]
    have t2 : (b ++ c ++ d).drop (b.length + 2) = d := by
      rw [show b.length + 2 = (b ++ c).length by simp; omega, List.drop_left]
    rw [t1, t2, Bool.and_eq_true, beq_iff_eq, decide_eq_true_iff]
    exact ⟨fun h => h.2, fun h => ⟨by omega, h⟩⟩
  by_cases hf : C.digits (b ++ c) = some d
  · rw [if_pos hf, if_pos (e.2 hf)]
  · rw [if_neg hf, if_neg (fun h => hf (e.1 h))]
/-- MAKE's answer: its parts, and what Check tells of it and of other digits. -/
theorem make_some {c b : List UInt8} (hc : country c = true) (hb : body b = true) : ∃ d, make c b = some (c ++ d ++ b) ∧ C.digits (b ++ c) = some d ∧ d.length = 2 ∧ d.all dig = true ∧ chk (c ++ d ++ b) = 0 := by
  obtain ⟨d, hd, n, hn, rfl⟩ := digits_made hc hb
  refine ⟨C.two n, ?_, hd, rfl, two_dig hn, ?_⟩
  · unfold make; rw [if_pos (by rw [hc, hb]; rfl), hd]; rfl
  · rw [chk_of hc hb rfl (two_dig hn), if_pos hd]
theorem make_none {c b : List UInt8} (h : (country c && body b) = false) : make c b = none := by
  unfold make; rw [if_neg (by rw [h]; decide)]
theorem chk_other {c b o d : List UInt8} (hc : country c = true) (hd : C.digits (b ++ c) = some d) (ho : o.length = 2) (hne : o ≠ d) : chk (c ++ o ++ b) ≠ 0 := by
  obtain ⟨hc2, _⟩ := country_iff.1 hc
  obtain ⟨h1, h2, h3, h4⟩ := parts_of c o b hc2 ho
  by_cases hf : form (c ++ o ++ b) = true
  · obtain ⟨_, f1, f2, f3⟩ := form_iff.1 hf
    rw [h2] at f2; rw [h3] at f3
    rw [chk_of hc f3 ho f2, hd, if_neg (fun e => hne (Option.some.inj e).symm)]
    decide
  · unfold chk; rw [if_neg hf]; decide
/-- No small letter and no blank stands in a number that passes. -/
theorem up_dl {c : UInt8} (h : dl c = true) : up c = c := by
  unfold up
  rw [if_neg]
  unfold dl dig cap at h
  unfold small
  rw [Bool.or_eq_true, decide_eq_true_iff, decide_eq_true_iff] at h
  rw [decide_eq_true_iff]; omega
theorem dl_blank {c : UInt8} (h : dl c = true) : (c != 32) = true := by
  rw [bne_iff_ne]; rintro rfl; revert h; decide
theorem form_dl {s : List UInt8} (h : form s = true) : s.all dl = true := by
  obtain ⟨c, d, b, rfl, _, _, hc, hd, hb⟩ := form_parts h
  rw [List.all_append, List.all_append, all_mono (fun _ => cap_dl) (country_iff.1 hc).2, all_mono (fun _ => dig_dl) hd, (body_iff.1 hb).2.2]; rfl
theorem norm_dl : ∀ {s : List UInt8}, s.all dl = true → norm s = s
  | [], _ => rfl
  | c :: s, h => by
    rw [List.all_cons, Bool.and_eq_true] at h
    have ih := norm_dl h.2
    unfold norm at ih ⊢
    rw [List.filter_cons_of_pos (p := fun c => c != 32) (dl_blank h.1), List.map_cons, up_dl h.1, ih]
theorem norm_append (s t : List UInt8) : norm (s ++ t) = norm s ++ norm t := by unfold norm; rw [List.filter_append, List.map_append]
theorem norm_blanks : ∀ n, norm (List.replicate n 32) = []
  | 0 => rfl
  | n + 1 => by
    have := norm_blanks n
    unfold norm at this ⊢
    rw [List.replicate_succ, List.filter_cons_of_neg (by decide), this]
theorem norm_one {c : UInt8} (h : dl c = true) : norm [c] = [c] := norm_dl (by rw [List.all_cons, h]; rfl)
theorem norm_low {c : UInt8} (h : cap c = true) : norm [c + 32] = [c] := by
  have h2 := h
  unfold cap at h2
  have hb := of_decide_eq_true h2
  have e : (c + 32).toNat = c.toNat + 32 := by
    rw [UInt8.toNat_add]; show (c.toNat + 32) % 256 = _; omega
  have hs : small (c + 32) = true := by unfold small; rw [decide_eq_true_iff, e]; omega
  have hn : (c + 32 != 32) = true := by
    rw [bne_iff_ne]; intro h3; have := congrArg UInt8.toNat h3; rw [e] at this; have h32 : (32 : UInt8).toNat = 32 := rfl; omega
  unfold norm
  rw [List.filter_cons_of_pos (p := fun c => c != 32) hn]
  show [up (c + 32)] = [c]
  congr 1
  apply UInt8.toNat_inj.1
  rw [up_toNat, hs, if_pos rfl, e]; omega

/-! ### Slips -/
theorem val_cls_dig {c d : UInt8} (hc : dig c = true) (hd : dig d = true) : C.cls c = C.cls d := by
  unfold dig at hc hd
  unfold C.cls
  rw [if_pos (of_decide_eq_true hc), if_pos (of_decide_eq_true hd)]
theorem dig_val {c : UInt8} (hc : dig c = true) : C.val c = some (c.toNat - 48) := by
  unfold dig at hc; unfold C.val; rw [if_pos (of_decide_eq_true hc)]
/-- A character's weight in the number that stands for a text. -/
def wt (c : UInt8) : Nat := if dig c then 1 else 2
def wts : List UInt8 → Nat
  | [] => 0
  | c :: s => wt c + wts s
theorem wts_le : ∀ s : List UInt8, wts s ≤ 2 * s.length
  | [] => by decide
  | c :: s => by
    have := wts_le s
    rw [wts, List.length_cons]
    unfold wt
    split <;> omega
theorem mod_mul_add (a b c : Nat) : (a % 97 * b + c) % 97 = (a * b + c) % 97 := by
  rw [Nat.add_mod, Nat.mul_mod, Nat.mod_mod, ← Nat.mul_mod, ← Nat.add_mod]
theorem put_wt {c : UInt8} {v : Nat} (h : C.val c = some v) (r : Nat) : C.put r v = (r * 10 ^ wt c + v) % 97 := by
  unfold C.val at h
  unfold C.put wt dig
  split at h
  · rename_i q
    injection h with h
    rw [if_neg (by omega), if_pos (decide_eq_true q), Nat.pow_one]
  · rename_i q
    split at h
    · injection h with h
      rw [if_pos (by omega), if_neg (by rw [decide_eq_true_iff]; exact q)]
    · cases h
theorem restG_lin : ∀ (s : List UInt8) (r q q0 : Nat), C.restG r s = some q → C.restG 0 s = some q0 → q % 97 = (r * 10 ^ wts s + q0) % 97
  | [], r, q, q0, h, h0 => by
    injection h with h; injection h0 with h0
    subst h; subst h0
    rw [wts, Nat.pow_zero, Nat.mul_one, Nat.add_zero]
  | c :: s, r, q, q0, h, h0 => by
    rw [C.restG] at h h0
    cases hv : C.val c with
    | none => rw [hv] at h; cases h
    | some v =>
      rw [hv] at h h0
      obtain ⟨p, hp⟩ := C.restG_some (s := s) (by have := C.restG_good s (C.put r v); rw [← this]; show (C.restG (C.put r v) s).isSome = true; have h' : C.restG (C.put r v) s = some q := h; rw [h']; rfl) 0
      have e1 := restG_lin s _ _ _ h hp
      have e2 := restG_lin s _ _ _ h0 hp
      rw [put_wt hv, mod_mul_add] at e1 e2
      rw [Nat.zero_mul, Nat.zero_add] at e2
      rw [e1, wts, Nat.pow_add, Nat.add_mul, Nat.mul_assoc]
      generalize r * (10 ^ wt c * 10 ^ wts s) = X
      generalize v * 10 ^ wts s = Y at e2 ⊢
      omega
theorem ends_all : ∀ d < 10, ∀ c < 10, ∀ w < 97, d = c ∨ 10 * w % 97 = 1 ∨ (10 * (d * w) + c) % 97 ≠ (10 * (c * w) + d) % 97 := by decide +kernel
theorem ends_key (d : Nat) (hd : d < 10) (c : Nat) (hc : c < 10) (w : Nat) (hw : w < 97) (h1 : d ≠ c) (h2 : 10 * w % 97 ≠ 1) : (10 * (d * w) + c) % 97 ≠ (10 * (c * w) + d) % 97 := by
  rcases ends_all d hd c hc w hw with h | h | h
  · exact absurd h h1
  · exact absurd h h2
  · exact h
theorem pow_key : ∀ k < 95, 10 ^ (k + 1) % 97 ≠ 1 := by decide +kernel
/-- The first and the last digit exchanged. -/
theorem fits_ends {c d : UInt8} {m : List UInt8} (hm : m.length ≤ 40) (hc : dig c = true) (hd : dig d = true) (hne : c ≠ d) (h : C.fits (d :: (m ++ [c])) = true) : C.fits (c :: (m ++ [d])) = false := by
  cases h2 : C.fits (c :: (m ++ [d])) with
  | false => rfl
  | true =>
    exfalso
    obtain ⟨_, hg, h1⟩ := C.rest_good (C.fits_rest h)
    obtain ⟨_, _, h3⟩ := C.rest_good (C.fits_rest h2)
    have hgm : C.good m = true := by
      have : C.good (d :: (m ++ [c])) = (C.good [d] && (C.good m && C.good [c])) := by rw [← C.good_append, ← C.good_append]; rfl
      rw [this, Bool.and_eq_true, Bool.and_eq_true] at hg
      exact hg.2.1
    obtain ⟨Q, hQ⟩ := C.restG_some hgm 0
    have hdb : d.toNat - 48 < 10 := by unfold dig at hd; have := of_decide_eq_true hd; omega
    have hcb : c.toNat - 48 < 10 := by unfold dig at hc; have := of_decide_eq_true hc; omega
    have hdc : d.toNat - 48 ≠ c.toNat - 48 := by
      intro e
      unfold dig at hc hd
      have := of_decide_eq_true hc
      have := of_decide_eq_true hd
      exact hne (UInt8.toNat_inj.1 (by omega))
    have put0 : ∀ v < 10, C.put 0 v = v := fun v hv => by unfold C.put; rw [if_neg (by omega)]; omega
    rw [C.restG, dig_val hd] at h1
    rw [C.restG, dig_val hc] at h3
    simp only [put0 _ hdb] at h1
    simp only [put0 _ hcb] at h3
    rw [C.restG_append] at h1 h3
    obtain ⟨x, hx⟩ := C.restG_some hgm (d.toNat - 48)
    obtain ⟨y, hy⟩ := C.restG_some hgm (c.toNat - 48)
    rw [hx] at h1; rw [hy] at h3
    simp only [Option.bind_some, C.restG, dig_val hc, dig_val hd] at h1 h3
    have l1 := restG_lin m _ _ _ hx hQ
    have l2 := restG_lin m _ _ _ hy hQ
    have p1 : C.put x (c.toNat - 48) = (x * 10 + (c.toNat - 48)) % 97 := by unfold C.put; rw [if_neg (by omega)]
    have p2 : C.put y (d.toNat - 48) = (y * 10 + (d.toNat - 48)) % 97 := by unfold C.put; rw [if_neg (by omega)]
    rw [p1] at h1; rw [p2] at h3
    injection h1 with h1; injection h3 with h3
    have hw := pow_key (wts m) (by have := wts_le m; omega)
    rw [Nat.pow_succ] at hw
    generalize 10 ^ wts m = W at hw l1 l2
    generalize d.toNat - 48 = D at *
    generalize c.toNat - 48 = E at *
    have key := ends_key D hdb E hcb (W % 97) (Nat.mod_lt _ (by decide)) hdc (by omega)
    have a1 : (10 * (D * (W % 97)) + E) % 97 = (10 * (D * W) + E) % 97 := by
      have : D * (W % 97) % 97 = D * W % 97 := by rw [Nat.mul_mod, Nat.mod_mod, ← Nat.mul_mod]
      omega
    have a2 : (10 * (E * (W % 97)) + D) % 97 = (10 * (E * W) + D) % 97 := by
      have : E * (W % 97) % 97 = E * W % 97 := by rw [Nat.mul_mod, Nat.mod_mod, ← Nat.mul_mod]
      omega
    rw [a1, a2] at key
    generalize D * W = DW at *
    generalize E * W = EW at *
    omega

def rot (s : List UInt8) : List UInt8 := s.drop 4 ++ s.take 4
theorem chk_zero {s : List UInt8} : chk s = 0 ↔ form s = true ∧ C.fits (rot s) = true := by
  unfold chk rot
  by_cases hf : form s = true
  · rw [if_pos hf]
    by_cases h2 : C.fits (s.drop 4 ++ s.take 4) = true
    · rw [if_pos h2]; exact ⟨fun _ => ⟨hf, h2⟩, fun _ => rfl⟩
    · rw [if_neg h2]; exact ⟨fun h => (by cases h), fun h => absurd h.2 h2⟩
  · rw [if_neg hf]; exact ⟨fun h => (by cases h), fun h => absurd h.1 hf⟩
theorem form_len {s : List UInt8} (h : form s = true) : 4 < s.length ∧ s.length ≤ 34 := by
  obtain ⟨c, d, b, rfl, hc, hd, _, _, hb⟩ := form_parts h
  obtain ⟨h1, h2, _⟩ := body_iff.1 hb
  simp; omega
theorem rot_far {a1 a2 x : List UInt8} (h : a1.length = 4) : rot (a1 ++ a2 ++ x) = a2 ++ x ++ a1 := by
  unfold rot
  rw [List.append_assoc, ← h, List.drop_left, List.take_left]
theorem rot_near {y r : List UInt8} (h : y.length = 4) : rot (y ++ r) = r ++ y := by
  unfold rot
  rw [← h, List.drop_left, List.take_left]
/-- ONE DIGIT. -/
theorem chk_one {a r : List UInt8} {c d : UInt8} (h : chk (a ++ c :: r) = 0) (hc : dig c = true) (hd : dig d = true) (hne : c ≠ d) : chk (a ++ d :: r) ≠ 0 := by
  intro h2
  obtain ⟨hf, h1⟩ := chk_zero.1 h
  obtain ⟨_, h3⟩ := chk_zero.1 h2
  have hl := form_len hf
  have hk := val_cls_dig hc hd
  rcases Nat.lt_or_ge a.length 4 with h4 | h4
  · obtain ⟨r1, r2, rfl, hr⟩ : ∃ r1 r2, r = r1 ++ r2 ∧ a.length + 1 + r1.length = 4 :=
      ⟨r.take (3 - a.length), r.drop (3 - a.length), (List.take_append_drop _ _).symm, by simp at hl ⊢; omega⟩
    have e1 : a ++ c :: (r1 ++ r2) = (a ++ c :: r1) ++ r2 := by simp
    have e2 : a ++ d :: (r1 ++ r2) = (a ++ d :: r1) ++ r2 := by simp
    rw [e1, rot_near (by simp; omega), ← List.append_assoc] at h1
    rw [e2, rot_near (by simp; omega), ← List.append_assoc] at h3
    rw [C.fits_one h1 hne hk] at h3
    cases h3
  · obtain ⟨a1, a2, rfl, ha⟩ : ∃ a1 a2, a = a1 ++ a2 ∧ a1.length = 4 := ⟨a.take 4, a.drop 4, (List.take_append_drop _ _).symm, by simp; omega⟩
    rw [rot_far ha, List.append_assoc, List.cons_append] at h1 h3
    rw [C.fits_one h1 hne hk] at h3
    cases h3
/-- TWO NEIGHBOURS. -/
theorem chk_swap {a r : List UInt8} {c d : UInt8} (h : chk (a ++ c :: d :: r) = 0) (hc : dig c = true) (hd : dig d = true) (hne : c ≠ d) : chk (a ++ d :: c :: r) ≠ 0 := by
  intro h2
  obtain ⟨hf, h1⟩ := chk_zero.1 h
  obtain ⟨_, h3⟩ := chk_zero.1 h2
  have hl := form_len hf
  have hk := val_cls_dig hc hd
  rcases Nat.lt_or_ge a.length 4 with h4 | h4
  · by_cases h5 : a.length = 3
    · have e1 : a ++ c :: d :: r = (a ++ [c]) ++ d :: r := by simp
      have e2 : a ++ d :: c :: r = (a ++ [d]) ++ c :: r := by simp
      rw [e1, rot_near (by simp; omega), List.cons_append, ← List.append_assoc] at h1
      rw [e2, rot_near (by simp; omega), List.cons_append, ← List.append_assoc] at h3
      rw [fits_ends (by simp at hl ⊢; omega) hc hd hne h1] at h3
      cases h3
    · obtain ⟨r1, r2, rfl, hr⟩ : ∃ r1 r2, r = r1 ++ r2 ∧ a.length + 2 + r1.length = 4 :=
        ⟨r.take (2 - a.length), r.drop (2 - a.length), (List.take_append_drop _ _).symm, by simp at hl ⊢; omega⟩
      have e1 : a ++ c :: d :: (r1 ++ r2) = (a ++ c :: d :: r1) ++ r2 := by simp
      have e2 : a ++ d :: c :: (r1 ++ r2) = (a ++ d :: c :: r1) ++ r2 := by simp
      rw [e1, rot_near (by simp; omega), ← List.append_assoc] at h1
      rw [e2, rot_near (by simp; omega), ← List.append_assoc] at h3
      rw [C.fits_swap h1 hne hk] at h3
      cases h3
  · obtain ⟨a1, a2, rfl, ha⟩ : ∃ a1 a2, a = a1 ++ a2 ∧ a1.length = 4 := ⟨a.take 4, a.drop 4, (List.take_append_drop _ _).symm, by simp; omega⟩
    rw [rot_far ha, List.append_assoc, List.cons_append, List.cons_append] at h1 h3
    rw [C.fits_swap h1 hne hk] at h3
    cases h3
end Go.Proofs.YtalopcbjcgbdfaaDoor.I
