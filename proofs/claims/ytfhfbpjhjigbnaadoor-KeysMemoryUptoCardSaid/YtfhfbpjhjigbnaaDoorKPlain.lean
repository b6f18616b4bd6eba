/-
  Layer 2, plain: what the library's calls make of texts with zeros; the reference's reading; Go's order of texts.
-/
import Derived.Test.YtfhfbpjhjigbnaaDoorKSpec
import Derived.Lib.Replace
import Derived.Lib.ReplaceLaws
import Derived.Lib.Strings
namespace Go.Proofs.YtfhfbpjhjigbnaaDoor.K

theorem cmpB_eq : ∀ a b, cmpB a b = Lib.compareBytes a b
  | [], [] => rfl
  | [], _ :: _ => rfl
  | _ :: _, [] => rfl
  | a :: x, b :: y => by rw [cmpB, Lib.compareBytes, cmpB_eq x y]

/-! ### Zeros -/
theorem zero_split : ∀ l : List UInt8, (∀ c ∈ l, c ≠ 0) ∨ ∃ p q, l = p ++ 0 :: q ∧ ∀ c ∈ p, c ≠ 0
  | [] => .inl (by simp)
  | c :: l => by
    by_cases e : c = 0
    · exact .inr ⟨[], l, by rw [e]; rfl, by simp⟩
    · rcases zero_split l with h | ⟨p, q, rfl, h⟩
      · exact .inl (fun x hx => by rcases List.mem_cons.1 hx with rfl | hx; exact e; exact h x hx)
      · exact .inr ⟨c :: p, q, rfl, fun x hx => by rcases List.mem_cons.1 hx with rfl | hx; exact e; exact h x hx⟩

theorem index_step {c : UInt8} {l sub : List UInt8} (h : sub.isPrefixOf (c :: l) = false) : Lib.index (c :: l) sub = if Lib.index l sub == -1 then -1 else Lib.index l sub + 1 := by
  rw [Lib.index, h]; simp

theorem index_no (sub : List UInt8) (h0 : sub.head? = some 0) : ∀ {l : List UInt8}, (∀ c ∈ l, c ≠ 0) → Lib.index l sub = -1
  | [], _ => by cases sub with
    | nil => simp at h0
    | cons a t => rfl
  | c :: l, h => by
    have hp : sub.isPrefixOf (c :: l) = false := by
      cases sub with
      | nil => simp at h0
      | cons a t =>
        simp at h0
        have := h c (by simp)
        simp [List.isPrefixOf, h0, Ne.symm this]
    rw [index_step hp, index_no sub h0 (fun x hx => h x (by simp [hx]))]
    rfl

theorem index_at (sub q : List UInt8) (h0 : sub.head? = some 0) (hq : sub.isPrefixOf (0 :: q) = true) : ∀ {p : List UInt8}, (∀ c ∈ p, c ≠ 0) → Lib.index (p ++ 0 :: q) sub = (p.length : Nat)
  | [], _ => by rw [List.nil_append, Lib.index, hq]; rfl
  | c :: p, h => by
    have hp : sub.isPrefixOf (c :: (p ++ 0 :: q)) = false := by
      cases sub with
      | nil => simp at h0
      | cons a t =>
        simp at h0
        have := h c (by simp)
        simp [List.isPrefixOf, h0, Ne.symm this]
    rw [List.cons_append, index_step hp, index_at sub q h0 hq (fun x hx => h x (by simp [hx]))]
    rw [if_neg (by intro e; have := beq_iff_eq.1 e; omega)]
    simp

theorem index0_none {l : List UInt8} (h : ∀ c ∈ l, c ≠ 0) : Lib.index l [0] = -1 := index_no [0] rfl h
theorem index0_at {p : List UInt8} (q : List UInt8) (h : ∀ c ∈ p, c ≠ 0) : Lib.index (p ++ 0 :: q) [0] = (p.length : Nat) := index_at [0] q rfl (by simp [List.isPrefixOf]) h

theorem escB_append : ∀ a b, escB (a ++ b) = escB a ++ escB b
  | [], _ => rfl
  | c :: a, b => by rw [List.cons_append, escB, escB, escB_append a b]; split <;> rfl
theorem escB_plain : ∀ {p : List UInt8}, (∀ c ∈ p, c ≠ 0) → escB p = p
  | [], _ => rfl
  | c :: p, h => by rw [escB, if_neg (h c (by simp)), escB_plain (fun x hx => h x (by simp [hx]))]
theorem escB_zero (q : List UInt8) : escB (0 :: q) = 0 :: 255 :: escB q := by rw [escB, if_pos rfl]
theorem escB_length_le : ∀ s, (escB s).length ≤ 2 * s.length
  | [] => by simp [escB]
  | c :: s => by have := escB_length_le s; rw [escB]; split <;> simp <;> omega
theorem escB_length_ge : ∀ s, s.length ≤ (escB s).length
  | [] => by simp [escB]
  | c :: s => by have := escB_length_ge s; rw [escB]; split <;> simp <;> omega

theorem esc_replaceK : ∀ (n : Nat) (s : List UInt8), s.length ≤ n → Lib.replaceK [0] [0, 255] (Lib.count s [0]) s = escB s := by
  intro n
  induction n with
  | zero =>
    intro s hs
    obtain rfl := List.eq_nil_of_length_eq_zero (Nat.le_zero.1 hs)
    rw [Lib.count_miss (index0_none (by simp))]
    rfl
  | succ n ih =>
    intro s hs
    rcases zero_split s with h | ⟨p, q, rfl, h⟩
    · rw [Lib.count_miss (index0_none h), Lib.replaceK, escB_plain h]
    · have hi := index0_at q h
      have hd : (p ++ 0 :: q).drop (p.length + [(0 : UInt8)].length) = q := by
        rw [show p ++ 0 :: q = (p ++ [0]) ++ q by simp]
        exact List.drop_left' (by simp)
      rw [Lib.count_hit (by simp) hi, hd, Nat.add_comm, Lib.replaceK_hit _ _ _ _ _ hi, hd, ih q (by simp at hs; omega)]
      rw [show (p ++ 0 :: q).take p.length = p from List.take_left' rfl, escB_append, escB_plain h, escB_zero]
      simp
theorem esc_replace (s : List UInt8) : Lib.replaceAll s [0] [0, 255] = escB s := by
  unfold Lib.replaceAll Lib.replace Lib.replaceNum
  rw [if_neg (by decide), if_pos (.inl (by decide))]
  exact esc_replaceK _ s (Nat.le_refl _)

theorem unesc_replaceK : ∀ (n : Nat) (s : List UInt8), s.length ≤ n → Lib.replaceK [0, 255] [0] (Lib.count (escB s) [0, 255]) (escB s) = s := by
  intro n
  induction n with
  | zero =>
    intro s hs
    obtain rfl := List.eq_nil_of_length_eq_zero (Nat.le_zero.1 hs)
    rw [escB, Lib.count_miss rfl]
    rfl
  | succ n ih =>
    intro s hs
    rcases zero_split s with h | ⟨p, q, rfl, h⟩
    · rw [escB_plain h, Lib.count_miss (index_no [0, 255] rfl h), Lib.replaceK]
    · rw [escB_append, escB_plain h, escB_zero]
      have hi := index_at [0, 255] (255 :: escB q) rfl (by simp [List.isPrefixOf]) h
      have hd : (p ++ 0 :: 255 :: escB q).drop (p.length + [(0 : UInt8), 255].length) = escB q := by
        rw [show p ++ 0 :: 255 :: escB q = (p ++ [0, 255]) ++ escB q by simp]
        exact List.drop_left' (by simp)
      rw [Lib.count_hit (by simp) hi, hd, Nat.add_comm, Lib.replaceK_hit _ _ _ _ _ hi, hd, ih q (by simp at hs; omega)]
      rw [show (p ++ 0 :: 255 :: escB q).take p.length = p from List.take_left' rfl]
      simp
theorem unesc_replace (s : List UInt8) : Lib.replaceAll (escB s) [0, 255] [0] = s := by
  unfold Lib.replaceAll Lib.replace Lib.replaceNum
  rw [if_neg (by decide), if_pos (.inl (by decide))]
  exact unesc_replaceK _ s (Nat.le_refl _)

/-! ### Reading a text on -/
theorem unesc_app : ∀ (u r : List UInt8), unesc (escB u ++ r) = (unesc r).map fun x => (u ++ x.1, x.2)
  | [], r => by simp [escB]
  | c :: u, r => by
    rw [escB]
    by_cases e : c = 0
    · rw [if_pos e, List.cons_append, List.cons_append, unesc_zero, unesc_app u r, e, Option.map_map]
      rfl
    · rw [if_neg e, List.cons_append, unesc_ne e, unesc_app u r, Option.map_map]
      rfl
theorem unesc_plain {p : List UInt8} (h : ∀ c ∈ p, c ≠ 0) (r : List UInt8) : unesc (p ++ r) = (unesc r).map fun x => (p ++ x.1, x.2) := by
  have := unesc_app p r
  rwa [escB_plain h] at this
theorem unesc_no {l : List UInt8} (h : ∀ c ∈ l, c ≠ 0) : unesc l = none := by
  have := unesc_plain h []
  simpa [unesc] using this

/-! ### The reference's reading of a text: it stops where the form ends -/
def scanB : List UInt8 → List UInt8
  | [] => []
  | [c] => if c = 0 then [] else [c]
  | c :: d :: r => if c = 0 then (if d = 255 then 0 :: scanB r else []) else c :: scanB (d :: r)
theorem scanB_ne {c : UInt8} (h : c ≠ 0) (r : List UInt8) : scanB (c :: r) = c :: scanB r := by
  cases r with
  | nil => simp [scanB, h]
  | cons d q => rw [scanB, if_neg h]
theorem scanB_zero (r : List UInt8) : scanB (0 :: 255 :: r) = 0 :: scanB r := by rw [scanB, if_pos rfl, if_pos rfl]
theorem scanB_end {d : UInt8} (h : d ≠ 255) (r : List UInt8) : scanB (0 :: d :: r) = [] := by rw [scanB, if_pos rfl, if_neg h]

theorem scanB_esc (r : List UInt8) : ∀ s, scanB (escB s ++ 0 :: 1 :: r) = s
  | [] => scanB_end (by decide) r
  | c :: s => by
    rw [escB]
    by_cases e : c = 0
    · rw [if_pos e, List.cons_append, List.cons_append, scanB_zero, scanB_esc r s, e]
    · rw [if_neg e, List.cons_append, scanB_ne e, scanB_esc r s]

/-- The text's form stands there just if it is what is scanned. -/
theorem unesc_scan (l : List UInt8) : unesc l = if escB (scanB l) ++ [0, 1] <+: l then some (scanB l, l.drop ((escB (scanB l)).length + 2)) else none := by
  by_cases h : escB (scanB l) ++ [0, 1] <+: l
  · rw [if_pos h]
    obtain ⟨r, hr⟩ := h
    have e : l = escB (scanB l) ++ 0 :: 1 :: r := hr.symm.trans (by simp)
    have hd : l.drop ((escB (scanB l)).length + 2) = r := by
      have h2 : (escB (scanB l) ++ [0, 1] ++ r).drop ((escB (scanB l)).length + 2) = r := List.drop_left' (by simp)
      rwa [hr] at h2
    rw [hd]
    conv => lhs; rw [e]
    exact unesc_esc r _
  · rw [if_neg h]
    cases hu : unesc l with
    | none => rfl
    | some x =>
      obtain ⟨s, r⟩ := x
      have e := unesc_inv l.length (Nat.le_refl _) hu
      exfalso
      apply h
      have hs : scanB l = s := by rw [e]; exact scanB_esc r s
      rw [hs]
      exact ⟨r, by rw [e]; simp⟩

/-! ### After, from the end -/
theorem afterB_ff : ∀ (s : List UInt8), afterB (s ++ [255]) = afterB s
  | [] => rfl
  | c :: s => by rw [List.cons_append, afterB, afterB_ff s]; rfl
theorem afterB_last {c : UInt8} (h : c ≠ 255) : ∀ (s : List UInt8), afterB (s ++ [c]) = some (s ++ [c + 1])
  | [] => by simp [afterB, h]
  | d :: s => by rw [List.cons_append, afterB, afterB_last h s]; rfl
theorem afterB_ffs (n : Nat) (s : List UInt8) : afterB (s ++ List.replicate n 255) = afterB s := by
  induction n generalizing s with
  | zero => simp
  | succ n ih => rw [List.replicate_succ, show s ++ 255 :: List.replicate n 255 = (s ++ [255]) ++ List.replicate n 255 by simp, ih, afterB_ff]
end Go.Proofs.YtfhfbpjhjigbnaaDoor.K
