/-
  Plain facts on the reading of texts and of lists of texts: what was written is read, cut anywhere it is too short.
-/
import Derived.Test.YtffjleceogablaaDoorSpec
namespace Go.Proofs.YtffjleceogablaaDoor
set_option maxRecDepth 100000

theorem vd_err : ∀ (l : List UInt8) (i acc e : Nat), vd i acc l = .inl e → e = 1 ∨ e = 2
  | [], i, acc, e, h => by simp [vd] at h; omega
  | b :: r, i, acc, e, h => by
    rw [vd] at h
    split at h
    · injection h; omega
    · split at h
      · exact vd_err r _ _ e h
      · split at h
        · injection h; omega
        · cases h

/-- THE READING OF A TEXT of at most 'most' bytes. -/
def textD (most : Int) (l : List UInt8) : Nat ⊕ (List UInt8 × Nat) :=
  match varintD l with
  | .inl e => .inl e
  | .inr (x, n) => if most < (x : Int) then .inl 3 else if l.length - n < x then .inl 1 else .inr ((l.drop n).take x, n + x)

def eachD (most : Int) : Nat → List UInt8 → Nat ⊕ (List (List UInt8) × Nat)
  | 0, _ => .inr ([], 0)
  | k + 1, l => match textD most l with
    | .inl e => .inl e
    | .inr (v, n) => match eachD most k (l.drop n) with
      | .inl e => .inl e
      | .inr (vs, m) => .inr (v :: vs, n + m)

def textsD (count most : Int) (l : List UInt8) : Nat ⊕ (List (List UInt8) × Nat) :=
  match varintD l with
  | .inl e => .inl e
  | .inr (x, n) => if count < (x : Int) then .inl 3 else match eachD most x (l.drop n) with
    | .inl e => .inl e
    | .inr (vs, m) => .inr (vs, n + m)

theorem textD_err {most : Int} {l : List UInt8} {e : Nat} (h : textD most l = .inl e) : 1 ≤ e ∧ e ≤ 3 := by
  unfold textD at h
  split at h
  · rename_i hd; injection h with h; have := vd_err _ _ _ _ hd; omega
  · split at h
    · injection h; omega
    · split at h
      · injection h; omega
      · cases h

theorem eachD_err {most : Int} : ∀ {k : Nat} {l : List UInt8} {e : Nat}, eachD most k l = .inl e → 1 ≤ e ∧ e ≤ 3
  | 0, l, e, h => by simp [eachD] at h
  | k + 1, l, e, h => by
    rw [eachD] at h
    split at h
    · rename_i hd; injection h with h; subst h; exact textD_err hd
    · split at h
      · rename_i hd; injection h with h; subst h; exact eachD_err hd
      · cases h

theorem textsD_err {count most : Int} {l : List UInt8} {e : Nat} (h : textsD count most l = .inl e) : 1 ≤ e ∧ e ≤ 3 := by
  unfold textsD at h
  split at h
  · rename_i hd; injection h with h; have := vd_err _ _ _ _ hd; omega
  · split at h
    · injection h; omega
    · split at h
      · rename_i hd; injection h with h; subst h; exact eachD_err hd
      · cases h

theorem take_app {α : Type} (l m : List α) (c : Nat) : (l ++ m).take c = if c < l.length then l.take c else l ++ m.take (c - l.length) := by
  split
  · rename_i h; rw [List.take_append_of_le_length (by omega)]
  · rename_i h; rw [List.take_append, List.take_of_length_le (by omega)]

theorem textD_enc {most : Int} {s t : List UInt8} (h64 : s.length < 18446744073709551616) (hm : (s.length : Int) ≤ most) : textD most (textB s ++ t) = .inr (s, (textB s).length) := by
  unfold textD textB
  rw [List.append_assoc, varintD_uvarint h64]
  simp only
  rw [if_neg (by omega), if_neg (by simp)]
  simp

theorem textD_cut {most : Int} {s : List UInt8} {c : Nat} (h64 : s.length < 18446744073709551616) (hm : (s.length : Int) ≤ most) (hc : c < (textB s).length) : textD most ((textB s).take c) = .inl 1 := by
  unfold textB at hc ⊢
  rw [List.length_append] at hc
  rw [take_app]
  by_cases h : c < (Lib.uvarint s.length).length
  · rw [if_pos h]; unfold textD; rw [varintD_cut h64 h]
  · rw [if_neg h]
    unfold textD
    rw [varintD_uvarint h64]
    simp only
    rw [if_neg (by omega), if_pos (by simp; omega)]

theorem textD_inv {most : Int} {l v : List UInt8} {n : Nat} (h : textD most l = .inr (v, n)) : n = (textB v).length ∧ ∃ t, l = textB v ++ t := by
  unfold textD at h
  split at h
  · cases h
  · rename_i x m hd
    split at h
    · cases h
    · split at h
      · cases h
      · rename_i hx
        simp only [Sum.inr.injEq, Prod.mk.injEq] at h
        obtain ⟨rfl, rfl⟩ := h
        obtain ⟨_, rfl, t, rfl⟩ := varintD_inv hd
        rw [List.drop_left]
        rw [List.length_append] at hx
        have hl : (t.take x).length = x := by rw [List.length_take]; omega
        refine ⟨by unfold textB; rw [List.length_append, hl], t.drop x, ?_⟩
        unfold textB
        rw [hl, List.append_assoc, List.take_append_drop]
end Go.Proofs.YtffjleceogablaaDoor
