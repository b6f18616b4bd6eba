/-
  Layer 12, plain, for the document's own answer: a key's place found by halving; ops gone over from the last one; rows moved up for one more.
-/
import Derived.Test.YtffjleceogablaaDoorBSpec
namespace Go.Proofs.YtffjleceogablaaDoor.Tb
set_option maxRecDepth 100000

theorem place_is : ∀ {l : List R} {k : Txt} {p : Nat}, p ≤ l.length → (∀ (j : Nat) (r : R), j < p → l[j]? = some r → lt r.1 k = true) → (∀ r, l[p]? = some r → lt r.1 k = false) → place l k = p
  | [], _, p, h, _, _ => by have : p = 0 := by simpa using h
                            subst this; rfl
  | r :: l, k, 0, _, _, h0 => by rw [place, if_neg (by rw [h0 r rfl]; decide)]
  | r :: l, k, p + 1, hp, h1, h0 => by
    rw [place, if_pos (h1 0 r (by omega) rfl), place_is (by simpa using hp) (fun j x hj hx => h1 (j + 1) x (by omega) (by simpa using hx)) (fun x hx => h0 x (by simpa using hx))]
/-- In a sorted list all ahead of a lesser key are less. -/
theorem sorted_below {l : List R} (h : Sorted l) {i j : Nat} {a b : R} (ha : l[i]? = some a) (hb : l[j]? = some b) (hij : i ≤ j) {k : Txt} (hk : lt b.1 k = true) : lt a.1 k = true := by
  obtain ⟨h1, rfl⟩ := List.getElem?_eq_some_iff.1 ha
  obtain ⟨h2, rfl⟩ := List.getElem?_eq_some_iff.1 hb
  rcases Nat.lt_or_ge i j with e | e
  · exact lt_trans (List.pairwise_iff_getElem.1 h i j h1 h2 e) hk
  · obtain rfl : i = j := by omega
    exact hk
theorem sorted_above {l : List R} (h : Sorted l) {i j : Nat} {a b : R} (ha : l[i]? = some a) (hb : l[j]? = some b) (hij : i ≤ j) {k : Txt} (hk : lt a.1 k = false) : lt b.1 k = false := by
  cases e : lt b.1 k with
  | false => rfl
  | true => rw [sorted_below h ha hb hij e] at hk; cases hk
theorem has_iff {l : List R} {k : Txt} : has l k = true ↔ ∃ r ∈ l, r.1 = k := by simp [has]
theorem has_get {l : List R} {k : Txt} : has l k = (get l k).isSome := by
  rw [Bool.eq_iff_iff, has_iff, Option.isSome_iff_ne_none, Ne, get_none]
  constructor
  · rintro ⟨r, hr, he⟩ h
    exact h r hr he
  · intro h
    exact Classical.byContradiction fun hn => h fun r hr he => hn ⟨r, hr, he⟩
/-- A key is there just where its place has it. -/
theorem has_place {l : List R} (h : Sorted l) (k : Txt) : has l k = (l[place l k]?.elim false (fun r => r.1 == k)) := by
  cases e : l[place l k]? with
  | some r =>
    show has l k = (r.1 == k)
    rw [Bool.eq_iff_iff, has_iff, beq_iff_eq]
    constructor
    · rintro ⟨x, hx, he⟩
      obtain ⟨i, hi⟩ := List.mem_iff_getElem?.1 hx
      have hp := place_at e
      rcases Nat.lt_or_ge i (place l k) with hlt | hge
      · obtain ⟨y, hy, hyk⟩ := place_lt hlt
        rw [hi] at hy
        rw [← Option.some.inj hy, he, lt_irrefl] at hyk
        cases hyk
      · refine lt_total hp ?_
        cases e2 : lt k r.1 with
        | false => rfl
        | true =>
          rcases Nat.lt_or_ge (place l k) i with h3 | h3
          · obtain ⟨h4, h5⟩ := List.getElem?_eq_some_iff.1 e
            obtain ⟨h6, h7⟩ := List.getElem?_eq_some_iff.1 hi
            have h8 := List.pairwise_iff_getElem.1 h _ _ h4 h6 h3
            rw [h5, h7, he] at h8
            rw [h8] at hp
            cases hp
          · obtain rfl : i = place l k := by omega
            rw [e] at hi
            rw [Option.some.inj hi, he, lt_irrefl] at e2
            cases e2
    · intro he
      exact ⟨r, List.mem_of_getElem? e, he⟩
  | none =>
    show has l k = false
    rw [Bool.eq_false_iff, Ne, has_iff]
    rintro ⟨x, hx, he⟩
    obtain ⟨i, hi⟩ := List.mem_iff_getElem?.1 hx
    have h1 := (List.getElem?_eq_some_iff.1 hi).1
    have h2 := List.getElem?_eq_none_iff.1 e
    obtain ⟨y, hy, hyk⟩ := place_lt (l := l) (k := k) (i := i) (by omega)
    rw [hi] at hy
    rw [← Option.some.inj hy, he, lt_irrefl] at hyk
    cases hyk
theorem has_cons (r : R) (l : List R) (k : Txt) : has (r :: l) k = (r.1 == k || has l k) := rfl
theorem sorted_gone {r : R} {l : List R} (h : Sorted (r :: l)) : ∀ x ∈ l, x.1 ≠ r.1 := fun x hx e => lt_ne ((List.pairwise_cons.1 h).1 x hx) e.symm
theorem place_zero {r : R} {l : List R} (h : Sorted (r :: l)) : place l r.1 = 0 := by
  cases l with
  | nil => rfl
  | cons a l =>
    have := lt_asymm ((List.pairwise_cons.1 h).1 a (by simp))
    rw [place, if_neg (by rw [this]; decide)]
theorem del_yes : ∀ {l : List R} {k : Txt}, Sorted l → has l k = true → del l k = l.take (place l k) ++ l.drop (place l k + 1)
  | [], k, _, h => by cases h
  | r :: l, k, hs, h => by
    have h2 := (List.pairwise_cons.1 hs).2
    rw [has_cons, Bool.or_eq_true] at h
    rw [place]
    by_cases hr : r.1 = k
    · subst hr
      rw [if_neg (by rw [lt_irrefl]; decide)]
      have e : del (r :: l) r.1 = del l r.1 := by simp [del]
      rw [e, del_none (sorted_gone hs)]
      rfl
    · have hh : has l k = true := h.resolve_left (by simpa using hr)
      obtain ⟨x, hx, hxk⟩ := has_iff.1 hh
      have hlt := (List.pairwise_cons.1 hs).1 x hx
      rw [hxk] at hlt
      have e : del (r :: l) k = r :: del l k := by simp [del, hr]
      rw [if_pos hlt, e, del_yes h2 hh]
      rfl
theorem del_no {l : List R} {k : Txt} (h : has l k = false) : del l k = l := del_none fun x hx e => by
  rw [has_iff.2 ⟨x, hx, e⟩] at h
  cases h
theorem put_no {l : List R} {k v : Txt} (h : has l k = false) : put l k v = l.take (place l k) ++ (k, v) :: l.drop (place l k) := by
  unfold put
  rw [del_no h]
  rfl
theorem put_yes : ∀ {l : List R} {k v : Txt}, Sorted l → has l k = true → put l k v = l.set (place l k) (k, v)
  | [], k, _, _, h => by cases h
  | r :: l, k, v, hs, h => by
    have h2 := (List.pairwise_cons.1 hs).2
    rw [has_cons, Bool.or_eq_true] at h
    rw [place]
    by_cases hr : r.1 = k
    · subst hr
      rw [if_neg (by rw [lt_irrefl]; decide)]
      have e : del (r :: l) r.1 = del l r.1 := by simp [del]
      unfold put
      rw [e, del_none (sorted_gone hs)]
      unfold ins
      rw [place_zero hs]
      rfl
    · have hh : has l k = true := h.resolve_left (by simpa using hr)
      obtain ⟨x, hx, hxk⟩ := has_iff.1 hh
      have hlt := (List.pairwise_cons.1 hs).1 x hx
      rw [hxk] at hlt
      have e : del (r :: l) k = r :: del l k := by simp [del, hr]
      have ih := put_yes (v := v) h2 hh
      unfold put at ih ⊢
      rw [e, ins_cons, if_pos hlt, ih, if_pos hlt]
      rfl
theorem place_lt_of_has {l : List R} (h : Sorted l) {k : Txt} (hh : has l k = true) : ∃ r, l[place l k]? = some r ∧ r.1 = k := by
  rw [has_place h] at hh
  cases e : l[place l k]? with
  | none => rw [e] at hh; cases hh
  | some r =>
    rw [e] at hh
    exact ⟨r, rfl, by simpa using hh⟩
/-- One more ahead of a list. -/
theorem ofL_cons (r : R) (l : List R) : ofL (r :: l) = if has (ofL l) r.1 then ofL l else ins (ofL l) r := by
  have e : ∀ k, get (ofL (r :: l)) k = (get (ofL l) k).or (if r.1 = k then some r.2 else none) := fun k => by
    rw [get_ofL, get_ofL, show r :: l = [r] ++ l from rfl, lastOf_append]
    congr 1
    unfold lastOf get
    by_cases h : r.1 = k
    · simp [h]
    · simp [h]
  cases h : has (ofL l) r.1 with
  | true =>
    rw [if_pos rfl]
    refine get_ext (ofL_sorted _) (ofL_sorted _) fun k => ?_
    rw [e]
    by_cases hk : r.1 = k
    · subst hk
      rw [has_get] at h
      obtain ⟨v, hv⟩ := Option.isSome_iff_exists.1 h
      rw [hv]
      rfl
    · rw [if_neg hk, Option.or_none]
  | false =>
    rw [if_neg (by decide)]
    have hn : ∀ x ∈ ofL l, x.1 ≠ r.1 := fun x hx he => by rw [has_iff.2 ⟨x, hx, he⟩] at h; cases h
    have hp : ins (ofL l) r = put (ofL l) r.1 r.2 := by unfold put; rw [del_none hn]
    rw [hp]
    refine get_ext (ofL_sorted _) (put_sorted (ofL_sorted _) _ _) fun k => ?_
    rw [e]
    by_cases hk : r.1 = k
    · subst hk
      rw [get_put_same (ofL_sorted _), get_none.2 hn, if_pos rfl]
      rfl
    · rw [if_neg hk, Option.or_none, get_put_other (ofL_sorted _) (fun e => hk e.symm)]
end Go.Proofs.YtffjleceogablaaDoor.Tb

namespace Go.Proofs.YtffjleceogablaaDoor.Bt
open Go.Proofs.YtffjleceogablaaDoor.Tb
set_option maxRecDepth 100000

/-- The keys of ops, as rows without values. -/
def keysR (ops : List O) : List R := ops.map fun o => (o.key, [])
theorem keysR_length (ops : List O) : (keysR ops).length = ops.length := by simp [keysR]
theorem keysR_sorted {ops : List O} (h : Norm ops) : Sorted (keysR ops) := by
  have h1 := h.rise
  unfold Sorted codes at h1
  unfold Sorted keysR
  rw [List.pairwise_map] at h1 ⊢
  exact h1
theorem keysR_has (ops : List O) (k : Txt) : has (keysR ops) k = has (codes ops) k := by
  unfold has keysR codes
  rw [List.any_map, List.any_map]
  rfl
theorem place_keys : ∀ (ops : List O) (k : Txt), place (keysR ops) k = place (codes ops) k
  | [], _ => rfl
  | o :: ops, k => by
    have ih := place_keys ops k
    show place ((o.key, []) :: keysR ops) k = place (code o :: codes ops) k
    rw [place, place, ih]
    rfl
/-- The ops gone over from the last one to the first. -/
theorem normal_cons (o : O) (ops : List O) : normal (o :: ops) = if has (keysR (normal ops)) o.key then normal ops else (normal ops).take (place (keysR (normal ops)) o.key) ++ clean o :: (normal ops).drop (place (keysR (normal ops)) o.key) := by
  rw [keysR_has, place_keys, codes_normal]
  have e : codes (o :: ops) = code o :: codes ops := rfl
  unfold normal
  rw [e, ofL_cons]
  have hk : (code o).1 = o.key := rfl
  rw [hk]
  cases has (ofL (codes ops)) o.key with
  | true => rfl
  | false =>
    rw [if_neg (by decide), if_neg (by decide)]
    unfold ins
    rw [List.map_append, List.map_take, List.map_cons, List.map_drop, dec_code, hk]

/-! ### Moved up for one more -/
section
variable {α : Type}
def shiftL (xs : List α) (z : α) (k : Nat) : List α := (xs ++ [z]).take (k + 1) ++ xs.drop k
theorem shift_start (xs : List α) (z : α) : shiftL xs z xs.length = xs ++ [z] := by
  unfold shiftL
  rw [List.drop_length, List.append_nil, List.take_of_length_le (by simp)]
theorem shift_length {xs : List α} {z : α} {k : Nat} (h : k ≤ xs.length) : (shiftL xs z k).length = xs.length + 1 := by
  simp [shiftL]
  omega
theorem shift_get {xs : List α} {z : α} {k : Nat} (h : k < xs.length) : (shiftL xs z (k + 1))[k]? = xs[k]? := by
  unfold shiftL
  rw [List.getElem?_append_left (by simp; omega), List.getElem?_take_of_lt (by omega), List.getElem?_append_left h]
theorem shift_set {xs : List α} {z : α} {k : Nat} (h : k ≤ xs.length) (r : α) : (shiftL xs z k).set k r = xs.take k ++ r :: xs.drop k := by
  unfold shiftL
  have hl : k < (xs ++ [z]).length := by simp; omega
  rw [List.take_succ_eq_append_getElem hl, List.append_assoc, List.take_append_of_le_length h]
  have e : k = (xs.take k).length := by rw [List.length_take]; omega
  conv => lhs; arg 2; rw [e]
  rw [List.set_append_right _ _ (Nat.le_refl _), Nat.sub_self]
  rfl
theorem shift_step {xs : List α} {z : α} {k : Nat} (h : k < xs.length) : (shiftL xs z (k + 1)).set (k + 1) xs[k] = shiftL xs z k := by
  rw [shift_set (by omega), List.take_succ_eq_append_getElem h, List.append_assoc]
  unfold shiftL
  have hl : k < (xs ++ [z]).length := by simp; omega
  rw [List.take_succ_eq_append_getElem hl, List.append_assoc, List.take_append_of_le_length (by omega), List.getElem_append_left h, List.drop_eq_getElem_cons h]
theorem shift_at {xs : List α} {z : α} {k : Nat} (h : k ≤ xs.length) : ∃ y, (shiftL xs z k)[k]? = some y := by
  have : k < (shiftL xs z k).length := by rw [shift_length h]; omega
  exact ⟨_, List.getElem?_eq_getElem this⟩
end
end Go.Proofs.YtffjleceogablaaDoor.Bt
