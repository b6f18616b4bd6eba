/-
  Layer 11, plain: rows by rising key: put, taken out, gone over; what is cut anywhere; the last row of each key.
-/
import Derived.Laws.Strings
namespace Go.Proofs.YtffjleceogablaaDoor.Tb
set_option maxRecDepth 100000

/-! ### The order of texts -/
abbrev Txt := List UInt8
abbrev R := Txt × Txt
def lt (a b : Txt) : Bool := Go.Op.bytesLess a b
theorem lt_nil (a : Txt) : lt a [] = false := by cases a <;> rfl
theorem lt_cons (a b : UInt8) (x y : Txt) : lt (a :: x) (b :: y) = (decide (a < b) || (a == b && lt x y)) := rfl
theorem lt_irrefl : ∀ a, lt a a = false
  | [] => rfl
  | a :: x => by rw [lt_cons, lt_irrefl x]; simp [UInt8.lt_irrefl]
theorem lt_trans : ∀ {a b c : Txt}, lt a b = true → lt b c = true → lt a c = true
  | _, [], _, h, _ => by rw [lt_nil] at h; cases h
  | _, _ :: _, [], _, h => by rw [lt_nil] at h; cases h
  | [], _ :: _, _ :: _, _, _ => rfl
  | a :: x, b :: y, c :: z, h1, h2 => by
    rw [lt_cons] at *
    simp only [Bool.or_eq_true, Bool.and_eq_true, decide_eq_true_eq, beq_iff_eq] at *
    rcases h1 with h1 | ⟨rfl, h1⟩
    · rcases h2 with h2 | ⟨rfl, h2⟩
      · exact .inl (UInt8.lt_trans h1 h2)
      · exact .inl h1
    · rcases h2 with h2 | ⟨rfl, h2⟩
      · exact .inl h2
      · exact .inr ⟨rfl, lt_trans h1 h2⟩
theorem lt_total : ∀ {a b : Txt}, lt a b = false → lt b a = false → a = b
  | [], [], _, _ => rfl
  | [], _ :: _, h, _ => by cases h
  | _ :: _, [], _, h => by cases h
  | a :: x, b :: y, h1, h2 => by
    rw [lt_cons] at *
    simp only [Bool.or_eq_false_iff, decide_eq_false_iff_not, Bool.and_eq_false_iff, beq_eq_false_iff_ne] at *
    have e : a = b := by
      apply UInt8.toNat_inj.1
      have := h1.1
      have := h2.1
      rw [UInt8.lt_iff_toNat_lt] at *
      omega
    subst e
    rw [lt_total (h1.2.resolve_left (fun k => k rfl)) (h2.2.resolve_left (fun k => k rfl))]
theorem lt_asymm {a b : Txt} (h : lt a b = true) : lt b a = false := by
  cases e : lt b a with
  | false => rfl
  | true => rw [← lt_irrefl a, lt_trans h e]
theorem lt_ne {a b : Txt} (h : lt a b = true) : a ≠ b := fun e => by rw [e, lt_irrefl] at h; cases h
/-- What is not below lo, and lo not below hi. -/
theorem ge_trans {a lo hi : Txt} (h : lt a hi = false) (h2 : lt hi lo = false) : lt a lo = false := by
  cases e : lt a lo with
  | false => rfl
  | true =>
    cases e2 : lt lo hi with
    | true => rw [lt_trans e e2] at h; cases h
    | false => rw [lt_total e2 h2] at e; rw [e] at h; cases h
theorem lt_of_lt_ge {a b c : Txt} (h : lt a b = true) (h2 : lt c b = false) : lt a c = true := by
  cases e : lt a c with
  | true => rfl
  | false => rw [ge_trans e h2] at h; cases h
theorem lt_of_ge_lt {a b c : Txt} (h : lt b a = false) (h2 : lt b c = true) : lt a c = true := by
  cases e : lt a c with
  | true => rfl
  | false =>
    have h3 := ge_trans (a := b) (lo := c) (hi := a) h e
    rw [h2] at h3
    cases h3

/-! ### Rows by rising key -/
def Sorted (l : List R) : Prop := l.Pairwise (fun a b => lt a.1 b.1 = true)
def del (l : List R) (k : Txt) : List R := l.filter (fun r => r.1 != k)
/-- The place of a key, or of the first greater one. -/
def place : List R → Txt → Nat
  | [], _ => 0
  | r :: l, k => if lt r.1 k = true then place l k + 1 else 0
def ins (l : List R) (r : R) : List R := l.take (place l r.1) ++ r :: l.drop (place l r.1)
def put (l : List R) (k v : Txt) : List R := ins (del l k) (k, v)
def ofL (rows : List R) : List R := rows.foldl (fun l r => put l r.1 r.2) []
def get (l : List R) (k : Txt) : Option Txt := (l.find? (fun r => r.1 == k)).map Prod.snd
def fromL (l : List R) (lo : Txt) : List R := l.filter (fun r => !lt r.1 lo)
def rangeL (l : List R) (lo hi : Txt) : List R := (fromL l lo).filter (fun r => lt r.1 hi)
def bytes (l : List R) : Nat := (l.map fun r => r.1.length + r.2.length).sum
theorem place_le : ∀ (l : List R) (k : Txt), place l k ≤ l.length
  | [], _ => Nat.le_refl _
  | r :: l, k => by
    rw [place]
    split
    · exact Nat.succ_le_succ (place_le l k)
    · exact Nat.zero_le _
theorem ins_nil (r : R) : ins [] r = [r] := rfl
theorem ins_cons (a : R) (l : List R) (r : R) : ins (a :: l) r = if lt a.1 r.1 = true then a :: ins l r else r :: a :: l := by
  unfold ins
  rw [place]
  split <;> simp
theorem ins_mem {l : List R} {r x : R} : x ∈ ins l r ↔ x = r ∨ x ∈ l := by
  induction l with
  | nil => simp [ins_nil]
  | cons a l ih =>
    rw [ins_cons]
    split
    · simp only [List.mem_cons, ih]
      constructor
      · rintro (h | h | h)
        · exact .inr (.inl h)
        · exact .inl h
        · exact .inr (.inr h)
      · rintro (h | h | h)
        · exact .inr (.inl h)
        · exact .inl h
        · exact .inr (.inr h)
    · simp
theorem ins_length (l : List R) (r : R) : (ins l r).length = l.length + 1 := by
  unfold ins
  have := place_le l r.1
  simp
  omega
theorem ins_sorted {l : List R} {r : R} (h : Sorted l) (hn : ∀ x ∈ l, x.1 ≠ r.1) : Sorted (ins l r) := by
  induction l with
  | nil => simp [ins_nil, Sorted]
  | cons a l ih =>
    obtain ⟨h1, h2⟩ := List.pairwise_cons.1 h
    rw [ins_cons]
    split
    · rename_i hlt
      refine List.pairwise_cons.2 ⟨fun x hx => ?_, ih h2 (fun x hx => hn x (by simp [hx]))⟩
      rcases ins_mem.1 hx with rfl | hx
      · exact hlt
      · exact h1 x hx
    · rename_i hlt
      have hra : lt r.1 a.1 = true := by
        cases e : lt r.1 a.1 with
        | true => rfl
        | false => exact absurd (lt_total (by simpa using hlt) e) (hn a (by simp))
      refine List.pairwise_cons.2 ⟨fun x hx => ?_, h⟩
      rcases List.mem_cons.1 hx with rfl | hx
      · exact hra
      · exact lt_trans hra (h1 x hx)
theorem del_sorted {l : List R} (h : Sorted l) (k : Txt) : Sorted (del l k) := h.filter _
theorem del_mem {l : List R} {k : Txt} {x : R} : x ∈ del l k ↔ x ∈ l ∧ x.1 ≠ k := by simp [del]
theorem put_sorted {l : List R} (h : Sorted l) (k v : Txt) : Sorted (put l k v) := ins_sorted (del_sorted h k) (fun _ hx => (del_mem.1 hx).2)
theorem put_mem {l : List R} {k v : Txt} {x : R} : x ∈ put l k v ↔ x = (k, v) ∨ (x ∈ l ∧ x.1 ≠ k) := by
  unfold put
  rw [ins_mem, del_mem]
theorem put_length_le (l : List R) (k v : Txt) : (put l k v).length ≤ l.length + 1 := by
  unfold put
  rw [ins_length]
  exact Nat.succ_le_succ (List.length_filter_le _ _)
theorem ofL_snoc (rows : List R) (r : R) : ofL (rows ++ [r]) = put (ofL rows) r.1 r.2 := by simp [ofL]
theorem foldl_sorted : ∀ (rows l : List R), Sorted l → Sorted (rows.foldl (fun l r => put l r.1 r.2) l)
  | [], _, h => h
  | _ :: rows, _, h => foldl_sorted rows _ (put_sorted h _ _)
theorem ofL_sorted (rows : List R) : Sorted (ofL rows) := foldl_sorted rows [] List.Pairwise.nil
theorem foldl_length : ∀ (rows l : List R), (rows.foldl (fun l r => put l r.1 r.2) l).length ≤ l.length + rows.length
  | [], _ => Nat.le_refl _
  | r :: rows, l => by
    have := foldl_length rows (put l r.1 r.2)
    have := put_length_le l r.1 r.2
    simp only [List.foldl_cons, List.length_cons]
    omega
theorem ofL_length (rows : List R) : (ofL rows).length ≤ rows.length := by
  have := foldl_length rows []
  simpa [ofL] using this
/-- In a sorted list a key has one row. -/
theorem sorted_one {l : List R} (h : Sorted l) {x y : R} (hx : x ∈ l) (hy : y ∈ l) (he : x.1 = y.1) : x = y := by
  induction l with
  | nil => cases hx
  | cons a l ih =>
    obtain ⟨h1, h2⟩ := List.pairwise_cons.1 h
    rcases List.mem_cons.1 hx with ex | hx
    · rcases List.mem_cons.1 hy with ey | hy
      · rw [ex, ey]
      · have h3 := h1 y hy
        rw [← ex, he] at h3
        exact absurd rfl (lt_ne h3)
    · rcases List.mem_cons.1 hy with ey | hy
      · have h3 := h1 x hx
        rw [← ey, he] at h3
        exact absurd rfl (lt_ne h3)
      · exact ih h2 hx hy
/-- Get, by what is there. -/
theorem get_some {l : List R} (h : Sorted l) {k v : Txt} : get l k = some v ↔ (k, v) ∈ l := by
  unfold get
  constructor
  · intro e
    obtain ⟨x, hx, rfl⟩ := Option.map_eq_some_iff.1 e
    have h1 := List.find?_some hx
    have h2 := List.mem_of_find?_eq_some hx
    have h3 : x.1 = k := by simpa using h1
    rw [← h3]
    exact h2
  · intro hm
    cases e : l.find? (fun r => r.1 == k) with
    | none =>
      have := List.find?_eq_none.1 e (k, v) hm
      simp at this
    | some x =>
      have h1 := List.find?_some e
      have h2 := List.mem_of_find?_eq_some e
      have h3 : x.1 = k := by simpa using h1
      rw [sorted_one h h2 hm h3]
      rfl
theorem get_none {l : List R} {k : Txt} : get l k = none ↔ ∀ x ∈ l, x.1 ≠ k := by
  unfold get
  rw [Option.map_eq_none_iff, List.find?_eq_none]
  simp

/-! ### Cut anywhere -/
theorem cut_at {l : List R} (h : Sorted l) (hi : Txt) : l.filter (fun r => lt r.1 hi) ++ l.filter (fun r => !lt r.1 hi) = l := by
  induction l with
  | nil => rfl
  | cons a l ih =>
    obtain ⟨h1, h2⟩ := List.pairwise_cons.1 h
    cases e : lt a.1 hi with
    | true =>
      rw [List.filter_cons_of_pos (by simpa using e), List.filter_cons_of_neg (by simp [e]), List.cons_append, ih h2]
    | false =>
      have hall : ∀ x ∈ l, lt x.1 hi = false := fun x hx => by
        cases e2 : lt x.1 hi with
        | false => rfl
        | true => rw [lt_trans (h1 x hx) e2] at e; cases e
      rw [List.filter_cons_of_neg (by simp [e]), List.filter_cons_of_pos (by simp [e]), List.filter_eq_nil_iff.2 (fun x hx => by simp [hall x hx]), List.filter_eq_self.2 (fun x hx => by simp [hall x hx])]
      rfl
theorem from_sorted {l : List R} (h : Sorted l) (lo : Txt) : Sorted (fromL l lo) := h.filter _
/-- Range(lo, hi), and From(hi), tell together what From(lo) tells. -/
theorem cuts {l : List R} (h : Sorted l) {lo hi : Txt} (hle : lt hi lo = false) : rangeL l lo hi ++ fromL l hi = fromL l lo := by
  have h1 := cut_at (from_sorted h lo) hi
  have h2 : (fromL l lo).filter (fun r => !lt r.1 hi) = fromL l hi := by
    unfold fromL
    rw [List.filter_filter]
    refine List.filter_congr fun x _ => ?_
    cases e : lt x.1 hi with
    | true => simp
    | false => simp [ge_trans e hle]
  rw [h2] at h1
  exact h1
theorem from_nil (l : List R) : fromL l [] = l := List.filter_eq_self.2 (fun x _ => by simp [lt_nil])
theorem cuts_nil {l : List R} (h : Sorted l) (lo : Txt) : rangeL l [] lo ++ fromL l lo = l := by
  have := cuts h (lo := []) (hi := lo) (lt_nil lo)
  rw [from_nil] at this
  exact this
theorem range_in {l : List R} {lo hi : Txt} {x : R} (hx : x ∈ rangeL l lo hi) : lt x.1 lo = false ∧ lt x.1 hi = true := by
  unfold rangeL fromL at hx
  simp only [List.mem_filter, Bool.not_eq_true'] at hx
  exact ⟨hx.1.2, hx.2⟩

/-! ### The last row of each key -/
/-- Of a list of rows: k's last value. -/
def lastOf (rows : List R) (k : Txt) : Option Txt := get rows.reverse k
theorem get_put_same {l : List R} (h : Sorted l) (k v : Txt) : get (put l k v) k = some v := (get_some (put_sorted h k v)).2 (put_mem.2 (.inl rfl))
theorem get_put_other {l : List R} (h : Sorted l) {k v c : Txt} (hne : c ≠ k) : get (put l k v) c = get l c := by
  cases e : get l c with
  | some u => exact (get_some (put_sorted h k v)).2 (put_mem.2 (.inr ⟨(get_some h).1 e, hne⟩))
  | none =>
    refine get_none.2 fun x hx he => ?_
    rcases put_mem.1 hx with rfl | ⟨hx, _⟩
    · exact hne he.symm
    · exact get_none.1 e x hx he
theorem get_ofL (rows : List R) (k : Txt) : get (ofL rows) k = lastOf rows k := by
  unfold lastOf
  generalize hr : rows.reverse = rev
  induction rev generalizing rows with
  | nil =>
    obtain rfl : rows = [] := by simpa using hr
    rfl
  | cons a rev ih =>
    obtain rfl : rows = rev.reverse ++ [a] := by
      have := congrArg List.reverse hr
      simpa using this
    rw [ofL_snoc]
    have h1 := ih rev.reverse (by simp)
    by_cases hk : k = a.1
    · subst hk
      rw [get_put_same (ofL_sorted _)]
      simp [get]
    · rw [get_put_other (ofL_sorted _) hk, h1]
      unfold get
      rw [List.find?_cons_of_neg (by simpa using fun e => hk e.symm)]
theorem get_del {l : List R} (h : Sorted l) (k c : Txt) : get (del l k) c = if c = k then none else get l c := by
  by_cases hc : c = k
  · subst hc
    rw [if_pos rfl]
    exact get_none.2 fun x hx => (del_mem.1 hx).2
  · rw [if_neg hc]
    cases e : get l c with
    | some u => exact (get_some (del_sorted h k)).2 (del_mem.2 ⟨(get_some h).1 e, hc⟩)
    | none => exact get_none.2 fun x hx he => get_none.1 e x (del_mem.1 hx).1 he
/-- Lists with the same answers are alike. -/
theorem sorted_ext {l m : List R} (hl : Sorted l) (hm : Sorted m) (h : ∀ x, x ∈ l ↔ x ∈ m) : l = m := by
  induction l generalizing m with
  | nil =>
    cases m with
    | nil => rfl
    | cons b m => exact absurd ((h b).2 (by simp)) (by simp)
  | cons a l ih =>
    cases m with
    | nil => exact absurd ((h a).1 (by simp)) (by simp)
    | cons b m =>
      obtain ⟨l1, l2⟩ := List.pairwise_cons.1 hl
      obtain ⟨m1, m2⟩ := List.pairwise_cons.1 hm
      have e : a = b := by
        rcases List.mem_cons.1 ((h a).1 (by simp)) with e | ha
        · exact e
        · rcases List.mem_cons.1 ((h b).2 (by simp)) with e | hb
          · exact e.symm
          · have q := lt_trans (l1 b hb) (m1 a ha)
            rw [lt_irrefl] at q
            cases q
      subst e
      rw [ih l2 m2 fun x => ?_]
      constructor
      · intro hx
        rcases List.mem_cons.1 ((h x).1 (by simp [hx])) with e | hx'
        · subst e; have q := l1 x hx; rw [lt_irrefl] at q; cases q
        · exact hx'
      · intro hx
        rcases List.mem_cons.1 ((h x).2 (by simp [hx])) with e | hx'
        · subst e; have q := m1 x hx; rw [lt_irrefl] at q; cases q
        · exact hx'

theorem place_lt : ∀ {l : List R} {k : Txt} {i : Nat}, i < place l k → ∃ r, l[i]? = some r ∧ lt r.1 k = true
  | [], k, i, h => by simp [place] at h
  | r :: l, k, i, h => by
    rw [place] at h
    split at h
    · rename_i hr
      cases i with
      | zero => exact ⟨r, rfl, hr⟩
      | succ i => exact place_lt (l := l) (by omega)
    · omega
theorem place_at : ∀ {l : List R} {k : Txt} {r : R}, l[place l k]? = some r → lt r.1 k = false
  | [], k, r, h => by simp [place] at h
  | a :: l, k, r, h => by
    rw [place] at h
    split at h
    · exact place_at (l := l) (by simpa using h)
    · rename_i ha
      have e : a = r := by simpa using h
      subst e
      simpa using ha
theorem del_snoc (l : List R) (r : R) (k : Txt) : del (l ++ [r]) k = if r.1 = k then del l k else del l k ++ [r] := by
  unfold del
  rw [List.filter_append]
  split
  · rename_i h
    simp [h]
  · rename_i h
    simp [h]
/-- Was there one? -/
def has (l : List R) (k : Txt) : Bool := l.any (fun r => r.1 == k)
theorem has_snoc (l : List R) (r : R) (k : Txt) : has (l ++ [r]) k = (has l k || r.1 == k) := by simp [has]

/-! ### TableCuts' last rows -/
/-- What is left when the rows from j on have been taken out. -/
def left (rows : List R) (j : Nat) : List R := (ofL rows).filter (fun x => !(rows.drop j).any (fun y => y.1 == x.1))
theorem left_start (rows : List R) : left rows rows.length = ofL rows := by
  unfold left
  rw [List.drop_length]
  exact List.filter_eq_self.2 (fun x _ => by simp)
theorem left_sorted (rows : List R) (j : Nat) : Sorted (left rows j) := (ofL_sorted rows).filter _
theorem left_step {rows : List R} {j : Nat} {r : R} (h : rows[j]? = some r) : del (left rows (j + 1)) r.1 = left rows j := by
  obtain ⟨hj, rfl⟩ := List.getElem?_eq_some_iff.1 h
  unfold del left
  rw [List.filter_filter]
  refine List.filter_congr fun x _ => ?_
  rw [List.drop_eq_getElem_cons hj, List.any_cons]
  cases e : (rows[j].1 == x.1) with
  | true =>
    have : x.1 = rows[j].1 := (by simpa using e : rows[j].1 = x.1).symm
    simp [this]
  | false =>
    have : x.1 ≠ rows[j].1 := fun k => by simp [k] at e
    simp [this]
theorem last_here {rows : List R} {j : Nat} {r : R} (h : rows[j]? = some r) (hn : (rows.drop (j + 1)).any (fun y => y.1 == r.1) = false) : lastOf rows r.1 = some r.2 := by
  obtain ⟨hj, rfl⟩ := List.getElem?_eq_some_iff.1 h
  unfold lastOf get
  have e : rows = rows.take j ++ rows[j] :: rows.drop (j + 1) := by rw [← List.drop_eq_getElem_cons hj, List.take_append_drop]
  have hr : rows.reverse = (rows.drop (j + 1)).reverse ++ rows[j] :: (rows.take j).reverse := by
    conv => lhs; rw [e]
    simp
  rw [hr, List.find?_append]
  have h0 : (rows.drop (j + 1)).reverse.find? (fun r => r.1 == rows[j].1) = none := by
    rw [List.find?_eq_none]
    intro x hx
    have hx' : x ∈ rows.drop (j + 1) := by simpa using hx
    have := List.any_eq_false.1 hn x hx'
    simpa using this
  rw [h0]
  simp
/-- What the step reads: c's row, if there is one, has the value of rows[j]; t has a row. -/
theorem left_read {rows : List R} {j : Nat} {r : R} (h : rows[j]? = some r) :
    (∀ v, get (left rows (j + 1)) r.1 = some v → v = r.2 ∧ get (ofL rows) r.1 = some v) ∧ ∃ w, get (ofL rows) r.1 = some w := by
  refine ⟨fun v hv => ?_, ?_⟩
  · have hm := (get_some (left_sorted rows (j + 1))).1 hv
    unfold left at hm
    rw [List.mem_filter] at hm
    have h1 := (get_some (ofL_sorted rows)).2 hm.1
    have h2 := h1
    rw [get_ofL, last_here h (by simpa using hm.2)] at h2
    injection h2 with h2
    exact ⟨h2.symm, h1⟩
  · cases e : get (ofL rows) r.1 with
    | some w => exact ⟨w, rfl⟩
    | none =>
      rw [get_ofL] at e
      unfold lastOf at e
      have hm : r ∈ rows := List.mem_of_getElem? h
      exact absurd rfl (get_none.1 e r (by simpa using hm))
theorem left_end (rows : List R) : left rows 0 = [] := by
  unfold left
  rw [List.drop_zero, List.filter_eq_nil_iff]
  intro x hx
  have h1 := (get_some (ofL_sorted rows) (k := x.1) (v := x.2)).2 hx
  rw [get_ofL] at h1
  have h2 := (List.find?_some (Option.map_eq_some_iff.1 h1).choose_spec.1)
  have h3 := List.mem_of_find?_eq_some (Option.map_eq_some_iff.1 h1).choose_spec.1
  have : rows.any (fun y => y.1 == x.1) = true := List.any_eq_true.2 ⟨_, by simpa using h3, h2⟩
  simp [this]
theorem ofL_empty {rows : List R} : ofL rows = [] ↔ rows = [] := by
  constructor
  · intro h
    cases rows with
    | nil => rfl
    | cons r rows =>
      obtain ⟨w, hw⟩ := (left_read (rows := r :: rows) (j := 0) (r := r) rfl).2
      rw [h] at hw
      cases hw
  · rintro rfl; rfl
/-- Rows that are all alike. -/
theorem ofL_same (k v : Txt) : ∀ n, ofL (List.replicate n (k, v)) = if n = 0 then [] else [(k, v)]
  | 0 => rfl
  | n + 1 => by
    rw [List.replicate_succ', ofL_snoc, ofL_same k v n]
    by_cases h : n = 0
    · rw [if_pos h]; rfl
    · rw [if_neg h]
      simp [put, del, ins, place]

/-! ### Sums -/
theorem bytes_nil : bytes [] = 0 := rfl
theorem bytes_append (l m : List R) : bytes (l ++ m) = bytes l + bytes m := by simp [bytes]
theorem bytes_one (r : R) : bytes [r] = r.1.length + r.2.length := by simp [bytes]
theorem bytes_take {l : List R} {k : Nat} {r : R} (h : l[k]? = some r) : bytes (l.take (k + 1)) = bytes (l.take k) + (r.1.length + r.2.length) := by
  rw [List.take_add_one, bytes_append, h]
  exact congrArg _ (bytes_one r)
theorem bytes_cons (r : R) (l : List R) : bytes (r :: l) = r.1.length + r.2.length + bytes l := by simp [bytes]
theorem del_bytes : ∀ (l : List R) (k : Txt), bytes (del l k) ≤ bytes l
  | [], _ => Nat.le_refl _
  | r :: l, k => by
    have ih := del_bytes l k
    unfold del at *
    rw [List.filter_cons]
    split
    · rw [bytes_cons, bytes_cons]; omega
    · rw [bytes_cons]; omega
theorem ins_bytes (l : List R) (r : R) : bytes (ins l r) = r.1.length + r.2.length + bytes l := by
  unfold ins
  have h : bytes l = bytes (l.take (place l r.1)) + bytes (l.drop (place l r.1)) := by rw [← bytes_append, List.take_append_drop]
  rw [bytes_append, bytes_cons, h]
  omega
theorem put_bytes (l : List R) (k v : Txt) : bytes (put l k v) ≤ bytes l + (k.length + v.length) := by
  unfold put
  rw [ins_bytes]
  have := del_bytes l k
  simp only
  omega
theorem foldl_bytes : ∀ (rows l : List R), bytes (rows.foldl (fun l r => put l r.1 r.2) l) ≤ bytes l + bytes rows
  | [], _ => Nat.le_refl _
  | r :: rows, l => by
    have h1 := foldl_bytes rows (put l r.1 r.2)
    have h2 := put_bytes l r.1 r.2
    rw [List.foldl_cons, bytes_cons]
    omega
theorem ofL_bytes (rows : List R) : bytes (ofL rows) ≤ bytes rows := by
  have := foldl_bytes rows []
  rw [bytes_nil] at this
  simpa [ofL] using this
theorem bytes_rep (r : R) : ∀ n, bytes (List.replicate n r) = n * (r.1.length + r.2.length)
  | 0 => by simp [bytes]
  | n + 1 => by rw [List.replicate_succ, bytes_cons, bytes_rep r n, Nat.succ_mul]; omega
theorem take_bytes (l : List R) (k : Nat) : bytes (l.take k) ≤ bytes l := by
  have h : bytes l = bytes (l.take k) + bytes (l.drop k) := by rw [← bytes_append, List.take_append_drop]
  omega
/-- Neighbours rise. -/
theorem sorted_next {l : List R} (h : Sorted l) {k : Nat} {a b : R} (ha : l[k]? = some a) (hb : l[k + 1]? = some b) : lt a.1 b.1 = true := by
  obtain ⟨h1, rfl⟩ := List.getElem?_eq_some_iff.1 ha
  obtain ⟨h2, rfl⟩ := List.getElem?_eq_some_iff.1 hb
  exact List.pairwise_iff_getElem.1 h k (k + 1) h1 h2 (Nat.lt_succ_self k)
end Go.Proofs.YtffjleceogablaaDoor.Tb
