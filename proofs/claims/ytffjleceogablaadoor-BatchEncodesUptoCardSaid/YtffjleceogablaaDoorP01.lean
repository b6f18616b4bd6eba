/-
  Layer 11, plain: rows by rising key: put, taken out, gone over; what is cut anywhere; the last row of each key.
  Layer 12, plain: ops; their normal form; done to rows; what lies between two tables.
-/
import Derived.Laws.Strings
namespace Go.Proofs.YtffjleceogablaaDoor.Tb
set_option maxRecDepth 100000

/-! ### The order of texts -/
abbrev Txt := List UInt8
abbrev R := Txt × Txt
def lt (a b : Txt) : Bool := Go.Op.bytesLess a b
theorem lt_nil (a : Txt) : lt a [] = false := by cases a <;> rfl
theorem lt_cons (a b : UInt8) (x y : Txt) : lt (a :: x) (b :: y) = (decide (a < b) || (a == b && lt x y)) := rfl
theorem lt_irrefl : ∀ a, lt a a = false
  | [] => rfl
  | a :: x => by rw [lt_cons, lt_irrefl x]; simp [UInt8.lt_irrefl]
theorem lt_trans : ∀ {a b c : Txt}, lt a b = true → lt b c = true → lt a c = true
  | _, [], _, h, _ => by rw [lt_nil] at h; cases h
  | _, _ :: _, [], _, h => by rw [lt_nil] at h; cases h
  | [], _ :: _, _ :: _, _, _ => rfl
  | a :: x, b :: y, c :: z, h1, h2 => by
    rw [lt_cons] at *
    simp only [Bool.or_eq_true, Bool.and_eq_true, decide_eq_true_eq, beq_iff_eq] at *
    rcases h1 with h1 | ⟨rfl, h1⟩
    · rcases h2 with h2 | ⟨rfl, h2⟩
      · exact .inl (UInt8.lt_trans h1 h2)
      · exact .inl h1
    · rcases h2 with h2 | ⟨rfl, h2⟩
      · exact .inl h2
      · exact .inr ⟨rfl, lt_trans h1 h2⟩
theorem lt_total : ∀ {a b : Txt}, lt a b = false → lt b a = false → a = b
  | [], [], _, _ => rfl
  | [], _ :: _, h, _ => by cases h
  | _ :: _, [], _, h => by cases h
  | a :: x, b :: y, h1, h2 => by
    rw [lt_cons] at *
    simp only [Bool.or_eq_false_iff, decide_eq_false_iff_not, Bool.and_eq_false_iff, beq_eq_false_iff_ne] at *
    have e : a = b := by
      apply UInt8.toNat_inj.1
      have := h1.1
      have := h2.1
      rw [UInt8.lt_iff_toNat_lt] at *
      omega
    subst e
    rw [lt_total (h1.2.resolve_left (fun k => k rfl)) (h2.2.resolve_left (fun k => k rfl))]
theorem lt_asymm {a b : Txt} (h : lt a b = true) : lt b a = false := by
  cases e : lt b a with
  | false => rfl
  | true => rw [← lt_irrefl a, lt_trans h e]
theorem lt_ne {a b : Txt} (h : lt a b = true) : a ≠ b := fun e => by rw [e, lt_irrefl] at h; cases h
/-- What is not below lo, and lo not below hi. -/
theorem ge_trans {a lo hi : Txt} (h : lt a hi = false) (h2 : lt hi lo = false) : lt a lo = false := by
  cases e : lt a lo with
  | false => rfl
  | true =>
    cases e2 : lt lo hi with
    | true => rw [lt_trans e e2] at h; cases h
    | false => rw [lt_total e2 h2] at e; rw [e] at h; cases h
theorem lt_of_lt_ge {a b c : Txt} (h : lt a b = true) (h2 : lt c b = false) : lt a c = true := by
  cases e : lt a c with
  | true => rfl
  | false => rw [ge_trans e h2] at h; cases h
theorem lt_of_ge_lt {a b c : Txt} (h : lt b a = false) (h2 : lt b c = true) : lt a c = true := by
  cases e : lt a c with
  | true => rfl
  | false =>
    have h3 := ge_trans (a := b) (lo := c) (hi := a) h e
    rw [h2] at h3
    cases h3

/-! ### Rows by rising key -/
def Sorted (l : List R) : Prop := l.Pairwise (fun a b => lt a.1 b.1 = true)
def del (l : List R) (k : Txt) : List R := l.filter (fun r => r.1 != k)
/-- The place of a key, or of the first greater one. -/
def place : List R → Txt → Nat
  | [], _ => 0
  | r :: l, k => if lt r.1 k = true then place l k + 1 else 0
def ins (l : List R) (r : R) : List R := l.take (place l r.1) ++ r :: l.drop (place l r.1)
def put (l : List R) (k v : Txt) : List R := ins (del l k) (k, v)
def ofL (rows : List R) : List R := rows.foldl (fun l r => put l r.1 r.2) []
def get (l : List R) (k : Txt) : Option Txt := (l.find? (fun r => r.1 == k)).map Prod.snd
def fromL (l : List R) (lo : Txt) : List R := l.filter (fun r => !lt r.1 lo)
def rangeL (l : List R) (lo hi : Txt) : List R := (fromL l lo).filter (fun r => lt r.1 hi)
def bytes (l : List R) : Nat := (l.map fun r => r.1.length + r.2.length).sum
theorem place_le : ∀ (l : List R) (k : Txt), place l k ≤ l.length
  | [], _ => Nat.le_refl _
  | r :: l, k => by
    rw [place]
    split
    · exact Nat.succ_le_succ (place_le l k)
    · exact Nat.zero_le _
theorem ins_nil (r : R) : ins [] r = [r] := rfl
theorem ins_cons (a : R) (l : List R) (r : R) : ins (a :: l) r = if lt a.1 r.1 = true then a :: ins l r else r :: a :: l := by
  unfold ins
  rw [place]
  split <;> simp
theorem ins_mem {l : List R} {r x : R} : x ∈ ins l r ↔ x = r ∨ x ∈ l := by
  induction l with
  | nil => simp [ins_nil]
  | cons a l ih =>
    rw [ins_cons]
    split
    · simp only [List.mem_cons, ih]
      constructor
      · rintro (h | h | h)
        · exact .inr (.inl h)
        · exact .inl h
        · exact .inr (.inr h)
      · rintro (h | h | h)
        · exact .inr (.inl h)
        · exact .inl h
        · exact .inr (.inr h)
    · simp
theorem ins_length (l : List R) (r : R) : (ins l r).length = l.length + 1 := by
  unfold ins
  have := place_le l r.1
  simp
  omega
theorem ins_sorted {l : List R} {r : R} (h : Sorted l) (hn : ∀ x ∈ l, x.1 ≠ r.1) : Sorted (ins l r) := by
  induction l with
  | nil => simp [ins_nil, Sorted]
  | cons a l ih =>
    obtain ⟨h1, h2⟩ := List.pairwise_cons.1 h
    rw [ins_cons]
    split
    · rename_i hlt
      refine List.pairwise_cons.2 ⟨fun x hx => ?_, ih h2 (fun x hx => hn x (by simp [hx]))⟩
      rcases ins_mem.1 hx with rfl | hx
      · exact hlt
      · exact h1 x hx
    · rename_i hlt
      have hra : lt r.1 a.1 = true := by
        cases e : lt r.1 a.1 with
        | true => rfl
        | false => exact absurd (lt_total (by simpa using hlt) e) (hn a (by simp))
      refine List.pairwise_cons.2 ⟨fun x hx => ?_, h⟩
      rcases List.mem_cons.1 hx with rfl | hx
      · exact hra
      · exact lt_trans hra (h1 x hx)
theorem del_sorted {l : List R} (h : Sorted l) (k : Txt) : Sorted (del l k) := h.filter _
theorem del_mem {l : List R} {k : Txt} {x : R} : x ∈ del l k ↔ x ∈ l ∧ x.1 ≠ k := by simp [del]
theorem put_sorted {l : List R} (h : Sorted l) (k v : Txt) : Sorted (put l k v) := ins_sorted (del_sorted h k) (fun _ hx => (del_mem.1 hx).2)
theorem put_mem {l : List R} {k v : Txt} {x : R} : x ∈ put l k v ↔ x = (k, v) ∨ (x ∈ l ∧ x.1 ≠ k) := by
  unfold put
  rw [ins_mem, del_mem]
theorem put_length_le (l : List R) (k v : Txt) : (put l k v).length ≤ l.length + 1 := by
  unfold put
  rw [ins_length]
  exact Nat.succ_le_succ (List.length_filter_le _ _)
theorem ofL_snoc (rows : List R) (r : R) : ofL (rows ++ [r]) = put (ofL rows) r.1 r.2 := by simp [ofL]
theorem foldl_sorted : ∀ (rows l : List R), Sorted l → Sorted (rows.foldl (fun l r => put l r.1 r.2) l)
  | [], _, h => h
  | _ :: rows, _, h => foldl_sorted rows _ (put_sorted h _ _)
theorem ofL_sorted (rows : List R) : Sorted (ofL rows) := foldl_sorted rows [] List.Pairwise.nil
theorem foldl_length : ∀ (rows l : List R), (rows.foldl (fun l r => put l r.1 r.2) l).length ≤ l.length + rows.length
  | [], _ => Nat.le_refl _
  | r :: rows, l => by
    have := foldl_length rows (put l r.1 r.2)
    have := put_length_le l r.1 r.2
    simp only [List.foldl_cons, List.length_cons]
    omega
theorem ofL_length (rows : List R) : (ofL rows).length ≤ rows.length := by
  have := foldl_length rows []
  simpa [ofL] using this
/-- In a sorted list a key has one row. -/
theorem sorted_one {l : List R} (h : Sorted l) {x y : R} (hx : x ∈ l) (hy : y ∈ l) (he : x.1 = y.1) : x = y := by
  induction l with
  | nil => cases hx
  | cons a l ih =>
    obtain ⟨h1, h2⟩ := List.pairwise_cons.1 h
    rcases List.mem_cons.1 hx with ex | hx
    · rcases List.mem_cons.1 hy with ey | hy
      · rw [ex, ey]
      · have h3 := h1 y hy
        rw [← ex, he] at h3
        exact absurd rfl (lt_ne h3)
    · rcases List.mem_cons.1 hy with ey | hy
      · have h3 := h1 x hx
        rw [← ey, he] at h3
        exact absurd rfl (lt_ne h3)
      · exact ih h2 hx hy
/-- Get, by what is there. -/
theorem get_some {l : List R} (h : Sorted l) {k v : Txt} : get l k = some v ↔ (k, v) ∈ l := by
  unfold get
  constructor
  · intro e
    obtain ⟨x, hx, rfl⟩ := Option.map_eq_some_iff.1 e
    have h1 := List.find?_some hx
    have h2 := List.mem_of_find?_eq_some hx
    have h3 : x.1 = k := by simpa using h1
    rw [← h3]
    exact h2
  · intro hm
    cases e : l.find? (fun r => r.1 == k) with
    | none =>
      have := List.find?_eq_none.1 e (k, v) hm
      simp at this
    | some x =>
      have h1 := List.find?_some e
      have h2 := List.mem_of_find?_eq_some e
      have h3 : x.1 = k := by simpa using h1
      rw [sorted_one h h2 hm h3]
      rfl
theorem get_none {l : List R} {k : Txt} : get l k = none ↔ ∀ x ∈ l, x.1 ≠ k := by
  unfold get
  rw [Option.map_eq_none_iff, List.find?_eq_none]
  simp

/-! ### Cut anywhere -/
theorem cut_at {l : List R} (h : Sorted l) (hi : Txt) : l.filter (fun r => lt r.1 hi) ++ l.filter (fun r => !lt r.1 hi) = l := by
  induction l with
  | nil => rfl
  | cons a l ih =>
    obtain ⟨h1, h2⟩ := List.pairwise_cons.1 h
    cases e : lt a.1 hi with
    | true =>
      rw [List.filter_cons_of_pos (by simpa using e), List.filter_cons_of_neg (by simp [e]), List.cons_append, ih h2]
    | false =>
      have hall : ∀ x ∈ l, lt x.1 hi = false := fun x hx => by
        cases e2 : lt x.1 hi with
        | false => rfl
        | true => rw [lt_trans (h1 x hx) e2] at e; cases e
      rw [List.filter_cons_of_neg (by simp [e]), List.filter_cons_of_pos (by simp [e]), List.filter_eq_nil_iff.2 (fun x hx => by simp [hall x hx]), List.filter_eq_self.2 (fun x hx => by simp [hall x hx])]
      rfl
theorem from_sorted {l : List R} (h : Sorted l) (lo : Txt) : Sorted (fromL l lo) := h.filter _
/-- Range(lo, hi), and From(hi), tell together what From(lo) tells. -/
theorem cuts {l : List R} (h : Sorted l) {lo hi : Txt} (hle : lt hi lo = false) : rangeL l lo hi ++ fromL l hi = fromL l lo := by
  have h1 := cut_at (from_sorted h lo) hi
  have h2 : (fromL l lo).filter (fun r => !lt r.1 hi) = fromL l hi := by
    unfold fromL
    rw [List.filter_filter]
    refine List.filter_congr fun x _ => ?_
    cases e : lt x.1 hi with
    | true => simp
    | false => simp [ge_trans e hle]
  rw [h2] at h1
  exact h1
theorem from_nil (l : List R) : fromL l [] = l := List.filter_eq_self.2 (fun x _ => by simp [lt_nil])
theorem cuts_nil {l : List R} (h : Sorted l) (lo : Txt) : rangeL l [] lo ++ fromL l lo = l := by
  have := cuts h (lo := []) (hi := lo) (lt_nil lo)
  rw [from_nil] at this
  exact this
theorem range_in {l : List R} {lo hi : Txt} {x : R} (hx : x ∈ rangeL l lo hi) : lt x.1 lo = false ∧ lt x.1 hi = true := by
  unfold rangeL fromL at hx
  simp only [List.mem_filter, Bool.not_eq_true'] at hx
  exact ⟨hx.1.2, hx.2⟩

/-! ### The last row of each key -/
/-- Of a list of rows: k's last value. -/
def lastOf (rows : List R) (k : Txt) : Option Txt := get rows.reverse k
theorem get_put_same {l : List R} (h : Sorted l) (k v : Txt) : get (put l k v) k = some v := (get_some (put_sorted h k v)).2 (put_mem.2 (.inl rfl))
theorem get_put_other {l : List R} (h : Sorted l) {k v c : Txt} (hne : c ≠ k) : get (put l k v) c = get l c := by
  cases e : get l c with
  | some u => exact (get_some (put_sorted h k v)).2 (put_mem.2 (.inr ⟨(get_some h).1 e, hne⟩))
  | none =>
    refine get_none.2 fun x hx he => ?_
    rcases put_mem.1 hx with rfl | ⟨hx, _⟩
    · exact hne he.symm
    · exact get_none.1 e x hx he
theorem get_ofL (rows : List R) (k : Txt) : get (ofL rows) k = lastOf rows k := by
  unfold lastOf
  generalize hr : rows.reverse = rev
  induction rev generalizing rows with
  | nil =>
    obtain rfl : rows = [] := by simpa using hr
    rfl
  | cons a rev ih =>
    obtain rfl : rows = rev.reverse ++ [a] := by
      have := congrArg List.reverse hr
      simpa using this
    rw [ofL_snoc]
    have h1 := ih rev.reverse (by simp)
    by_cases hk : k = a.1
    · subst hk
      rw [get_put_same (ofL_sorted _)]
      simp [get]
    · rw [get_put_other (ofL_sorted _) hk, h1]
      unfold get
      rw [List.find?_cons_of_neg (by simpa using fun e => hk e.symm)]
theorem get_del {l : List R} (h : Sorted l) (k c : Txt) : get (del l k) c = if c = k then none else get l c := by
  by_cases hc : c = k
  · subst hc
    rw [if_pos rfl]
    exact get_none.2 fun x hx => (del_mem.1 hx).2
  · rw [if_neg hc]
    cases e : get l c with
    | some u => exact (get_some (del_sorted h k)).2 (del_mem.2 ⟨(get_some h).1 e, hc⟩)
    | none => exact get_none.2 fun x hx he => get_none.1 e x (del_mem.1 hx).1 he
/-- Lists with the same answers are alike. -/
theorem sorted_ext {l m : List R} (hl : Sorted l) (hm : Sorted m) (h : ∀ x, x ∈ l ↔ x ∈ m) : l = m := by
  induction l generalizing m with
  | nil =>
    cases m with
    | nil => rfl
    | cons b m => exact absurd ((h b).2 (by simp)) (by simp)
  | cons a l ih =>
    cases m with
    | nil => exact absurd ((h a).1 (by simp)) (by simp)
    | cons b m =>
      obtain ⟨l1, l2⟩ := List.pairwise_cons.1 hl
      obtain ⟨m1, m2⟩ := List.pairwise_cons.1 hm
      have e : a = b := by
        rcases List.mem_cons.1 ((h a).1 (by simp)) with e | ha
        · exact e
        · rcases List.mem_cons.1 ((h b).2 (by simp)) with e | hb
          · exact e.symm
          · have q := lt_trans (l1 b hb) (m1 a ha)
            rw [lt_irrefl] at q
            cases q
      subst e
      rw [ih l2 m2 fun x => ?_]
      constructor
      · intro hx
        rcases List.mem_cons.1 ((h x).1 (by simp [hx])) with e | hx'
        · subst e; have q := l1 x hx; rw [lt_irrefl] at q; cases q
        · exact hx'
      · intro hx
        rcases List.mem_cons.1 ((h x).2 (by simp [hx])) with e | hx'
        · subst e; have q := m1 x hx; rw [lt_irrefl] at q; cases q
        · exact hx'

theorem place_lt : ∀ {l : List R} {k : Txt} {i : Nat}, i < place l k → ∃ r, l[i]? = some r ∧ lt r.1 k = true
  | [], k, i, h => by simp [place] at h
  | r :: l, k, i, h => by
    rw [place] at h
    split at h
    · rename_i hr
      cases i with
      | zero => exact ⟨r, rfl, hr⟩
      | succ i => exact place_lt (l := l) (by omega)
    · omega
theorem place_at : ∀ {l : List R} {k : Txt} {r : R}, l[place l k]? = some r → lt r.1 k = false
  | [], k, r, h => by simp [place] at h
  | a :: l, k, r, h => by
    rw [place] at h
    split at h
    · exact place_at (l := l) (by simpa using h)
    · rename_i ha
      have e : a = r := by simpa using h
      subst e
      simpa using ha
theorem del_snoc (l : List R) (r : R) (k : Txt) : del (l ++ [r]) k = if r.1 = k then del l k else del l k ++ [r] := by
  unfold del
  rw [List.filter_append]
  split
  · rename_i h
    simp [h]
  · rename_i h
    simp [h]
/-- Was there one? -/
def has (l : List R) (k : Txt) : Bool := l.any (fun r => r.1 == k)
theorem has_snoc (l : List R) (r : R) (k : Txt) : has (l ++ [r]) k = (has l k || r.1 == k) := by simp [has]

/-! ### TableCuts' last rows -/
/-- What is left when the rows from j on have been taken out. -/
def left (rows : List R) (j : Nat) : List R := (ofL rows).filter (fun x => !(rows.drop j).any (fun y => y.1 == x.1))
theorem left_start (rows : List R) : left rows rows.length = ofL rows := by
  unfold left
  rw [List.drop_length]
  exact List.filter_eq_self.2 (fun x _ => by simp)
theorem left_sorted (rows : List R) (j : Nat) : Sorted (left rows j) := (ofL_sorted rows).filter _
theorem left_step {rows : List R} {j : Nat} {r : R} (h : rows[j]? = some r) : del (left rows (j + 1)) r.1 = left rows j := by
  obtain ⟨hj, rfl⟩ := List.getElem?_eq_some_iff.1 h
  unfold del left
  rw [List.filter_filter]
  refine List.filter_congr fun x _ => ?_
  rw [List.drop_eq_getElem_cons hj, List.any_cons]
  cases e : (rows[j].1 == x.1) with
  | true =>
    have : x.1 = rows[j].1 := (by simpa using e : rows[j].1 = x.1).symm
    simp [this]
  | false =>
    have : x.1 ≠ rows[j].1 := fun k => by simp [k] at e
    simp [this]
theorem last_here {rows : List R} {j : Nat} {r : R} (h : rows[j]? = some r) (hn : (rows.drop (j + 1)).any (fun y => y.1 == r.1) = false) : lastOf rows r.1 = some r.2 := by
  obtain ⟨hj, rfl⟩ := List.getElem?_eq_some_iff.1 h
  unfold lastOf get
  have e : rows = rows.take j ++ rows[j] :: rows.drop (j + 1) := by rw [← List.drop_eq_getElem_cons hj, List.take_append_drop]
  have hr : rows.reverse = (rows.drop (j + 1)).reverse ++ rows[j] :: (rows.take j).reverse := by
    conv => lhs; rw [e]
    simp
  rw [hr, List.find?_append]
  have h0 : (rows.drop (j + 1)).reverse.find? (fun r => r.1 == rows[j].1) = none := by
    rw [List.find?_eq_none]
    intro x hx
    have hx' : x ∈ rows.drop (j + 1) := by simpa using hx
    have := List.any_eq_false.1 hn x hx'
    simpa using this
  rw [h0]
  simp
/-- What the step reads: c's row, if there is one, has the value of rows[j]; t has a row. -/
theorem left_read {rows : List R} {j : Nat} {r : R} (h : rows[j]? = some r) :
    (∀ v, get (left rows (j + 1)) r.1 = some v → v = r.2 ∧ get (ofL rows) r.1 = some v) ∧ ∃ w, get (ofL rows) r.1 = some w := by
  refine ⟨fun v hv => ?_, ?_⟩
  · have hm := (get_some (left_sorted rows (j + 1))).1 hv
    unfold left at hm
    rw [List.mem_filter] at hm
    have h1 := (get_some (ofL_sorted rows)).2 hm.1
    have h2 := h1
    rw [get_ofL, last_here h (by simpa using hm.2)] at h2
    injection h2 with h2
    exact ⟨h2.symm, h1⟩
  · cases e : get (ofL rows) r.1 with
    | some w => exact ⟨w, rfl⟩
    | none =>
      rw [get_ofL] at e
      unfold lastOf at e
      have hm : r ∈ rows := List.mem_of_getElem? h
      exact absurd rfl (get_none.1 e r (by simpa using hm))
theorem left_end (rows : List R) : left rows 0 = [] := by
  unfold left
  rw [List.drop_zero, List.filter_eq_nil_iff]
  intro x hx
  have h1 := (get_some (ofL_sorted rows) (k := x.1) (v := x.2)).2 hx
  rw [get_ofL] at h1
  have h2 := (List.find?_some (Option.map_eq_some_iff.1 h1).choose_spec.1)
  have h3 := List.mem_of_find?_eq_some (Option.map_eq_some_iff.1 h1).choose_spec.1
  have : rows.any (fun y => y.1 == x.1) = true := List.any_eq_true.2 ⟨_, by simpa using h3, h2⟩
  simp [this]
theorem ofL_empty {rows : List R} : ofL rows = [] ↔ rows = [] := by
  constructor
  · intro h
    cases rows with
    | nil => rfl
    | cons r rows =>
      obtain ⟨w, hw⟩ := (left_read (rows := r :: rows) (j := 0) (r := r) rfl).2
      rw [h] at hw
      cases hw
  · rintro rfl; rfl
/-- Rows that are all alike. -/
theorem ofL_same (k v : Txt) : ∀ n, ofL (List.replicate n (k, v)) = if n = 0 then [] else [(k, v)]
  | 0 => rfl
  | n + 1 => by
    rw [List.replicate_succ', ofL_snoc, ofL_same k v n]
    by_cases h : n = 0
    · rw [if_pos h]; rfl
    · rw [if_neg h]
      simp [put, del, ins, place]

/-! ### Sums -/
theorem bytes_nil : bytes [] = 0 := rfl
theorem bytes_append (l m : List R) : bytes (l ++ m) = bytes l + bytes m := by simp [bytes]
theorem bytes_one (r : R) : bytes [r] = r.1.length + r.2.length := by simp [bytes]
theorem bytes_take {l : List R} {k : Nat} {r : R} (h : l[k]? = some r) : bytes (l.take (k + 1)) = bytes (l.take k) + (r.1.length + r.2.length) := by
  rw [List.take_add_one, bytes_append, h]
  exact congrArg _ (bytes_one r)
theorem bytes_cons (r : R) (l : List R) : bytes (r :: l) = r.1.length + r.2.length + bytes l := by simp [bytes]
theorem del_bytes : ∀ (l : List R) (k : Txt), bytes (del l k) ≤ bytes l
  | [], _ => Nat.le_refl _
  | r :: l, k => by
    have ih := del_bytes l k
    unfold del at *
    rw [List.filter_cons]
    split
    · rw [bytes_cons, bytes_cons]; omega
    · rw [bytes_cons]; omega
theorem ins_bytes (l : List R) (r : R) : bytes (ins l r) = r.1.length + r.2.length + bytes l := by
  unfold ins
  have h : bytes l = bytes (l.take (place l r.1)) + bytes (l.drop (place l r.1)) := by rw [← bytes_append, List.take_append_drop]
  rw [bytes_append, bytes_cons, h]
  omega
theorem put_bytes (l : List R) (k v : Txt) : bytes (put l k v) ≤ bytes l + (k.length + v.length) := by
  unfold put
  rw [ins_bytes]
  have := del_bytes l k
  simp only
  omega
theorem foldl_bytes : ∀ (rows l : List R), bytes (rows.foldl (fun l r => put l r.1 r.2) l) ≤ bytes l + bytes rows
  | [], _ => Nat.le_refl _
  | r :: rows, l => by
    have h1 := foldl_bytes rows (put l r.1 r.2)
    have h2 := put_bytes l r.1 r.2
    rw [List.foldl_cons, bytes_cons]
    omega
theorem ofL_bytes (rows : List R) : bytes (ofL rows) ≤ bytes rows := by
  have := foldl_bytes rows []
  rw [bytes_nil] at this
  simpa [ofL] using this
theorem bytes_rep (r : R) : ∀ n, bytes (List.replicate n r) = n * (r.1.length + r.2.length)
  | 0 => by simp [bytes]
  | n + 1 => by rw [List.replicate_succ, bytes_cons, bytes_rep r n, Nat.succ_mul]; omega
theorem take_bytes (l : List R) (k : Nat) : bytes (l.take k) ≤ bytes l := by
  have h : bytes l = bytes (l.take k) + bytes (l.drop k) := by rw [← bytes_append, List.take_append_drop]
  omega
/-- Neighbours rise. -/
theorem sorted_next {l : List R} (h : Sorted l) {k : Nat} {a b : R} (ha : l[k]? = some a) (hb : l[k + 1]? = some b) : lt a.1 b.1 = true := by
  obtain ⟨h1, rfl⟩ := List.getElem?_eq_some_iff.1 ha
  obtain ⟨h2, rfl⟩ := List.getElem?_eq_some_iff.1 hb
  exact List.pairwise_iff_getElem.1 h k (k + 1) h1 h2 (Nat.lt_succ_self k)
end Go.Proofs.YtffjleceogablaaDoor.Tb
namespace Go.Proofs.YtffjleceogablaaDoor.Tb
set_option maxRecDepth 100000

/-! ### More of rows by rising key -/
theorem ofL_sub (rows : List R) : ∀ x ∈ ofL rows, x ∈ rows := by
  intro x hx
  have h1 := (get_some (ofL_sorted rows) (k := x.1) (v := x.2)).2 hx
  rw [get_ofL] at h1
  unfold lastOf get at h1
  obtain ⟨y, hy, he⟩ := Option.map_eq_some_iff.1 h1
  have h2 := List.find?_some hy
  have h3 := List.mem_of_find?_eq_some hy
  have h4 : y.1 = x.1 := by simpa using h2
  have h5 : y = x := Prod.ext h4 he
  rw [← h5]
  simpa using h3
theorem get_ext {l m : List R} (hl : Sorted l) (hm : Sorted m) (h : ∀ k, get l k = get m k) : l = m :=
  sorted_ext hl hm fun x => by rw [show x = (x.1, x.2) from rfl, ← get_some hl, ← get_some hm, h]
theorem place_end : ∀ {l : List R} {k : Txt}, (∀ x ∈ l, lt x.1 k = true) → place l k = l.length
  | [], _, _ => rfl
  | r :: l, k, h => by rw [place, if_pos (h r (by simp)), place_end (fun x hx => h x (by simp [hx])), List.length_cons]
theorem del_none {l : List R} {k : Txt} (h : ∀ x ∈ l, x.1 ≠ k) : del l k = l := List.filter_eq_self.2 (fun x hx => by simpa using h x hx)
theorem put_end {l : List R} {k v : Txt} (h : ∀ x ∈ l, lt x.1 k = true) : put l k v = l ++ [(k, v)] := by
  unfold put ins
  rw [del_none (fun x hx => lt_ne (h x hx)), place_end h, List.take_length, List.drop_length]
theorem ofL_id : ∀ (l : List R), Sorted l → ofL l = l := by
  intro l h
  generalize hr : l.reverse = rev
  induction rev generalizing l with
  | nil =>
    obtain rfl : l = [] := by simpa using hr
    rfl
  | cons a rev ih =>
    obtain rfl : l = rev.reverse ++ [a] := by simpa using congrArg List.reverse hr
    obtain ⟨h1, _, h3⟩ := List.pairwise_append.1 h
    rw [ofL_snoc, ih rev.reverse h1 (by simp), put_end (fun x hx => h3 x hx a (by simp))]
theorem lastOf_sorted {l : List R} (h : Sorted l) (k : Txt) : lastOf l k = get l k := by rw [← get_ofL, ofL_id l h]
theorem lastOf_ofL (rows : List R) (k : Txt) : lastOf (ofL rows) k = lastOf rows k := by rw [lastOf_sorted (ofL_sorted rows), get_ofL]
theorem lastOf_snoc (l : List R) (r : R) (k : Txt) : lastOf (l ++ [r]) k = if r.1 = k then some r.2 else lastOf l k := by
  unfold lastOf get
  rw [List.reverse_append]
  simp only [List.reverse_cons, List.reverse_nil, List.nil_append, List.singleton_append, List.find?_cons]
  by_cases h : r.1 = k
  · simp [h]
  · have e : (r.1 == k) = false := by simpa using h
    simp only [e, if_neg h]
theorem lastOf_append (l m : List R) (k : Txt) : lastOf (l ++ m) k = (lastOf m k).or (lastOf l k) := by
  unfold lastOf get
  rw [List.reverse_append, List.find?_append]
  cases m.reverse.find? (fun r => r.1 == k) <;> simp
theorem ofL_join (l m : List R) : ofL (l ++ m) = ofL (ofL l ++ ofL m) :=
  get_ext (ofL_sorted _) (ofL_sorted _) fun k => by rw [get_ofL, get_ofL, lastOf_append, lastOf_append, lastOf_ofL, lastOf_ofL]
end Go.Proofs.YtffjleceogablaaDoor.Tb

namespace Go.Proofs.YtffjleceogablaaDoor.Bt
open Go.Proofs.YtffjleceogablaaDoor.Tb
set_option maxRecDepth 100000

/-! ### Ops -/
structure O where
  del : Bool
  key : Txt
  val : Txt
def clean (o : O) : O := ⟨o.del, o.key, if o.del then [] else o.val⟩
/-- An op as a row: the last word on a key. -/
def code (o : O) : R := (o.key, if o.del then [1] else 0 :: o.val)
def isDel (v : Txt) : Bool := v.head? == some 1
def dec (r : R) : O := ⟨isDel r.2, r.1, if isDel r.2 then [] else r.2.tail⟩
theorem dec_code (o : O) : dec (code o) = clean o := by
  obtain ⟨d, k, v⟩ := o
  cases d <;> rfl
theorem code_clean (o : O) : code (clean o) = code o := by
  obtain ⟨d, k, v⟩ := o
  cases d <;> rfl
theorem code_dec_code (o : O) : code (dec (code o)) = code o := by rw [dec_code, code_clean]
theorem clean_clean (o : O) : clean (clean o) = clean o := by
  obtain ⟨d, k, v⟩ := o
  cases d <;> rfl
def codes (ops : List O) : List R := ops.map code
def normal (ops : List O) : List O := (ofL (codes ops)).map dec
/-- The normal form. -/
structure Norm (ops : List O) : Prop where
  rise : Sorted (codes ops)
  clean : ∀ o ∈ ops, clean o = o
theorem codes_normal (ops : List O) : codes (normal ops) = ofL (codes ops) := by
  unfold normal codes
  rw [List.map_map]
  conv => rhs; rw [← List.map_id (ofL (ops.map code))]
  refine List.map_congr_left fun x hx => ?_
  obtain ⟨o, _, rfl⟩ := List.mem_map.1 (ofL_sub _ x hx)
  exact code_dec_code o
theorem normal_mem {ops : List O} {o : O} (h : o ∈ normal ops) : ∃ p ∈ ops, clean p = o := by
  obtain ⟨r, hr, rfl⟩ := List.mem_map.1 h
  obtain ⟨p, hp, rfl⟩ := List.mem_map.1 (ofL_sub _ r hr)
  exact ⟨p, hp, (dec_code p).symm⟩
theorem normal_norm (ops : List O) : Norm (normal ops) := ⟨by rw [codes_normal]; exact ofL_sorted _, fun o ho => by
  obtain ⟨p, _, rfl⟩ := normal_mem ho
  exact clean_clean p⟩
theorem Norm.dec {ops : List O} (h : Norm ops) : (codes ops).map dec = ops := by
  unfold codes
  rw [List.map_map]
  conv => rhs; rw [← List.map_id ops]
  exact List.map_congr_left fun o ho => (dec_code o).trans (h.clean o ho)
theorem Norm.same {ops : List O} (h : Norm ops) : normal ops = ops := by
  unfold normal
  rw [ofL_id _ h.rise, h.dec]
theorem normal_normal (ops : List O) : normal (normal ops) = normal ops := (normal_norm ops).same
theorem Norm.ext {a b : List O} (ha : Norm a) (hb : Norm b) (h : ∀ o, o ∈ a ↔ o ∈ b) : a = b := by
  have e : codes a = codes b := sorted_ext ha.rise hb.rise fun x => by
    unfold codes
    simp only [List.mem_map]
    exact ⟨fun ⟨o, ho, e⟩ => ⟨o, (h o).1 ho, e⟩, fun ⟨o, ho, e⟩ => ⟨o, (h o).2 ho, e⟩⟩
  rw [← ha.dec, ← hb.dec, e]
theorem normal_length (ops : List O) : (normal ops).length ≤ ops.length := by
  have := ofL_length (codes ops)
  simpa [normal, codes] using this
theorem codes_append (a b : List O) : codes (a ++ b) = codes a ++ codes b := List.map_append
/-- Two lists, one behind the other. -/
theorem normal_join (a b : List O) : normal (a ++ b) = normal (normal a ++ normal b) := by
  unfold normal
  rw [codes_append, codes_append]
  have e1 := codes_normal a
  have e2 := codes_normal b
  unfold normal at e1 e2
  rw [e1, e2, ← ofL_join]
theorem normal_join_length (a b : List O) : (normal (a ++ b)).length ≤ (normal a).length + (normal b).length := by
  rw [normal_join]
  have := normal_length (normal a ++ normal b)
  simpa using this

/-! ### Done to rows -/
def doOp (l : List R) (o : O) : List R := if o.del then Tb.del l o.key else put l o.key o.val
def apply (l : List R) (ops : List O) : List R := ops.foldl doOp l
theorem doOp_sorted {l : List R} (h : Sorted l) (o : O) : Sorted (doOp l o) := by
  unfold doOp
  split
  · exact del_sorted h _
  · exact put_sorted h _ _
theorem apply_snoc (l : List R) (ops : List O) (o : O) : apply l (ops ++ [o]) = doOp (apply l ops) o := by simp [apply]
theorem apply_append (l : List R) (a b : List O) : apply l (a ++ b) = apply (apply l a) b := by simp [apply]
theorem apply_sorted : ∀ (ops : List O) {l : List R}, Sorted l → Sorted (apply l ops)
  | [], _, h => h
  | o :: ops, _, h => apply_sorted ops (doOp_sorted h o)
theorem get_doOp {l : List R} (h : Sorted l) (o : O) (k : Txt) : get (doOp l o) k = if o.key = k then (if o.del then none else some o.val) else get l k := by
  unfold doOp
  by_cases hk : o.key = k
  · subst hk
    rw [if_pos rfl]
    split
    · rw [get_del h, if_pos rfl]
    · exact get_put_same h _ _
  · rw [if_neg hk]
    split
    · rw [get_del h, if_neg (fun e => hk e.symm)]
    · exact get_put_other h (fun e => hk e.symm)
/-- What the last word on a key makes of it. -/
def word (was : Option Txt) : Option Txt → Option Txt
  | none => was
  | some c => if isDel c then none else some c.tail
theorem get_apply {l : List R} (h : Sorted l) (ops : List O) (k : Txt) : get (apply l ops) k = word (get l k) (lastOf (codes ops) k) := by
  generalize hr : ops.reverse = rev
  induction rev generalizing ops with
  | nil =>
    obtain rfl : ops = [] := by simpa using hr
    rfl
  | cons a rev ih =>
    obtain rfl : ops = rev.reverse ++ [a] := by simpa using congrArg List.reverse hr
    rw [apply_snoc, get_doOp (apply_sorted _ h), codes_append, show codes [a] = [code a] from rfl, lastOf_snoc]
    by_cases hk : a.key = k
    · rw [if_pos hk, if_pos (show (code a).1 = k from hk)]
      obtain ⟨d, k', v⟩ := a
      cases d <;> rfl
    · rw [if_neg hk, if_neg (show ¬ (code a).1 = k from hk)]
      exact ih rev.reverse (by simp)
/-- Normal of a batch does to every table what the batch does. -/
theorem apply_normal {l : List R} (h : Sorted l) (ops : List O) : apply l (normal ops) = apply l ops :=
  get_ext (apply_sorted _ h) (apply_sorted _ h) fun k => by rw [get_apply h, get_apply h, codes_normal, lastOf_ofL]
/-- Rows put one by one are a table of them. -/
theorem ofL_puts (rows : List R) : apply [] (rows.map fun r => ⟨false, r.1, r.2⟩) = ofL rows := by
  unfold apply ofL
  rw [List.foldl_map]
  rfl
/-- What a batch in normal form leaves of its keys. -/
theorem Norm.get {ops : List O} (hn : Norm ops) {l : List R} (h : Sorted l) {o : O} (ho : o ∈ ops) : Tb.get (apply l ops) o.key = if o.del then none else some o.val := by
  rw [get_apply h, lastOf_sorted hn.rise, (get_some hn.rise (k := o.key) (v := (code o).2)).2 (List.mem_map.2 ⟨o, ho, rfl⟩)]
  obtain ⟨d, k, v⟩ := o
  cases d <;> rfl
/-- Neighbours' keys rise. -/
theorem Norm.next {ops : List O} (hn : Norm ops) {k : Nat} {a b : O} (ha : ops[k]? = some a) (hb : ops[k + 1]? = some b) : lt a.key b.key = true :=
  sorted_next hn.rise (k := k) (a := code a) (b := code b) (by simp [codes, ha]) (by simp [codes, hb])

/-! ### Between two tables -/
def between : List R → List R → List O
  | [], [] => []
  | [], y :: b => ⟨false, y.1, y.2⟩ :: between [] b
  | x :: a, [] => ⟨true, x.1, []⟩ :: between a []
  | x :: a, y :: b => if lt x.1 y.1 then ⟨true, x.1, []⟩ :: between a (y :: b) else if lt y.1 x.1 then ⟨false, y.1, y.2⟩ :: between (x :: a) b else
    if x.2 = y.2 then between a b else ⟨false, y.1, y.2⟩ :: between a b
termination_by a b => a.length + b.length
/-- What it holds. -/
def Lies (a b : List R) (o : O) : Prop := (o.del = true ∧ o.val = [] ∧ (∃ v, (o.key, v) ∈ a) ∧ ∀ y ∈ b, y.1 ≠ o.key) ∨ (o.del = false ∧ (o.key, o.val) ∈ b ∧ (o.key, o.val) ∉ a)
theorem sorted_head {x : R} {l : List R} (h : Sorted (x :: l)) : (∀ y ∈ l, lt x.1 y.1 = true) ∧ Sorted l := List.pairwise_cons.1 h
theorem lies_nil (o : O) : ¬ Lies [] [] o := by
  rintro (⟨_, _, ⟨_, h⟩, _⟩ | ⟨_, h, _⟩) <;> cases h
theorem lies_left {x : R} {a b : List R} (_ : ∀ y ∈ a, lt x.1 y.1 = true) (hb : ∀ y ∈ b, lt x.1 y.1 = true) (o : O) : Lies (x :: a) b o ↔ o = ⟨true, x.1, []⟩ ∨ Lies a b o := by
  obtain ⟨d, k, v⟩ := o
  unfold Lies
  simp only [List.mem_cons, O.mk.injEq]
  constructor
  · rintro (⟨rfl, rfl, ⟨u, hu⟩, h2⟩ | ⟨rfl, h1, h2⟩)
    · rcases hu with hu | hu
      · exact .inl ⟨rfl, (Prod.mk.inj (show (k, u) = (x.1, x.2) from hu)).1, rfl⟩
      · exact .inr (.inl ⟨rfl, rfl, ⟨u, hu⟩, h2⟩)
    · exact .inr (.inr ⟨rfl, h1, fun h => h2 (.inr h)⟩)
  · rintro (⟨rfl, rfl, rfl⟩ | ⟨rfl, rfl, ⟨u, hu⟩, h2⟩ | ⟨rfl, h1, h2⟩)
    · exact .inl ⟨rfl, rfl, ⟨x.2, .inl rfl⟩, fun y hy e => lt_ne (hb y hy) e.symm⟩
    · exact .inl ⟨rfl, rfl, ⟨u, .inr hu⟩, h2⟩
    · refine .inr ⟨rfl, h1, ?_⟩
      rintro (h | h)
      · have h3 : k = x.1 := (Prod.mk.inj (show (k, v) = (x.1, x.2) from h)).1
        exact lt_ne (hb _ h1) h3.symm
      · exact h2 h
theorem lies_right {y : R} {a b : List R} (hy : ∀ x ∈ b, lt y.1 x.1 = true) (ha : ∀ x ∈ a, lt y.1 x.1 = true) (o : O) : Lies a (y :: b) o ↔ o = ⟨false, y.1, y.2⟩ ∨ Lies a b o := by
  obtain ⟨d, k, v⟩ := o
  unfold Lies
  simp only [List.mem_cons, O.mk.injEq]
  constructor
  · rintro (⟨rfl, rfl, ⟨u, hu⟩, h2⟩ | ⟨rfl, h1, h2⟩)
    · exact .inr (.inl ⟨rfl, rfl, ⟨u, hu⟩, fun z hz => h2 z (.inr hz)⟩)
    · rcases h1 with h1 | h1
      · obtain ⟨rfl, rfl⟩ := Prod.mk.inj (show (k, v) = (y.1, y.2) from h1)
        exact .inl ⟨rfl, rfl, rfl⟩
      · exact .inr (.inr ⟨rfl, h1, h2⟩)
  · rintro (⟨rfl, rfl, rfl⟩ | ⟨rfl, rfl, ⟨u, hu⟩, h2⟩ | ⟨rfl, h1, h2⟩)
    · exact .inr ⟨rfl, .inl rfl, fun h => lt_ne (ha _ h) rfl⟩
    · refine .inl ⟨rfl, rfl, ⟨u, hu⟩, ?_⟩
      rintro z (rfl | hz)
      · exact lt_ne (ha _ hu)
      · exact h2 z hz
    · exact .inr ⟨rfl, .inr h1, h2⟩
theorem lies_both {x y : R} {a b : List R} (he : x.1 = y.1) (hx : ∀ z ∈ a, lt x.1 z.1 = true) (hy : ∀ z ∈ b, lt y.1 z.1 = true) (o : O) : Lies (x :: a) (y :: b) o ↔ (x.2 ≠ y.2 ∧ o = ⟨false, y.1, y.2⟩) ∨ Lies a b o := by
  obtain ⟨d, k, v⟩ := o
  unfold Lies
  simp only [List.mem_cons, O.mk.injEq]
  constructor
  · rintro (⟨rfl, rfl, ⟨u, hu⟩, h2⟩ | ⟨rfl, h1, h2⟩)
    · rcases hu with hu | hu
      · exact absurd (show y.1 = k by rw [← he]; exact ((Prod.mk.inj (show (k, u) = (x.1, x.2) from hu)).1).symm) (h2 y (.inl rfl))
      · exact .inr (.inl ⟨rfl, rfl, ⟨u, hu⟩, fun z hz => h2 z (.inr hz)⟩)
    · rcases h1 with h1 | h1
      · obtain ⟨rfl, rfl⟩ := Prod.mk.inj (show (k, v) = (y.1, y.2) from h1)
        exact .inl ⟨fun e => h2 (.inl (Prod.ext he.symm e.symm)), rfl, rfl, rfl⟩
      · exact .inr (.inr ⟨rfl, h1, fun h => h2 (.inr h)⟩)
  · rintro (⟨hne, rfl, rfl, rfl⟩ | ⟨rfl, rfl, ⟨u, hu⟩, h2⟩ | ⟨rfl, h1, h2⟩)
    · refine .inr ⟨rfl, .inl rfl, ?_⟩
      rintro (h | h)
      · exact hne ((congrArg Prod.snd (show (y.1, y.2) = x from h)).symm)
      · have := hx _ h
        rw [he, lt_irrefl] at this
        cases this
    · refine .inl ⟨rfl, rfl, ⟨u, .inr hu⟩, ?_⟩
      rintro z (rfl | hz)
      · rw [← he]
        exact lt_ne (hx _ hu)
      · exact h2 z hz
    · refine .inr ⟨rfl, .inr h1, ?_⟩
      rintro (h | h)
      · have h3 : k = x.1 := (Prod.mk.inj (show (k, v) = (x.1, x.2) from h)).1
        have h4 := hy _ h1
        simp only [h3, he, lt_irrefl] at h4
        cases h4
      · exact h2 h
theorem between_mem : ∀ (a b : List R), Sorted a → Sorted b → ∀ o, o ∈ between a b ↔ Lies a b o
  | [], [], _, _, o => by rw [between]; exact ⟨fun h => (by cases h), fun h => absurd h (lies_nil o)⟩
  | [], y :: b, ha, hb, o => by
    rw [between, List.mem_cons, between_mem [] b ha (sorted_head hb).2, lies_right (sorted_head hb).1 (fun _ h => by cases h)]
  | x :: a, [], ha, hb, o => by
    rw [between, List.mem_cons, between_mem a [] (sorted_head ha).2 hb, lies_left (sorted_head ha).1 (fun _ h => by cases h)]
  | x :: a, y :: b, ha, hb, o => by
    rw [between]
    obtain ⟨a1, a2⟩ := sorted_head ha
    obtain ⟨b1, b2⟩ := sorted_head hb
    split
    · rename_i h
      rw [List.mem_cons, between_mem a (y :: b) a2 hb, lies_left a1 (fun z hz => by
        rcases List.mem_cons.1 hz with rfl | hz
        · exact h
        · exact lt_trans h (b1 z hz))]
    · rename_i h
      split
      · rename_i h2
        rw [List.mem_cons, between_mem (x :: a) b ha b2, lies_right b1 (fun z hz => by
          rcases List.mem_cons.1 hz with rfl | hz
          · exact h2
          · exact lt_trans h2 (a1 z hz))]
      · rename_i h2
        have he : x.1 = y.1 := lt_total (by simpa using h) (by simpa using h2)
        split
        · rename_i h3
          rw [between_mem a b a2 b2, lies_both he a1 b1]
          simp [h3]
        · rename_i h3
          rw [List.mem_cons, between_mem a b a2 b2, lies_both he a1 b1]
          simp [h3]
termination_by a b => a.length + b.length
theorem between_keys {a b : List R} (ha : Sorted a) (hb : Sorted b) {o : O} (h : o ∈ between a b) : (∃ v, (o.key, v) ∈ a) ∨ ∃ v, (o.key, v) ∈ b := by
  rcases (between_mem a b ha hb o).1 h with ⟨_, _, h, _⟩ | ⟨_, h, _⟩
  · exact .inl h
  · exact .inr ⟨_, h⟩
theorem rise_cons {o : O} {l : List O} (h1 : ∀ p ∈ l, lt o.key p.key = true) (h2 : Sorted (codes l)) : Sorted (codes (o :: l)) := List.pairwise_cons.2 ⟨fun r hr => by
  obtain ⟨p, hp, rfl⟩ := List.mem_map.1 hr
  exact h1 p hp, h2⟩
theorem between_rise : ∀ (a b : List R), Sorted a → Sorted b → Sorted (codes (between a b))
  | [], [], _, _ => by rw [between]; exact List.Pairwise.nil
  | [], y :: b, ha, hb => by
    rw [between]
    refine rise_cons (fun p hp => ?_) (between_rise [] b ha (sorted_head hb).2)
    rcases between_keys ha (sorted_head hb).2 hp with ⟨_, h⟩ | ⟨_, h⟩
    · cases h
    · exact (sorted_head hb).1 _ h
  | x :: a, [], ha, hb => by
    rw [between]
    refine rise_cons (fun p hp => ?_) (between_rise a [] (sorted_head ha).2 hb)
    rcases between_keys (sorted_head ha).2 hb hp with ⟨_, h⟩ | ⟨_, h⟩
    · exact (sorted_head ha).1 _ h
    · cases h
  | x :: a, y :: b, ha, hb => by
    rw [between]
    obtain ⟨a1, a2⟩ := sorted_head ha
    obtain ⟨b1, b2⟩ := sorted_head hb
    split
    · rename_i h
      refine rise_cons (fun p hp => ?_) (between_rise a (y :: b) a2 hb)
      rcases between_keys a2 hb hp with ⟨_, q⟩ | ⟨_, q⟩
      · exact a1 _ q
      · rcases List.mem_cons.1 q with q | q
        · have e : p.key = y.1 := congrArg Prod.fst q
          rw [e]; exact h
        · exact lt_trans h (b1 _ q)
    · rename_i h
      split
      · rename_i h2
        refine rise_cons (fun p hp => ?_) (between_rise (x :: a) b ha b2)
        rcases between_keys ha b2 hp with ⟨_, q⟩ | ⟨_, q⟩
        · rcases List.mem_cons.1 q with q | q
          · have e : p.key = x.1 := congrArg Prod.fst q
            rw [e]; exact h2
          · exact lt_trans h2 (a1 _ q)
        · exact b1 _ q
      · rename_i h2
        have he : x.1 = y.1 := lt_total (by simpa using h) (by simpa using h2)
        split
        · exact between_rise a b a2 b2
        · refine rise_cons (fun p hp => ?_) (between_rise a b a2 b2)
          rcases between_keys a2 b2 hp with ⟨_, q⟩ | ⟨_, q⟩
          · have := a1 _ q
            rw [he] at this
            exact this
          · exact b1 _ q
termination_by a b => a.length + b.length
theorem between_norm {a b : List R} (ha : Sorted a) (hb : Sorted b) : Norm (between a b) := ⟨between_rise a b ha hb, fun o ho => by
  rcases (between_mem a b ha hb o).1 ho with ⟨h1, h2, _⟩ | ⟨h1, _⟩
  · obtain ⟨d, k, v⟩ := o
    subst h1 h2
    rfl
  · obtain ⟨d, k, v⟩ := o
    subst h1
    rfl⟩
/-- Whatever finds just what lies between, in normal form, finds it. -/
theorem between_ext {a b : List R} (ha : Sorted a) (hb : Sorted b) {l : List O} (hl : Norm l) (h : ∀ o, o ∈ l ↔ Lies a b o) : l = between a b :=
  hl.ext (between_norm ha hb) fun o => by rw [h, between_mem a b ha hb]
theorem between_self {a : List R} (ha : Sorted a) : between a a = [] := by
  refine List.eq_nil_iff_forall_not_mem.2 fun o ho => ?_
  rcases (between_mem a a ha ha o).1 ho with ⟨_, _, ⟨v, h⟩, hn⟩ | ⟨_, h, hn⟩
  · exact hn _ h rfl
  · exact hn h
theorem between_apply {a b : List R} (ha : Sorted a) (hb : Sorted b) : apply a (between a b) = b := by
  have hn := between_norm ha hb
  refine get_ext (apply_sorted _ ha) hb fun k => ?_
  rw [get_apply ha, lastOf_sorted hn.rise]
  cases e : get (codes (between a b)) k with
  | some c =>
    obtain ⟨o, ho, hc⟩ := List.mem_map.1 ((get_some hn.rise).1 e)
    have hk : o.key = k := congrArg Prod.fst hc
    have hv : (code o).2 = c := congrArg Prod.snd hc
    subst hk hv
    rcases (between_mem a b ha hb o).1 ho with ⟨h1, h2, _, h4⟩ | ⟨h1, h2, _⟩
    · obtain ⟨d, k, v⟩ := o
      subst h1
      exact (get_none.2 h4).symm
    · obtain ⟨d, k, v⟩ := o
      subst h1
      exact ((get_some hb).2 h2).symm
  | none =>
    show get a k = get b k
    have hno : ∀ o ∈ between a b, o.key ≠ k := fun o ho => get_none.1 e (code o) (List.mem_map.2 ⟨o, ho, rfl⟩)
    cases eb : get b k with
    | some w =>
      have hb1 := (get_some hb).1 eb
      have : (k, w) ∈ a := Classical.byContradiction fun hna => hno ⟨false, k, w⟩ ((between_mem a b ha hb _).2 (.inr ⟨rfl, hb1, hna⟩)) rfl
      exact (get_some ha).2 this
    | none =>
      cases ea : get a k with
      | none => rfl
      | some v => exact absurd rfl (hno ⟨true, k, []⟩ ((between_mem a b ha hb _).2 (.inl ⟨rfl, rfl, ⟨v, (get_some ha).1 ea⟩, get_none.1 eb⟩)))
theorem between_length : ∀ (a b : List R), (between a b).length ≤ a.length + b.length
  | [], [] => by rw [between]; exact Nat.le_refl _
  | [], y :: b => by
    have := between_length [] b
    rw [between, List.length_cons, List.length_cons]
    simp only [List.length_nil] at *
    omega
  | x :: a, [] => by
    have := between_length a []
    rw [between, List.length_cons, List.length_cons]
    simp only [List.length_nil] at *
    omega
  | x :: a, y :: b => by
    rw [between]
    have h1 := between_length a (y :: b)
    have h2 := between_length (x :: a) b
    have h3 := between_length a b
    simp only [List.length_cons] at *
    split
    · simp only [List.length_cons]; omega
    · split
      · simp only [List.length_cons]; omega
      · split
        · omega
        · simp only [List.length_cons]; omega
termination_by a b => a.length + b.length
end Go.Proofs.YtffjleceogablaaDoor.Bt
