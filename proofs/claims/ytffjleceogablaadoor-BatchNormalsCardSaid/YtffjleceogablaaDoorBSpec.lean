/-
  Layer 12, plain: ops; their normal form; done to rows; what lies between two tables.
-/
import Derived.Test.YtffjleceogablaaDoorTSpec
namespace Go.Proofs.YtffjleceogablaaDoor.Tb
set_option maxRecDepth 100000

/-! ### More of rows by rising key -/
theorem ofL_sub (rows : List R) : ∀ x ∈ ofL rows, x ∈ rows := by
  intro x hx
  have h1 := (get_some (ofL_sorted rows) (k := x.1) (v := x.2)).2 hx
  rw [get_ofL] at h1
  unfold lastOf get at h1
  obtain ⟨y, hy, he⟩ := Option.map_eq_some_iff.1 h1
  have h2 := List.find?_some hy
  have h3 := List.mem_of_find?_eq_some hy
  have h4 : y.1 = x.1 := by simpa using h2
  have h5 : y = x := Prod.ext h4 he
  rw [← h5]
  simpa using h3
theorem get_ext {l m : List R} (hl : Sorted l) (hm : Sorted m) (h : ∀ k, get l k = get m k) : l = m :=
  sorted_ext hl hm fun x => by rw [show x = (x.1, x.2) from rfl, ← get_some hl, ← get_some hm, h]
theorem place_end : ∀ {l : List R} {k : Txt}, (∀ x ∈ l, lt x.1 k = true) → place l k = l.length
  | [], _, _ => rfl
  | r :: l, k, h => by rw [place, if_pos (h r (by simp)), place_end (fun x hx => h x (by simp [hx])), List.length_cons]
theorem del_none {l : List R} {k : Txt} (h : ∀ x ∈ l, x.1 ≠ k) : del l k = l := List.filter_eq_self.2 (fun x hx => by simpa using h x hx)
theorem put_end {l : List R} {k v : Txt} (h : ∀ x ∈ l, lt x.1 k = true) : put l k v = l ++ [(k, v)] := by
  unfold put ins
  rw [del_none (fun x hx => lt_ne (h x hx)), place_end h, List.take_length, List.drop_length]
theorem ofL_id : ∀ (l : List R), Sorted l → ofL l = l := by
  intro l h
  generalize hr : l.reverse = rev
  induction rev generalizing l with
  | nil =>
    obtain rfl : l = [] := by simpa using hr
    rfl
  | cons a rev ih =>
    obtain rfl : l = rev.reverse ++ [a] := by simpa using congrArg List.reverse hr
    obtain ⟨h1, _, h3⟩ := List.pairwise_append.1 h
    rw [ofL_snoc, ih rev.reverse h1 (by simp), put_end (fun x hx => h3 x hx a (by simp))]
theorem lastOf_sorted {l : List R} (h : Sorted l) (k : Txt) : lastOf l k = get l k := by rw [← get_ofL, ofL_id l h]
theorem lastOf_ofL (rows : List R) (k : Txt) : lastOf (ofL rows) k = lastOf rows k := by rw [lastOf_sorted (ofL_sorted rows), get_ofL]
theorem lastOf_snoc (l : List R) (r : R) (k : Txt) : lastOf (l ++ [r]) k = if r.1 = k then some r.2 else lastOf l k := by
  unfold lastOf get
  rw [List.reverse_append]
  simp only [List.reverse_cons, List.reverse_nil, List.nil_append, List.singleton_append, List.find?_cons]
  by_cases h : r.1 = k
  · simp [h]
  · have e : (r.1 == k) = false := by simpa using h
    simp only [e, if_neg h]
theorem lastOf_append (l m : List R) (k : Txt) : lastOf (l ++ m) k = (lastOf m k).or (lastOf l k) := by
  unfold lastOf get
  rw [List.reverse_append, List.find?_append]
  cases m.reverse.find? (fun r => r.1 == k) <;> simp
theorem ofL_join (l m : List R) : ofL (l ++ m) = ofL (ofL l ++ ofL m) :=
  get_ext (ofL_sorted _) (ofL_sorted _) fun k => by rw [get_ofL, get_ofL, lastOf_append, lastOf_append, lastOf_ofL, lastOf_ofL]
end Go.Proofs.YtffjleceogablaaDoor.Tb

namespace Go.Proofs.YtffjleceogablaaDoor.Bt
open Go.Proofs.YtffjleceogablaaDoor.Tb
set_option maxRecDepth 100000

/-! ### Ops -/
structure O where
  del : Bool
  key : Txt
  val : Txt
def clean (o : O) : O := ⟨o.del, o.key, if o.del then [] else o.val⟩
/-- An op as a row: the last word on a key. -/
def code (o : O) : R := (o.key, if o.del then [1] else 0 :: o.val)
def isDel (v : Txt) : Bool := v.head? == some 1
def dec (r : R) : O := ⟨isDel r.2, r.1, if isDel r.2 then [] else r.2.tail⟩
theorem dec_code (o : O) : dec (code o) = clean o := by
  obtain ⟨d, k, v⟩ := o
  cases d <;> rfl
theorem code_clean (o : O) : code (clean o) = code o := by
  obtain ⟨d, k, v⟩ := o
  cases d <;> rfl
theorem code_dec_code (o : O) : code (dec (code o)) = code o := by rw [dec_code, code_clean]
theorem clean_clean (o : O) : clean (clean o) = clean o := by
  obtain ⟨d, k, v⟩ := o
  cases d <;> rfl
def codes (ops : List O) : List R := ops.map code
def normal (ops : List O) : List O := (ofL (codes ops)).map dec
/-- The normal form. -/
structure Norm (ops : List O) : Prop where
  rise : Sorted (codes ops)
  clean : ∀ o ∈ ops, clean o = o
theorem codes_normal (ops : List O) : codes (normal ops) = ofL (codes ops) := by
  unfold normal codes
  rw [List.map_map]
  conv => rhs; rw [← List.map_id (ofL (ops.map code))]
  refine List.map_congr_left fun x hx => ?_
  obtain ⟨o, _, rfl⟩ := List.mem_map.1 (ofL_sub _ x hx)
  exact code_dec_code o
theorem normal_mem {ops : List O} {o : O} (h : o ∈ normal ops) : ∃ p ∈ ops, clean p = o := by
  obtain ⟨r, hr, rfl⟩ := List.mem_map.1 h
  obtain ⟨p, hp, rfl⟩ := List.mem_map.1 (ofL_sub _ r hr)
  exact ⟨p, hp, (dec_code p).symm⟩
theorem normal_norm (ops : List O) : Norm (normal ops) := ⟨by rw [codes_normal]; exact ofL_sorted _, fun o ho => by
  obtain ⟨p, _, rfl⟩ := normal_mem ho
  exact clean_clean p⟩
theorem Norm.dec {ops : List O} (h : Norm ops) : (codes ops).map dec = ops := by
  unfold codes
  rw [List.map_map]
  conv => rhs; rw [← List.map_id ops]
  exact List.map_congr_left fun o ho => (dec_code o).trans (h.clean o ho)
theorem Norm.same {ops : List O} (h : Norm ops) : normal ops = ops := by
  unfold normal
  rw [ofL_id _ h.rise, h.dec]
theorem normal_normal (ops : List O) : normal (normal ops) = normal ops := (normal_norm ops).same
theorem Norm.ext {a b : List O} (ha : Norm a) (hb : Norm b) (h : ∀ o, o ∈ a ↔ o ∈ b) : a = b := by
  have e : codes a = codes b := sorted_ext ha.rise hb.rise fun x => by
    unfold codes
    simp only [List.mem_map]
    exact ⟨fun ⟨o, ho, e⟩ => ⟨o, (h o).1 ho, e⟩, fun ⟨o, ho, e⟩ => ⟨o, (h o).2 ho, e⟩⟩
  rw [← ha.dec, ← hb.dec, e]
theorem normal_length (ops : List O) : (normal ops).length ≤ ops.length := by
  have := ofL_length (codes ops)
  simpa [normal, codes] using this
theorem codes_append (a b : List O) : codes (a ++ b) = codes a ++ codes b := List.map_append
/-- Two lists, one behind the other. -/
theorem normal_join (a b : List O) : normal (a ++ b) = normal (normal a ++ normal b) := by
  unfold normal
  rw [codes_append, codes_append]
  have e1 := codes_normal a
  have e2 := codes_normal b
  unfold normal at e1 e2
  rw [e1, e2, ← ofL_join]
theorem normal_join_length (a b : List O) : (normal (a ++ b)).length ≤ (normal a).length + (normal b).length := by
  rw [normal_join]
  have := normal_length (normal a ++ normal b)
  simpa using this

/-! ### Done to rows -/
def doOp (l : List R) (o : O) : List R := if o.del then Tb.del l o.key else put l o.key o.val
def apply (l : List R) (ops : List O) : List R := ops.foldl doOp l
theorem doOp_sorted {l : List R} (h : Sorted l) (o : O) : Sorted (doOp l o) := by
  unfold doOp
  split
  · exact del_sorted h _
  · exact put_sorted h _ _
theorem apply_snoc (l : List R) (ops : List O) (o : O) : apply l (ops ++ [o]) = doOp (apply l ops) o := by simp [apply]
theorem apply_append (l : List R) (a b : List O) : apply l (a ++ b) = apply (apply l a) b := by simp [apply]
theorem apply_sorted : ∀ (ops : List O) {l : List R}, Sorted l → Sorted (apply l ops)
  | [], _, h => h
  | o :: ops, _, h => apply_sorted ops (doOp_sorted h o)
theorem get_doOp {l : List R} (h : Sorted l) (o : O) (k : Txt) : get (doOp l o) k = if o.key = k then (if o.del then none else some o.val) else get l k := by
  unfold doOp
  by_cases hk : o.key = k
  · subst hk
    rw [if_pos rfl]
    split
    · rw [get_del h, if_pos rfl]
    · exact get_put_same h _ _
  · rw [if_neg hk]
    split
    · rw [get_del h, if_neg (fun e => hk e.symm)]
    · exact get_put_other h (fun e => hk e.symm)
/-- What the last word on a key makes of it. -/
def word (was : Option Txt) : Option Txt → Option Txt
  | none => was
  | some c => if isDel c then none else some c.tail
theorem get_apply {l : List R} (h : Sorted l) (ops : List O) (k : Txt) : get (apply l ops) k = word (get l k) (lastOf (codes ops) k) := by
  generalize hr : ops.reverse = rev
  induction rev generalizing ops with
  | nil =>
    obtain rfl : ops = [] := by simpa using hr
    rfl
  | cons a rev ih =>
    obtain rfl : ops = rev.reverse ++ [a] := by simpa using congrArg List.reverse hr
    rw [apply_snoc, get_doOp (apply_sorted _ h), codes_append, show codes [a] = [code a] from rfl, lastOf_snoc]
    by_cases hk : a.key = k
    · rw [if_pos hk, if_pos (show (code a).1 = k from hk)]
      obtain ⟨d, k', v⟩ := a
      cases d <;> rfl
    · rw [if_neg hk, if_neg (show ¬ (code a).1 = k from hk)]
      exact ih rev.reverse (by simp)
/-- Normal of a batch does to every table what the batch does. -/
theorem apply_normal {l : List R} (h : Sorted l) (ops : List O) : apply l (normal ops) = apply l ops :=
  get_ext (apply_sorted _ h) (apply_sorted _ h) fun k => by rw [get_apply h, get_apply h, codes_normal, lastOf_ofL]
/-- Rows put one by one are a table of them. -/
theorem ofL_puts (rows : List R) : apply [] (rows.map fun r => ⟨false, r.1, r.2⟩) = ofL rows := by
  unfold apply ofL
  rw [List.foldl_map]
  rfl
/-- What a batch in normal form leaves of its keys. -/
theorem Norm.get {ops : List O} (hn : Norm ops) {l : List R} (h : Sorted l) {o : O} (ho : o ∈ ops) : Tb.get (apply l ops) o.key = if o.del then none else some o.val := by
  rw [get_apply h, lastOf_sorted hn.rise, (get_some hn.rise (k := o.key) (v := (code o).2)).2 (List.mem_map.2 ⟨o, ho, rfl⟩)]
  obtain ⟨d, k, v⟩ := o
  cases d <;> rfl
/-- Neighbours' keys rise. -/
theorem Norm.next {ops : List O} (hn : Norm ops) {k : Nat} {a b : O} (ha : ops[k]? = some a) (hb : ops[k + 1]? = some b) : lt a.key b.key = true :=
  sorted_next hn.rise (k := k) (a := code a) (b := code b) (by simp [codes, ha]) (by simp [codes, hb])

/-! ### Between two tables -/
def between : List R → List R → List O
  | [], [] => []
  | [], y :: b => ⟨false, y.1, y.2⟩ :: between [] b
  | x :: a, [] => ⟨true, x.1, []⟩ :: between a []
  | x :: a, y :: b => if lt x.1 y.1 then ⟨true, x.1, []⟩ :: between a (y :: b) else if lt y.1 x.1 then ⟨false, y.1, y.2⟩ :: between (x :: a) b else
    if x.2 = y.2 then between a b else ⟨false, y.1, y.2⟩ :: between a b
termination_by a b => a.length + b.length
/-- What it holds. -/
def Lies (a b : List R) (o : O) : Prop := (o.del = true ∧ o.val = [] ∧ (∃ v, (o.key, v) ∈ a) ∧ ∀ y ∈ b, y.1 ≠ o.key) ∨ (o.del = false ∧ (o.key, o.val) ∈ b ∧ (o.key, o.val) ∉ a)
theorem sorted_head {x : R} {l : List R} (h : Sorted (x :: l)) : (∀ y ∈ l, lt x.1 y.1 = true) ∧ Sorted l := List.pairwise_cons.1 h
theorem lies_nil (o : O) : ¬ Lies [] [] o := by
  rintro (⟨_, _, ⟨_, h⟩, _⟩ | ⟨_, h, _⟩) <;> cases h
theorem lies_left {x : R} {a b : List R} (_ : ∀ y ∈ a, lt x.1 y.1 = true) (hb : ∀ y ∈ b, lt x.1 y.1 = true) (o : O) : Lies (x :: a) b o ↔ o = ⟨true, x.1, []⟩ ∨ Lies a b o := by
  obtain ⟨d, k, v⟩ := o
  unfold Lies
  simp only [List.mem_cons, O.mk.injEq]
  constructor
  · rintro (⟨rfl, rfl, ⟨u, hu⟩, h2⟩ | ⟨rfl, h1, h2⟩)
    · rcases hu with hu | hu
      · exact .inl ⟨rfl, (Prod.mk.inj (show (k, u) = (x.1, x.2) from hu)).1, rfl⟩
      · exact .inr (.inl ⟨rfl, rfl, ⟨u, hu⟩, h2⟩)
    · exact .inr (.inr ⟨rfl, h1, fun h => h2 (.inr h)⟩)
  · rintro (⟨rfl, rfl, rfl⟩ | ⟨rfl, rfl, ⟨u, hu⟩, h2⟩ | ⟨rfl, h1, h2⟩)
    · exact .inl ⟨rfl, rfl, ⟨x.2, .inl rfl⟩, fun y hy e => lt_ne (hb y hy) e.symm⟩
    · exact .inl ⟨rfl, rfl, ⟨u, .inr hu⟩, h2⟩
    · refine .inr ⟨rfl, h1, ?_⟩
      rintro (h | h)
      · have h3 : k = x.1 := (Prod.mk.inj (show (k, v) = (x.1, x.2) from h)).1
        exact lt_ne (hb _ h1) h3.symm
      · exact h2 h
theorem lies_right {y : R} {a b : List R} (hy : ∀ x ∈ b, lt y.1 x.1 = true) (ha : ∀ x ∈ a, lt y.1 x.1 = true) (o : O) : Lies a (y :: b) o ↔ o = ⟨false, y.1, y.2⟩ ∨ Lies a b o := by
  obtain ⟨d, k, v⟩ := o
  unfold Lies
  simp only [List.mem_cons, O.mk.injEq]
  constructor
  · rintro (⟨rfl, rfl, ⟨u, hu⟩, h2⟩ | ⟨rfl, h1, h2⟩)
    · exact .inr (.inl ⟨rfl, rfl, ⟨u, hu⟩, fun z hz => h2 z (.inr hz)⟩)
    · rcases h1 with h1 | h1
      · obtain ⟨rfl, rfl⟩ := Prod.mk.inj (show (k, v) = (y.1, y.2) from h1)
        exact .inl ⟨rfl, rfl, rfl⟩
      · exact .inr (.inr ⟨rfl, h1, h2⟩)
  · rintro (⟨rfl, rfl, rfl⟩ | ⟨rfl, rfl, ⟨u, hu⟩, h2⟩ | ⟨rfl, h1, h2⟩)
    · exact .inr ⟨rfl, .inl rfl, fun h => lt_ne (ha _ h) rfl⟩
    · refine .inl ⟨rfl, rfl, ⟨u, hu⟩, ?_⟩
      rintro z (rfl | hz)
      · exact lt_ne (ha _ hu)
      · exact h2 z hz
    · exact .inr ⟨rfl, .inr h1, h2⟩
theorem lies_both {x y : R} {a b : List R} (he : x.1 = y.1) (hx : ∀ z ∈ a, lt x.1 z.1 = true) (hy : ∀ z ∈ b, lt y.1 z.1 = true) (o : O) : Lies (x :: a) (y :: b) o ↔ (x.2 ≠ y.2 ∧ o = ⟨false, y.1, y.2⟩) ∨ Lies a b o := by
  obtain ⟨d, k, v⟩ := o
  unfold Lies
  simp only [List.mem_cons, O.mk.injEq]
  constructor
  · rintro (⟨rfl, rfl, ⟨u, hu⟩, h2⟩ | ⟨rfl, h1, h2⟩)
    · rcases hu with hu | hu
      · exact absurd (show y.1 = k by rw [← he]; exact ((Prod.mk.inj (show (k, u) = (x.1, x.2) from hu)).1).symm) (h2 y (.inl rfl))
      · exact .inr (.inl ⟨rfl, rfl, ⟨u, hu⟩, fun z hz => h2 z (.inr hz)⟩)
    · rcases h1 with h1 | h1
      · obtain ⟨rfl, rfl⟩ := Prod.mk.inj (show (k, v) = (y.1, y.2) from h1)
        exact .inl ⟨fun e => h2 (.inl (Prod.ext he.symm e.symm)), rfl, rfl, rfl⟩
      · exact .inr (.inr ⟨rfl, h1, fun h => h2 (.inr h)⟩)
  · rintro (⟨hne, rfl, rfl, rfl⟩ | ⟨rfl, rfl, ⟨u, hu⟩, h2⟩ | ⟨rfl, h1, h2⟩)
    · refine .inr ⟨rfl, .inl rfl, ?_⟩
      rintro (h | h)
      · exact hne ((congrArg Prod.snd (show (y.1, y.2) = x from h)).symm)
      · have := hx _ h
        rw [he, lt_irrefl] at this
        cases this
    · refine .inl ⟨rfl, rfl, ⟨u, .inr hu⟩, ?_⟩
      rintro z (rfl | hz)
      · rw [← he]
        exact lt_ne (hx _ hu)
      · exact h2 z hz
    · refine .inr ⟨rfl, .inr h1, ?_⟩
      rintro (h | h)
      · have h3 : k = x.1 := (Prod.mk.inj (show (k, v) = (x.1, x.2) from h)).1
        have h4 := hy _ h1
        simp only [h3, he, lt_irrefl] at h4
        cases h4
      · exact h2 h
theorem between_mem : ∀ (a b : List R), Sorted a → Sorted b → ∀ o, o ∈ between a b ↔ Lies a b o
  | [], [], _, _, o => by rw [between]; exact ⟨fun h => (by cases h), fun h => absurd h (lies_nil o)⟩
  | [], y :: b, ha, hb, o => by
    rw [between, List.mem_cons, between_mem [] b ha (sorted_head hb).2, lies_right (sorted_head hb).1 (fun _ h => by cases h)]
  | x :: a, [], ha, hb, o => by
    rw [between, List.mem_cons, between_mem a [] (sorted_head ha).2 hb, lies_left (sorted_head ha).1 (fun _ h => by cases h)]
  | x :: a, y :: b, ha, hb, o => by
    rw [between]
    obtain ⟨a1, a2⟩ := sorted_head ha
    obtain ⟨b1, b2⟩ := sorted_head hb
    split
    · rename_i h
      rw [List.mem_cons, between_mem a (y :: b) a2 hb, lies_left a1 (fun z hz => by
        rcases List.mem_cons.1 hz with rfl | hz
        · exact h
        · exact lt_trans h (b1 z hz))]
    · rename_i h
      split
      · rename_i h2
        rw [List.mem_cons, between_mem (x :: a) b ha b2, lies_right b1 (fun z hz => by
          rcases List.mem_cons.1 hz with rfl | hz
          · exact h2
          · exact lt_trans h2 (a1 z hz))]
      · rename_i h2
        have he : x.1 = y.1 := lt_total (by simpa using h) (by simpa using h2)
        split
        · rename_i h3
          rw [between_mem a b a2 b2, lies_both he a1 b1]
          simp [h3]
        · rename_i h3
          rw [List.mem_cons, between_mem a b a2 b2, lies_both he a1 b1]
          simp [h3]
termination_by a b => a.length + b.length
theorem between_keys {a b : List R} (ha : Sorted a) (hb : Sorted b) {o : O} (h : o ∈ between a b) : (∃ v, (o.key, v) ∈ a) ∨ ∃ v, (o.key, v) ∈ b := by
  rcases (between_mem a b ha hb o).1 h with ⟨_, _, h, _⟩ | ⟨_, h, _⟩
  · exact .inl h
  · exact .inr ⟨_, h⟩
theorem rise_cons {o : O} {l : List O} (h1 : ∀ p ∈ l, lt o.key p.key = true) (h2 : Sorted (codes l)) : Sorted (codes (o :: l)) := List.pairwise_cons.2 ⟨fun r hr => by
  obtain ⟨p, hp, rfl⟩ := List.mem_map.1 hr
  exact h1 p hp, h2⟩
theorem between_rise : ∀ (a b : List R), Sorted a → Sorted b → Sorted (codes (between a b))
  | [], [], _, _ => by rw [between]; exact List.Pairwise.nil
  | [], y :: b, ha, hb => by
    rw [between]
    refine rise_cons (fun p hp => ?_) (between_rise [] b ha (sorted_head hb).2)
    rcases between_keys ha (sorted_head hb).2 hp with ⟨_, h⟩ | ⟨_, h⟩
    · cases h
    · exact (sorted_head hb).1 _ h
  | x :: a, [], ha, hb => by
    rw [between]
    refine rise_cons (fun p hp => ?_) (between_rise a [] (sorted_head ha).2 hb)
    rcases between_keys (sorted_head ha).2 hb hp with ⟨_, h⟩ | ⟨_, h⟩
    · exact (sorted_head ha).1 _ h
    · cases h
  | x :: a, y :: b, ha, hb => by
    rw [between]
    obtain ⟨a1, a2⟩ := sorted_head ha
    obtain ⟨b1, b2⟩ := sorted_head hb
    split
    · rename_i h
      refine rise_cons (fun p hp => ?_) (between_rise a (y :: b) a2 hb)
      rcases between_keys a2 hb hp with ⟨_, q⟩ | ⟨_, q⟩
      · exact a1 _ q
      · rcases List.mem_cons.1 q with q | q
        · have e : p.key = y.1 := congrArg Prod.fst q
          rw [e]; exact h
        · exact lt_trans h (b1 _ q)
    · rename_i h
      split
      · rename_i h2
        refine rise_cons (fun p hp => ?_) (between_rise (x :: a) b ha b2)
        rcases between_keys ha b2 hp with ⟨_, q⟩ | ⟨_, q⟩
        · rcases List.mem_cons.1 q with q | q
          · have e : p.key = x.1 := congrArg Prod.fst q
            rw [e]; exact h2
          · exact lt_trans h2 (a1 _ q)
        · exact b1 _ q
      · rename_i h2
        have he : x.1 = y.1 := lt_total (by simpa using h) (by simpa using h2)
        split
        · exact between_rise a b a2 b2
        · refine rise_cons (fun p hp => ?_) (between_rise a b a2 b2)
          rcases between_keys a2 b2 hp with ⟨_, q⟩ | ⟨_, q⟩
          · have := a1 _ q
            rw [he] at this
            exact this
          · exact b1 _ q
termination_by a b => a.length + b.length
theorem between_norm {a b : List R} (ha : Sorted a) (hb : Sorted b) : Norm (between a b) := ⟨between_rise a b ha hb, fun o ho => by
  rcases (between_mem a b ha hb o).1 ho with ⟨h1, h2, _⟩ | ⟨h1, _⟩
  · obtain ⟨d, k, v⟩ := o
    subst h1 h2
    rfl
  · obtain ⟨d, k, v⟩ := o
    subst h1
    rfl⟩
/-- Whatever finds just what lies between, in normal form, finds it. -/
theorem between_ext {a b : List R} (ha : Sorted a) (hb : Sorted b) {l : List O} (hl : Norm l) (h : ∀ o, o ∈ l ↔ Lies a b o) : l = between a b :=
  hl.ext (between_norm ha hb) fun o => by rw [h, between_mem a b ha hb]
theorem between_self {a : List R} (ha : Sorted a) : between a a = [] := by
  refine List.eq_nil_iff_forall_not_mem.2 fun o ho => ?_
  rcases (between_mem a a ha ha o).1 ho with ⟨_, _, ⟨v, h⟩, hn⟩ | ⟨_, h, hn⟩
  · exact hn _ h rfl
  · exact hn h
theorem between_apply {a b : List R} (ha : Sorted a) (hb : Sorted b) : apply a (between a b) = b := by
  have hn := between_norm ha hb
  refine get_ext (apply_sorted _ ha) hb fun k => ?_
  rw [get_apply ha, lastOf_sorted hn.rise]
  cases e : get (codes (between a b)) k with
  | some c =>
    obtain ⟨o, ho, hc⟩ := List.mem_map.1 ((get_some hn.rise).1 e)
    have hk : o.key = k := congrArg Prod.fst hc
    have hv : (code o).2 = c := congrArg Prod.snd hc
    subst hk hv
    rcases (between_mem a b ha hb o).1 ho with ⟨h1, h2, _, h4⟩ | ⟨h1, h2, _⟩
    · obtain ⟨d, k, v⟩ := o
      subst h1
      exact (get_none.2 h4).symm
    · obtain ⟨d, k, v⟩ := o
      subst h1
      exact ((get_some hb).2 h2).symm
  | none =>
    show get a k = get b k
    have hno : ∀ o ∈ between a b, o.key ≠ k := fun o ho => get_none.1 e (code o) (List.mem_map.2 ⟨o, ho, rfl⟩)
    cases eb : get b k with
    | some w =>
      have hb1 := (get_some hb).1 eb
      have : (k, w) ∈ a := Classical.byContradiction fun hna => hno ⟨false, k, w⟩ ((between_mem a b ha hb _).2 (.inr ⟨rfl, hb1, hna⟩)) rfl
      exact (get_some ha).2 this
    | none =>
      cases ea : get a k with
      | none => rfl
      | some v => exact absurd rfl (hno ⟨true, k, []⟩ ((between_mem a b ha hb _).2 (.inl ⟨rfl, rfl, ⟨v, (get_some ha).1 ea⟩, get_none.1 eb⟩)))
theorem between_length : ∀ (a b : List R), (between a b).length ≤ a.length + b.length
  | [], [] => by rw [between]; exact Nat.le_refl _
  | [], y :: b => by
    have := between_length [] b
    rw [between, List.length_cons, List.length_cons]
    simp only [List.length_nil] at *
    omega
  | x :: a, [] => by
    have := between_length a []
    rw [between, List.length_cons, List.length_cons]
    simp only [List.length_nil] at *
    omega
  | x :: a, y :: b => by
    rw [between]
    have h1 := between_length a (y :: b)
    have h2 := between_length (x :: a) b
    have h3 := between_length a b
    simp only [List.length_cons] at *
    split
    · simp only [List.length_cons]; omega
    · split
      · simp only [List.length_cons]; omega
      · split
        · omega
        · simp only [List.length_cons]; omega
termination_by a b => a.length + b.length
end Go.Proofs.YtffjleceogablaaDoor.Bt
