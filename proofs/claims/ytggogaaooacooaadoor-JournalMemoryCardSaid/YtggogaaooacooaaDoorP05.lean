/-
  A disk, plain: what is durable, what is under way, and what each call makes of it. No word of a dump.
  Layer 8, plain: slots over a disk: what Read tells, what Write makes of it.
-/
import Derived.Test.YtggogaaooacooaaDoorP04
import Derived.Test.YtggogaaooacooaaDoorP03
namespace Go.Proofs.YtggogaaooacooaaDoor
set_option maxRecDepth 100000

/-- A disk. -/
structure DS where
  dur : List (List UInt8)
  ways : List (Nat × List UInt8)
  armed : Int
  off : Bool
  wr : Nat
  fl : Nat
  cr : Nat

/-- A fate. -/
structure FT where
  kept : List Bool
  torn : Int
  bytes : Int

structure DS.Ok (d : DS) : Prop where
  pos : 1 ≤ d.dur.length
  le : d.dur.length ≤ 65536
  each : ∀ (i : Nat) (s : List UInt8), d.dur[i]? = some s → s.length = 256
  way : ∀ (k : Nat) (w : Nat × List UInt8), d.ways[k]? = some w → w.1 < d.dur.length ∧ w.2.length = 256
  a0 : -1 ≤ d.armed
  a1 : d.armed ≤ 9223372036854775807

/-- No call has been made so often that a count ends. -/
structure DS.Few (d : DS) : Prop where
  ways : d.ways.length ≤ 1073741824
  wr : d.wr ≤ 1152921504606846976
  fl : d.fl ≤ 1152921504606846976
  cr : d.cr ≤ 1152921504606846976

/-- The number of the last write at p. -/
def lastAt (ws : List (Nat × List UInt8)) (p : Nat) : Option Nat := (List.range ws.length).foldl (fun r k => if (ws[k]?).map (·.1) = some p then some k else r) none

theorem lastAt_nil (p : Nat) : lastAt [] p = none := rfl
theorem lastAt_snoc (ws : List (Nat × List UInt8)) (w : Nat × List UInt8) (p : Nat) : lastAt (ws ++ [w]) p = if w.1 = p then some ws.length else lastAt ws p := by
  unfold lastAt
  rw [List.length_append, List.length_singleton, List.range_succ, List.foldl_append, List.foldl_cons, List.foldl_nil]
  have hc : ∀ (l : List Nat) (r0 : Option Nat), (∀ k ∈ l, k < ws.length) → l.foldl (fun r k => if ((ws ++ [w])[k]?).map (·.1) = some p then some k else r) r0 = l.foldl (fun r k => if (ws[k]?).map (·.1) = some p then some k else r) r0 := by
    intro l
    induction l with
    | nil => intro r0 _; rfl
    | cons a l ih =>
      intro r0 h
      rw [List.foldl_cons, List.foldl_cons, List.getElem?_append_left (h a (by simp))]
      exact ih _ (fun k hk => h k (by simp [hk]))
  rw [hc _ _ (fun k hk => List.mem_range.1 hk)]
  simp

/-- What is read at p. -/
def readTo (D : List (List UInt8)) (ws : List (Nat × List UInt8)) (p : Nat) : Nat → List UInt8
  | 0 => D.getD p []
  | k + 1 => match ws[k]? with
    | some w => if w.1 = p then w.2 else readTo D ws p k
    | none => readTo D ws p k
def DS.read (d : DS) (p : Nat) : List UInt8 := readTo d.dur d.ways p d.ways.length

theorem readTo_congr (D : List (List UInt8)) {ws vs : List (Nat × List UInt8)} (p : Nat) : ∀ k, (∀ j, j < k → ws[j]? = vs[j]?) → readTo D ws p k = readTo D vs p k
  | 0, _ => rfl
  | k + 1, h => by
    unfold readTo
    rw [h k (by omega), readTo_congr D p k (fun j hj => h j (by omega))]

theorem readTo_snoc (D : List (List UInt8)) (ws : List (Nat × List UInt8)) (w : Nat × List UInt8) (p : Nat) : readTo D (ws ++ [w]) p (ws ++ [w]).length = if w.1 = p then w.2 else readTo D ws p ws.length := by
  rw [List.length_append, List.length_singleton, readTo]
  simp only [List.getElem?_concat_length]
  rw [readTo_congr D p ws.length (fun j hj => List.getElem?_append_left hj)]

theorem snocInd {α : Type} {P : List α → Prop} (h0 : P []) (h1 : ∀ l a, P l → P (l ++ [a])) (l : List α) : P l := by
  have h : ∀ n (l : List α), l.length = n → P l := by
    intro n
    induction n with
    | zero => intro l hl; rw [List.eq_nil_of_length_eq_zero hl]; exact h0
    | succ n ih =>
      intro l hl
      have hne : l ≠ [] := by rintro rfl; simp at hl
      have e := List.dropLast_concat_getLast hne
      rw [← e]
      exact h1 _ _ (ih _ (by simp; omega))
  exact h _ l rfl

/-- The read by the last write's number. -/
theorem readTo_last (D : List (List UInt8)) (ws : List (Nat × List UInt8)) (p : Nat) :
    (lastAt ws p = none → readTo D ws p ws.length = D.getD p []) ∧ (∀ k, lastAt ws p = some k → ∃ w, ws[k]? = some w ∧ readTo D ws p ws.length = w.2) := by
  refine snocInd (P := fun ws : List (Nat × List UInt8) => (lastAt ws p = none → readTo D ws p ws.length = D.getD p []) ∧ (∀ k, lastAt ws p = some k → ∃ w, ws[k]? = some w ∧ readTo D ws p ws.length = w.2)) ?_ ?_ ws
  · refine ⟨fun _ => rfl, fun k h => ?_⟩
    cases h
  · rintro l a ⟨h1, h2⟩
    rw [lastAt_snoc, readTo_snoc]
    by_cases hp : a.1 = p
    · rw [if_pos hp, if_pos hp]
      refine ⟨fun h => (by cases h), fun k h => ?_⟩
      injection h with h
      subst h
      exact ⟨a, by simp, rfl⟩
    · rw [if_neg hp, if_neg hp]
      refine ⟨h1, fun k h => ?_⟩
      obtain ⟨w, hw, e⟩ := h2 k h
      exact ⟨w, by rw [List.getElem?_append_left (List.getElem?_eq_some_iff.1 hw).1]; exact hw, e⟩

theorem lastAt_lt {ws : List (Nat × List UInt8)} {p k : Nat} (h : lastAt ws p = some k) : k < ws.length := by
  obtain ⟨w, hw, _⟩ := (readTo_last [] ws p).2 k h
  exact (List.getElem?_eq_some_iff.1 hw).1

/-- The first k writes done. -/
def flushTo (D : List (List UInt8)) (ws : List (Nat × List UInt8)) : Nat → List (List UInt8)
  | 0 => D
  | k + 1 => match ws[k]? with
    | some w => (flushTo D ws k).set w.1 w.2
    | none => flushTo D ws k

/-- How many bytes of the write of number k a crash does. -/
def FT.done (f : FT) (k : Nat) : Nat :=
  if (k : Int) = f.torn then (min (max f.bytes 0) 256).toNat else if f.kept.getD k false then 256 else 0
theorem FT.done_le (f : FT) (k : Nat) : f.done k ≤ 256 := by
  unfold FT.done
  split
  · omega
  · split <;> omega

def tornBy (old s : List UInt8) (n : Nat) : List UInt8 := s.take n ++ old.drop n
theorem tornBy_length {old s : List UInt8} {n : Nat} (h1 : old.length = 256) (h2 : s.length = 256) (hn : n ≤ 256) : (tornBy old s n).length = 256 := by
  simp [tornBy, h1, h2]; omega
theorem tornBy_all {old s : List UInt8} (h1 : old.length = 256) (h2 : s.length = 256) : tornBy old s 256 = s := by
  unfold tornBy
  rw [List.take_of_length_le (by omega), List.drop_eq_nil_of_le (by omega), List.append_nil]
theorem tornBy_zero (old s : List UInt8) : tornBy old s 0 = old := by simp [tornBy]

def crashTo (f : FT) (D : List (List UInt8)) (ws : List (Nat × List UInt8)) : Nat → List (List UInt8)
  | 0 => D
  | k + 1 => match ws[k]? with
    | some w => (crashTo f D ws k).set w.1 (tornBy ((crashTo f D ws k).getD w.1 []) w.2 (f.done k))
    | none => crashTo f D ws k

theorem flushTo_length (D : List (List UInt8)) (ws : List (Nat × List UInt8)) : ∀ k, (flushTo D ws k).length = D.length
  | 0 => rfl
  | k + 1 => by unfold flushTo; split <;> simp [flushTo_length D ws k]
theorem crashTo_length (f : FT) (D : List (List UInt8)) (ws : List (Nat × List UInt8)) : ∀ k, (crashTo f D ws k).length = D.length
  | 0 => rfl
  | k + 1 => by unfold crashTo; split <;> simp [crashTo_length f D ws k]

theorem each_set {D : List (List UInt8)} {p : Nat} {s : List UInt8} (h : ∀ (i : Nat) (t : List UInt8), D[i]? = some t → t.length = 256) (hs : s.length = 256) : ∀ (i : Nat) (t : List UInt8), (D.set p s)[i]? = some t → t.length = 256 := by
  intro i t ht
  rw [List.getElem?_set] at ht
  split at ht
  · split at ht
    · injection ht with ht; subst ht; exact hs
    · cases ht
  · exact h i t ht
theorem getD_length {D : List (List UInt8)} {p : Nat} (h : ∀ (i : Nat) (t : List UInt8), D[i]? = some t → t.length = 256) (hp : p < D.length) : (D.getD p []).length = 256 := by
  have e : D[p]? = some (D.getD p []) := by simp [List.getD, hp]
  exact h p _ e

theorem flushTo_each {D : List (List UInt8)} {ws : List (Nat × List UInt8)} (h : ∀ (i : Nat) (t : List UInt8), D[i]? = some t → t.length = 256) (hw : ∀ (k : Nat) (w : Nat × List UInt8), ws[k]? = some w → w.1 < D.length ∧ w.2.length = 256) : ∀ k, ∀ (i : Nat) (t : List UInt8), (flushTo D ws k)[i]? = some t → t.length = 256
  | 0 => h
  | k + 1 => by
    unfold flushTo
    split
    · rename_i w he
      exact each_set (flushTo_each h hw k) (hw k w he).2
    · exact flushTo_each h hw k
theorem crashTo_each {f : FT} {D : List (List UInt8)} {ws : List (Nat × List UInt8)} (h : ∀ (i : Nat) (t : List UInt8), D[i]? = some t → t.length = 256) (hw : ∀ (k : Nat) (w : Nat × List UInt8), ws[k]? = some w → w.1 < D.length ∧ w.2.length = 256) : ∀ k, ∀ (i : Nat) (t : List UInt8), (crashTo f D ws k)[i]? = some t → t.length = 256
  | 0 => h
  | k + 1 => by
    unfold crashTo
    split
    · rename_i w he
      obtain ⟨h1, h2⟩ := hw k w he
      exact each_set (crashTo_each h hw k) (tornBy_length (getD_length (crashTo_each h hw k) (by rw [crashTo_length]; exact h1)) h2 (f.done_le k))
    · exact crashTo_each h hw k

/-- The armed count behind a write or a flush at which the power does not go. -/
def dec (a : Int) : Int := if 0 < a then a - 1 else a
theorem dec_le {a : Int} (h : -1 ≤ a) : -1 ≤ dec a ∧ dec a ≤ a := by unfold dec; split <;> omega

/-! ### the calls -/
def DS.reach (d : DS) (i : Int) : Nat := if d.off then 12 else if i < 0 ∨ d.dur.length ≤ i then 6 else 0
def DS.writeE (d : DS) (i : Int) (s : List UInt8) : Nat := if d.reach i ≠ 0 then d.reach i else if s.length ≠ 256 then 7 else if d.armed = 0 then 12 else 0
def DS.writeD (d : DS) (i : Int) (s : List UInt8) : DS :=
  if d.reach i ≠ 0 then d else if s.length ≠ 256 then d else if d.armed = 0 then { d with ways := d.ways ++ [(i.toNat, s)], off := true } else { d with ways := d.ways ++ [(i.toNat, s)], armed := dec d.armed, wr := d.wr + 1 }
def DS.flushE (d : DS) : Nat := if d.off then 12 else if d.armed = 0 then 12 else 0
def DS.flushD (d : DS) : DS :=
  if d.off then d else if d.armed = 0 then { d with off := true } else { d with dur := flushTo d.dur d.ways d.ways.length, ways := [], armed := dec d.armed, fl := d.fl + 1 }
def DS.armD (d : DS) (k : Int) : DS := { d with armed := max k (-1) }
def DS.crashD (d : DS) (f : FT) : DS := { d with dur := crashTo f d.dur d.ways d.ways.length, ways := [], armed := -1, off := false, cr := d.cr + 1 }
def zeros : List UInt8 := List.replicate 256 0
def DS.newD (n : Nat) : DS := ⟨List.replicate n zeros, [], -1, false, 0, 0, 0⟩
def DS.image (d : DS) : List UInt8 := d.dur.flatten

theorem DS.reach_zero {d : DS} {i : Int} (h : d.reach i = 0) : d.off = false ∧ 0 ≤ i ∧ i < d.dur.length := by
  unfold DS.reach at h
  split at h
  · cases h
  · split at h
    · cases h
    · rename_i h1 h2
      exact ⟨by simpa using h1, by omega, by omega⟩

theorem ok_ways {n : Nat} {ws : List (Nat × List UInt8)} {w : Nat × List UInt8} (h : ∀ (k : Nat) (w : Nat × List UInt8), ws[k]? = some w → w.1 < n ∧ w.2.length = 256) (hw : w.1 < n ∧ w.2.length = 256) : ∀ (k : Nat) (v : Nat × List UInt8), (ws ++ [w])[k]? = some v → v.1 < n ∧ v.2.length = 256 := by
  intro k v hv
  by_cases hk : k < ws.length
  · rw [List.getElem?_append_left hk] at hv; exact h k v hv
  · rw [List.getElem?_append_right (by omega)] at hv
    obtain ⟨hl, e⟩ := List.getElem?_eq_some_iff.1 hv
    have : k - ws.length = 0 := by simpa using hl
    simp [this] at e
    subst e
    exact hw

theorem DS.Ok.write {d : DS} (h : d.Ok) (i : Int) (s : List UInt8) : (d.writeD i s).Ok := by
  unfold DS.writeD
  split
  · exact h
  · rename_i hr
    obtain ⟨_, h0, h1⟩ := DS.reach_zero (Decidable.not_not.1 hr)
    split
    · exact h
    · rename_i hs
      have hw := ok_ways (w := (i.toNat, s)) h.way ⟨by simp only; omega, Decidable.not_not.1 hs⟩
      have hd := dec_le h.a0
      have := h.a1
      split
      · exact ⟨h.pos, h.le, h.each, hw, h.a0, h.a1⟩
      · exact ⟨h.pos, h.le, h.each, hw, hd.1, by simp only; omega⟩
theorem DS.Ok.flush {d : DS} (h : d.Ok) : d.flushD.Ok := by
  unfold DS.flushD
  have hd := dec_le h.a0
  have := h.a1
  split
  · exact h
  · split
    · exact ⟨h.pos, h.le, h.each, h.way, h.a0, h.a1⟩
    · exact ⟨by simp only [flushTo_length]; exact h.pos, by simp only [flushTo_length]; exact h.le, flushTo_each h.each h.way _, fun k w hk => by simp at hk, hd.1, by simp only; omega⟩
theorem DS.Ok.crash {d : DS} (h : d.Ok) (f : FT) : (d.crashD f).Ok :=
  ⟨by simp only [DS.crashD, crashTo_length]; exact h.pos, by simp only [DS.crashD, crashTo_length]; exact h.le, crashTo_each h.each h.way _, fun k w hk => by simp [DS.crashD] at hk, by simp [DS.crashD], by simp [DS.crashD]⟩
theorem DS.Ok.arm {d : DS} (h : d.Ok) {k : Int} (hk : k ≤ 9223372036854775807) : (d.armD k).Ok :=
  ⟨h.pos, h.le, h.each, h.way, by simp only [DS.armD]; omega, by simp only [DS.armD]; omega⟩
theorem DS.Ok.new {n : Nat} (h1 : 1 ≤ n) (h2 : n ≤ 65536) : (DS.newD n).Ok :=
  ⟨by simp [DS.newD, h1], by simpa [DS.newD] using h2, fun i s hs => by simp [DS.newD, List.getElem?_replicate] at hs; obtain ⟨_, rfl⟩ := hs; simp [zeros], fun k w hk => by simp [DS.newD] at hk, by simp [DS.newD], by simp [DS.newD]⟩

theorem writeD_size (d : DS) (i : Int) (s : List UInt8) : (d.writeD i s).dur.length = d.dur.length := by
  unfold DS.writeD; repeat' split
  all_goals rfl
theorem flushD_size (d : DS) : d.flushD.dur.length = d.dur.length := by
  unfold DS.flushD; repeat' split
  all_goals first | rfl | exact flushTo_length _ _ _
theorem crashD_size (d : DS) (f : FT) : (d.crashD f).dur.length = d.dur.length := crashTo_length _ _ _ _
end Go.Proofs.YtggogaaooacooaaDoor
namespace Go.Proofs.YtggogaaooacooaaDoor
set_option maxRecDepth 100000

/-- Read: the value, the version, the error's number. -/
def tellS : Option (Nat × List UInt8) → List UInt8 × Nat × Nat
  | none => ([], 0, 14)
  | some (v, p) => (p, v, 0)
def DS.fitS (d : DS) (i : Int) : Prop := 0 ≤ i ∧ i + 2 ≤ d.dur.length
instance (d : DS) (i : Int) : Decidable (d.fitS i) := inferInstanceAs (Decidable (_ ∧ _))
def DS.slotsR (d : DS) (i : Int) : List UInt8 × Nat × Nat :=
  if ¬ d.fitS i then ([], 0, 6) else if d.off = true then ([], 0, 12) else tellS (G.best (G.slotV (d.read i.toNat) 0) (G.slotV (d.read (i.toNat + 1)) 1))
/-- Write: the error's number, and the disk behind it. -/
def DS.slotsE (d : DS) (i v : Int) (p : List UInt8) : Nat :=
  if ¬ d.fitS i ∨ v < 1 ∨ 1099511627776 < v then 6 else if 234 < p.length then 3
  else if d.writeE (i + v % 2) (E.sct v.toNat p) ≠ 0 then d.writeE (i + v % 2) (E.sct v.toNat p) else (d.writeD (i + v % 2) (E.sct v.toNat p)).flushE
def DS.slotsD (d : DS) (i v : Int) (p : List UInt8) : DS :=
  if ¬ d.fitS i ∨ v < 1 ∨ 1099511627776 < v then d else if 234 < p.length then d
  else if d.writeE (i + v % 2) (E.sct v.toNat p) ≠ 0 then d.writeD (i + v % 2) (E.sct v.toNat p) else (d.writeD (i + v % 2) (E.sct v.toNat p)).flushD

/-- A slot by its one end: what counts has it as the other end too. -/
theorem slot_front (raw : List UInt8) (i : Nat) : (if raw.length = 256 ∧ E.front raw ≤ 1099511627776 ∧ E.front raw % 2 = i then (E.openS (E.front raw) raw).map fun p => (E.front raw, p) else none) = G.slotV raw i := by
  unfold G.slotV
  by_cases h : raw.length = 256 ∧ E.front raw ≤ 1099511627776 ∧ E.front raw % 2 = i
  · rw [if_pos h]
    by_cases k : raw.length = 256 ∧ E.front raw = E.back raw ∧ 1 ≤ E.front raw ∧ E.front raw ≤ 1099511627776 ∧ E.front raw % 2 = i
    · rw [if_pos k]
    · rw [if_neg k]
      cases hq : E.openS (E.front raw) raw with
      | none => rfl
      | some q =>
        exfalso
        have hc : E.counts (E.front raw) raw = true := by unfold E.counts; rw [hq]; rfl
        obtain ⟨h0, h1, h2⟩ := E.counts_ends (Nat.lt_of_le_of_lt h.2.1 (by decide)) hc
        exact k ⟨h.1, h2.symm, by omega, h.2.1, h.2.2⟩
  · rw [if_neg h, if_neg (fun k => h ⟨k.1, k.2.2.2.1, k.2.2.2.2⟩)]

/-! ### A disk of which nothing is under way -/
structure DS.Calm (d : DS) : Prop where
  ways : d.ways = []
  off : d.off = false
theorem DS.Calm.read {d : DS} (h : d.Calm) (i : Nat) : d.read i = d.dur.getD i [] := by
  unfold DS.read; rw [h.ways]; rfl
theorem DS.Calm.tells {d : DS} (h : d.Calm) {i : Nat} (hi : i + 2 ≤ d.dur.length) : d.slotsR i = tellS (G.readS fun j => d.dur.getD (i + j) []) := by
  unfold DS.slotsR
  have hf : d.fitS i := ⟨by omega, by omega⟩
  rw [if_neg (fun k => k hf), if_neg (by rw [h.off]; simp), h.read, h.read]
  rfl
/-- The place of a version's slot. -/
theorem slot_place {i v : Nat} : ((i : Int) + (v : Int) % 2) = ((i + v % 2 : Nat) : Int) := by omega
theorem DS.reach_calm {d : DS} (h : d.off = false) {i : Nat} (hi : i < d.dur.length) : d.reach i = 0 := by
  unfold DS.reach; rw [h, if_neg (by simp), if_neg (by omega)]
section
variable {d : DS} {i v : Nat} {p : List UInt8}
theorem DS.Calm.reach (h : d.Calm) (hi : i + 2 ≤ d.dur.length) : d.reach ((i : Int) + (v : Int) % 2) = 0 := by
  rw [slot_place]; exact DS.reach_calm h.off (by omega)
theorem DS.slots_in (hi : i + 2 ≤ d.dur.length) (h1 : 1 ≤ v) (h2 : v ≤ 1099511627776) : ¬ (¬ d.fitS i ∨ (v : Int) < 1 ∨ 1099511627776 < (v : Int)) := by
  have hf : d.fitS i := ⟨by omega, by omega⟩
  rintro (k | k | k)
  · exact k hf
  · omega
  · omega
/-- The power goes at the write. -/
theorem DS.Calm.slots0 (h : d.Calm) (hi : i + 2 ≤ d.dur.length) (h1 : 1 ≤ v) (h2 : v ≤ 1099511627776) (hp : p.length ≤ 234) (ha : d.armed = 0) :
    d.slotsE i v p = 12 ∧ d.slotsD i v p = { d with ways := [(i + v % 2, E.sct v p)], off := true } := by
  have hr := h.reach (v := v) hi
  have hw : d.writeE ((i : Int) + (v : Int) % 2) (E.sct v p) = 12 := by unfold DS.writeE; rw [if_neg (by rw [hr]; simp), if_neg (by rw [E.sct_length v hp]; simp), if_pos ha]
  have hd : d.writeD ((i : Int) + (v : Int) % 2) (E.sct v p) = { d with ways := [(i + v % 2, E.sct v p)], off := true } := by
    unfold DS.writeD; rw [if_neg (by rw [hr]; simp), if_neg (by rw [E.sct_length v hp]; simp), if_pos ha, h.ways, slot_place]; rfl
  refine ⟨?_, ?_⟩
  · unfold DS.slotsE
    simp only [Int.toNat_natCast]
    rw [if_neg (DS.slots_in hi h1 h2), if_neg (by omega), hw, if_pos (by decide)]
  · unfold DS.slotsD
    simp only [Int.toNat_natCast]
    rw [if_neg (DS.slots_in hi h1 h2), if_neg (by omega), hw, if_pos (by decide)]
    exact hd
theorem DS.Calm.wrote (h : d.Calm) (hi : i + 2 ≤ d.dur.length) (hp : p.length ≤ 234) (ha : d.armed ≠ 0) :
    d.writeE ((i : Int) + (v : Int) % 2) (E.sct v p) = 0 ∧ d.writeD ((i : Int) + (v : Int) % 2) (E.sct v p) = { d with ways := [(i + v % 2, E.sct v p)], armed := dec d.armed, wr := d.wr + 1 } := by
  have hr := h.reach (v := v) hi
  refine ⟨?_, ?_⟩
  · unfold DS.writeE; rw [if_neg (by rw [hr]; simp), if_neg (by rw [E.sct_length v hp]; simp), if_neg ha]
  · unfold DS.writeD; rw [if_neg (by rw [hr]; simp), if_neg (by rw [E.sct_length v hp]; simp), if_neg ha, h.ways, slot_place]; rfl
/-- The power goes at the flush. -/
theorem DS.Calm.slots1 (h : d.Calm) (hi : i + 2 ≤ d.dur.length) (h1 : 1 ≤ v) (h2 : v ≤ 1099511627776) (hp : p.length ≤ 234) (ha : d.armed = 1) :
    d.slotsE i v p = 12 ∧ d.slotsD i v p = { d with ways := [(i + v % 2, E.sct v p)], armed := 0, off := true, wr := d.wr + 1 } := by
  obtain ⟨hw, hd⟩ := h.wrote (v := v) (p := p) hi hp (by omega)
  have e : dec d.armed = 0 := by rw [ha]; rfl
  refine ⟨?_, ?_⟩
  · unfold DS.slotsE
    simp only [Int.toNat_natCast]
    rw [if_neg (DS.slots_in hi h1 h2), if_neg (by omega), hw, if_neg (by decide), hd]
    unfold DS.flushE
    simp only [h.off, e]
    rfl
  · unfold DS.slotsD
    simp only [Int.toNat_natCast]
    rw [if_neg (DS.slots_in hi h1 h2), if_neg (by omega), hw, if_neg (by decide), hd]
    unfold DS.flushD
    simp only [h.off, e]
    rfl
/-- The power stays on. -/
theorem DS.Calm.slots2 (h : d.Calm) (hi : i + 2 ≤ d.dur.length) (h1 : 1 ≤ v) (h2 : v ≤ 1099511627776) (hp : p.length ≤ 234) (ha : d.armed ≠ 0) (ha1 : d.armed ≠ 1) :
    d.slotsE i v p = 0 ∧ d.slotsD i v p = { d with dur := d.dur.set (i + v % 2) (E.sct v p), ways := [], armed := dec (dec d.armed), wr := d.wr + 1, fl := d.fl + 1 } := by
  obtain ⟨hw, hd⟩ := h.wrote (v := v) (p := p) hi hp (by omega)
  have e : dec d.armed ≠ 0 := by unfold dec; split <;> omega
  refine ⟨?_, ?_⟩
  · unfold DS.slotsE
    simp only [Int.toNat_natCast]
    rw [if_neg (DS.slots_in hi h1 h2), if_neg (by omega), hw, if_neg (by decide), hd]
    unfold DS.flushE
    simp only [h.off, if_neg e]
    rfl
  · unfold DS.slotsD
    simp only [Int.toNat_natCast]
    rw [if_neg (DS.slots_in hi h1 h2), if_neg (by omega), hw, if_neg (by decide), hd]
    unfold DS.flushD
    simp only [h.off, if_neg e]
    rfl
end
end Go.Proofs.YtggogaaooacooaaDoor
