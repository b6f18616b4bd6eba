/-
  Joined: DSpec, GDisk, VSpec, JSpec.
-/
import Derived.Test.YthjjfjhajadimaaGreatDoorP03
namespace Go.Proofs.YthjjfjhajadimaaGreatDoor
set_option maxRecDepth 100000
structure DS where
 dur : List (List UInt8)
 ways : List (Nat × List UInt8)
 armed : Int
 off : Bool
 wr : Nat
 fl : Nat
 cr : Nat
structure FT where
 kept : List Bool
 torn : Int
 bytes : Int
structure DS.Ok (d : DS) : Prop where
 pos : 1 <= d.dur.length
 le : d.dur.length <= 65536
 each : ∀ (i : Nat) (s : List UInt8), d.dur[i]? = some s -> s.length = 256
 way : ∀ (k : Nat) (w : Nat × List UInt8), d.ways[k]? = some w -> w.1 < d.dur.length /\ w.2.length = 256
 a0 : -1 <= d.armed
 a1 : d.armed <= 9223372036854775807
structure DS.Few (d : DS) : Prop where
 ways : d.ways.length <= 1073741824
 wr : d.wr <= 1152921504606846976
 fl : d.fl <= 1152921504606846976
 cr : d.cr <= 1152921504606846976
def lastAt (ws : List (Nat × List UInt8)) (p : Nat) : Option Nat := (List.range ws.length).foldl (fun r k => if (ws[k]?).map (·.1) = some p then some k else r) none
theorem lastAt_snoc (ws : List (Nat × List UInt8)) (w : Nat × List UInt8) (p : Nat) : lastAt (ws ++ [w]) p = if w.1 = p then some ws.length else lastAt ws p := by
 unfold lastAt
 rw [List.length_append, List.length_singleton, List.range_succ, List.foldl_append, List.foldl_cons, List.foldl_nil]
 have hc : ∀ (l : List Nat) (r0 : Option Nat), (∀ k ∈ l, k < ws.length) -> l.foldl (fun r k => if ((ws ++ [w])[k]?).map (·.1) = some p then some k else r) r0 = l.foldl (fun r k => if (ws[k]?).map (·.1) = some p then some k else r) r0 := by
  intro l
  induction l with
  | nil => intro r0 _; rfl
  | cons a l ih =>
   intro r0 h
   rw [List.foldl_cons, List.foldl_cons, List.getElem?_append_left (h a (by simp))]
   exact ih _ (fun k hk => h k (by simp [hk]))
 rw [hc _ _ (fun k hk => List.mem_range.1 hk)]
 simp
def readTo (D : List (List UInt8)) (ws : List (Nat × List UInt8)) (p : Nat) : Nat -> List UInt8
 | 0 => D.getD p []
 | k + 1 => match ws[k]? with
  | some w => if w.1 = p then w.2 else readTo D ws p k
  | none => readTo D ws p k
def DS.read (d : DS) (p : Nat) : List UInt8 := readTo d.dur d.ways p d.ways.length
theorem readTo_congr (D : List (List UInt8)) {ws vs : List (Nat × List UInt8)} (p : Nat) : ∀ k, (∀ j, j < k -> ws[j]? = vs[j]?) -> readTo D ws p k = readTo D vs p k
 | 0, _ => rfl
 | k + 1, h => by
  unfold readTo
  rw [h k (by omega), readTo_congr D p k (fun j hj => h j (by omega))]
theorem readTo_snoc (D : List (List UInt8)) (ws : List (Nat × List UInt8)) (w : Nat × List UInt8) (p : Nat) : readTo D (ws ++ [w]) p (ws ++ [w]).length = if w.1 = p then w.2 else readTo D ws p ws.length := by
 rw [List.length_append, List.length_singleton, readTo]
 simp only [List.getElem?_concat_length]
 rw [readTo_congr D p ws.length (fun j hj => List.getElem?_append_left hj)]
theorem snocInd {α : Type} {P : List α -> Prop} (h0 : P []) (h1 : ∀ l a, P l -> P (l ++ [a])) (l : List α) : P l := by
 have h : ∀ n (l : List α), l.length = n -> P l := by
  intro n
  induction n with
  | zero => intro l hl; rw [List.eq_nil_of_length_eq_zero hl]; exact h0
  | succ n ih =>
   intro l hl
   have hne : l ≠ [] := by rintro rfl; simp at hl
   have e := List.dropLast_concat_getLast hne
   rw [<- e]
   exact h1 _ _ (ih _ (by simp; omega))
 exact h _ l rfl
theorem readTo_last (D : List (List UInt8)) (ws : List (Nat × List UInt8)) (p : Nat) :
  (lastAt ws p = none -> readTo D ws p ws.length = D.getD p []) /\ (∀ k, lastAt ws p = some k -> ∃ w, ws[k]? = some w /\ readTo D ws p ws.length = w.2) := by
 refine snocInd (P := fun ws : List (Nat × List UInt8) => (lastAt ws p = none -> readTo D ws p ws.length = D.getD p []) /\ (∀ k, lastAt ws p = some k -> ∃ w, ws[k]? = some w /\ readTo D ws p ws.length = w.2)) ?_ ?_ ws
 ·refine ⟨fun _ => rfl, fun k h => ?_⟩
  cases h
 ·rintro l a ⟨h1, h2⟩
  rw [lastAt_snoc, readTo_snoc]
  by_cases hp : a.1 = p
  ·rw [if_pos hp, if_pos hp]
   refine ⟨fun h => (by cases h), fun k h => ?_⟩
   injection h with h
   subst h
   exact ⟨a, by simp, rfl⟩
  ·rw [if_neg hp, if_neg hp]
   refine ⟨h1, fun k h => ?_⟩
   obtain ⟨w, hw, e⟩ := h2 k h
   exact ⟨w, by rw [List.getElem?_append_left (List.getElem?_eq_some_iff.1 hw).1]; exact hw, e⟩
theorem lastAt_lt {ws : List (Nat × List UInt8)} {p k : Nat} (h : lastAt ws p = some k) : k < ws.length := by
 obtain ⟨w, hw, _⟩ := (readTo_last [] ws p).2 k h
 exact (List.getElem?_eq_some_iff.1 hw).1
def flushTo (D : List (List UInt8)) (ws : List (Nat × List UInt8)) : Nat -> List (List UInt8)
 | 0 => D
 | k + 1 => match ws[k]? with
  | some w => (flushTo D ws k).set w.1 w.2
  | none => flushTo D ws k
def FT.done (f : FT) (k : Nat) : Nat :=
 if (k : Int) = f.torn then (min (max f.bytes 0) 256).toNat else if f.kept.getD k false then 256 else 0
theorem FT.done_le (f : FT) (k : Nat) : f.done k <= 256 := by
 unfold FT.done
 split
 ·omega
 ·split <;> omega
def tornBy (old s : List UInt8) (n : Nat) : List UInt8 := s.take n ++ old.drop n
theorem tornBy_length {old s : List UInt8} {n : Nat} (h1 : old.length = 256) (h2 : s.length = 256) (hn : n <= 256) : (tornBy old s n).length = 256 := by
 simp [tornBy, h1, h2]; omega
theorem tornBy_all {old s : List UInt8} (h1 : old.length = 256) (h2 : s.length = 256) : tornBy old s 256 = s := by
 unfold tornBy
 rw [List.take_of_length_le (by omega), List.drop_eq_nil_of_le (by omega), List.append_nil]
def crashTo (f : FT) (D : List (List UInt8)) (ws : List (Nat × List UInt8)) : Nat -> List (List UInt8)
 | 0 => D
 | k + 1 => match ws[k]? with
  | some w => (crashTo f D ws k).set w.1 (tornBy ((crashTo f D ws k).getD w.1 []) w.2 (f.done k))
  | none => crashTo f D ws k
theorem flushTo_length (D : List (List UInt8)) (ws : List (Nat × List UInt8)) : ∀ k, (flushTo D ws k).length = D.length
 | 0 => rfl
 | k + 1 => by unfold flushTo; split <;> simp [flushTo_length D ws k]
theorem crashTo_length (f : FT) (D : List (List UInt8)) (ws : List (Nat × List UInt8)) : ∀ k, (crashTo f D ws k).length = D.length
 | 0 => rfl
 | k + 1 => by unfold crashTo; split <;> simp [crashTo_length f D ws k]
theorem each_set {D : List (List UInt8)} {p : Nat} {s : List UInt8} (h : ∀ (i : Nat) (t : List UInt8), D[i]? = some t -> t.length = 256) (hs : s.length = 256) : ∀ (i : Nat) (t : List UInt8), (D.set p s)[i]? = some t -> t.length = 256 := by
 intro i t ht
 rw [List.getElem?_set] at ht
 split at ht
 ·split at ht
  ·injection ht with ht; subst ht; exact hs
  ·cases ht
 ·exact h i t ht
theorem getD_length {D : List (List UInt8)} {p : Nat} (h : ∀ (i : Nat) (t : List UInt8), D[i]? = some t -> t.length = 256) (hp : p < D.length) : (D.getD p []).length = 256 := by
 have e : D[p]? = some (D.getD p []) := by simp [List.getD, hp]
 exact h p _ e
theorem flushTo_each {D : List (List UInt8)} {ws : List (Nat × List UInt8)} (h : ∀ (i : Nat) (t : List UInt8), D[i]? = some t -> t.length = 256) (hw : ∀ (k : Nat) (w : Nat × List UInt8), ws[k]? = some w -> w.1 < D.length /\ w.2.length = 256) : ∀ k, ∀ (i : Nat) (t : List UInt8), (flushTo D ws k)[i]? = some t -> t.length = 256
 | 0 => h
 | k + 1 => by
  unfold flushTo
  split
  ·rename_i w he
   exact each_set (flushTo_each h hw k) (hw k w he).2
  ·exact flushTo_each h hw k
def dec (a : Int) : Int := if 0 < a then a - 1 else a
theorem dec_le {a : Int} (h : -1 <= a) : -1 <= dec a /\ dec a <= a := by unfold dec; split <;> omega
def DS.reach (d : DS) (i : Int) : Nat := if d.off then 12 else if i < 0 \/ d.dur.length <= i then 6 else 0
def DS.writeE (d : DS) (i : Int) (s : List UInt8) : Nat := if d.reach i ≠ 0 then d.reach i else if s.length ≠ 256 then 7 else if d.armed = 0 then 12 else 0
def DS.writeD (d : DS) (i : Int) (s : List UInt8) : DS :=
 if d.reach i ≠ 0 then d else if s.length ≠ 256 then d else if d.armed = 0 then { d with ways := d.ways ++ [(i.toNat, s)], off := true } else { d with ways := d.ways ++ [(i.toNat, s)], armed := dec d.armed, wr := d.wr + 1 }
def DS.flushE (d : DS) : Nat := if d.off then 12 else if d.armed = 0 then 12 else 0
def DS.flushD (d : DS) : DS :=
 if d.off then d else if d.armed = 0 then { d with off := true } else { d with dur := flushTo d.dur d.ways d.ways.length, ways := [], armed := dec d.armed, fl := d.fl + 1 }
def DS.crashD (d : DS) (f : FT) : DS := { d with dur := crashTo f d.dur d.ways d.ways.length, ways := [], armed := -1, off := false, cr := d.cr + 1 }
def zeros : List UInt8 := List.replicate 256 0
def DS.newD (n : Nat) : DS := ⟨List.replicate n zeros, [], -1, false, 0, 0, 0⟩
theorem DS.reach_zero {d : DS} {i : Int} (h : d.reach i = 0) : d.off = false /\ 0 <= i /\ i < d.dur.length := by
 unfold DS.reach at h
 split at h
 ·cases h
 ·split at h
  ·cases h
  ·rename_i h1 h2
   exact ⟨by simpa using h1, by omega, by omega⟩
theorem ok_ways {n : Nat} {ws : List (Nat × List UInt8)} {w : Nat × List UInt8} (h : ∀ (k : Nat) (w : Nat × List UInt8), ws[k]? = some w -> w.1 < n /\ w.2.length = 256) (hw : w.1 < n /\ w.2.length = 256) : ∀ (k : Nat) (v : Nat × List UInt8), (ws ++ [w])[k]? = some v -> v.1 < n /\ v.2.length = 256 := by
 intro k v hv
 by_cases hk : k < ws.length
 ·rw [List.getElem?_append_left hk] at hv; exact h k v hv
 ·rw [List.getElem?_append_right (by omega)] at hv
  obtain ⟨hl, e⟩ := List.getElem?_eq_some_iff.1 hv
  have : k - ws.length = 0 := by simpa using hl
  simp [this] at e
  subst e
  exact hw
theorem DS.Ok.flush {d : DS} (h : d.Ok) : d.flushD.Ok := by
 unfold DS.flushD
 have hd := dec_le h.a0
 have := h.a1
 split
 ·exact h
 ·split
  ·exact ⟨h.pos, h.le, h.each, h.way, h.a0, h.a1⟩
  ·exact ⟨by simp only [flushTo_length]; exact h.pos, by simp only [flushTo_length]; exact h.le, flushTo_each h.each h.way _, fun k w hk => by simp at hk, hd.1, by simp only; omega⟩
theorem DS.Ok.new {n : Nat} (h1 : 1 <= n) (h2 : n <= 65536) : (DS.newD n).Ok :=
 ⟨by simp [DS.newD, h1], by simpa [DS.newD] using h2, fun i s hs => by simp [DS.newD, List.getElem?_replicate] at hs; obtain ⟨_, rfl⟩ := hs; simp [zeros], fun k w hk => by simp [DS.newD] at hk, by simp [DS.newD], by simp [DS.newD]⟩
theorem writeD_size (d : DS) (i : Int) (s : List UInt8) : (d.writeD i s).dur.length = d.dur.length := by
 unfold DS.writeD; repeat' split
 all_goals rfl
theorem flushD_size (d : DS) : d.flushD.dur.length = d.dur.length := by
 unfold DS.flushD; repeat' split
 all_goals first | rfl | exact flushTo_length _ _ _
theorem crashD_size (d : DS) (f : FT) : (d.crashD f).dur.length = d.dur.length := crashTo_length _ _ _ _
def tellS : Option (Nat × List UInt8) -> List UInt8 × Nat × Nat
 | none => ([], 0, 14)
 | some (v, p) => (p, v, 0)
def DS.fitS (d : DS) (i : Int) : Prop := 0 <= i /\ i + 2 <= d.dur.length
instance (d : DS) (i : Int) : Decidable (d.fitS i) := inferInstanceAs (Decidable (_ /\ _))
def DS.slotsR (d : DS) (i : Int) : List UInt8 × Nat × Nat :=
 if ¬ d.fitS i then ([], 0, 6) else if d.off = true then ([], 0, 12) else tellS (G.best (G.slotV (d.read i.toNat) 0) (G.slotV (d.read (i.toNat + 1)) 1))
def DS.slotsE (d : DS) (i v : Int) (p : List UInt8) : Nat :=
 if ¬ d.fitS i \/ v < 1 \/ 1099511627776 < v then 6 else if 234 < p.length then 3
 else if d.writeE (i + v % 2) (E.sct v.toNat p) ≠ 0 then d.writeE (i + v % 2) (E.sct v.toNat p) else (d.writeD (i + v % 2) (E.sct v.toNat p)).flushE
def DS.slotsD (d : DS) (i v : Int) (p : List UInt8) : DS :=
 if ¬ d.fitS i \/ v < 1 \/ 1099511627776 < v then d else if 234 < p.length then d
 else if d.writeE (i + v % 2) (E.sct v.toNat p) ≠ 0 then d.writeD (i + v % 2) (E.sct v.toNat p) else (d.writeD (i + v % 2) (E.sct v.toNat p)).flushD
theorem slot_front (raw : List UInt8) (i : Nat) : (if raw.length = 256 /\ E.front raw <= 1099511627776 /\ E.front raw % 2 = i then (E.openS (E.front raw) raw).map fun p => (E.front raw, p) else none) = G.slotV raw i := by
 unfold G.slotV
 by_cases h : raw.length = 256 /\ E.front raw <= 1099511627776 /\ E.front raw % 2 = i
 ·rw [if_pos h]
  by_cases k : raw.length = 256 /\ E.front raw = E.back raw /\ 1 <= E.front raw /\ E.front raw <= 1099511627776 /\ E.front raw % 2 = i
  ·rw [if_pos k]
  ·rw [if_neg k]
   cases hq : E.openS (E.front raw) raw with
   | none => rfl
   | some q =>
    exfalso
    have hc : E.counts (E.front raw) raw = true := by unfold E.counts; rw [hq]; rfl
    obtain ⟨h0, h1, h2⟩ := E.counts_ends (Nat.lt_of_le_of_lt h.2.1 (by decide)) hc
    exact k ⟨h.1, h2.symm, by omega, h.2.1, h.2.2⟩
 ·rw [if_neg h, if_neg (fun k => h ⟨k.1, k.2.2.2.1, k.2.2.2.2⟩)]
structure DS.Calm (d : DS) : Prop where
 ways : d.ways = []
 off : d.off = false
theorem DS.Calm.read {d : DS} (h : d.Calm) (i : Nat) : d.read i = d.dur.getD i [] := by
 unfold DS.read; rw [h.ways]; rfl
theorem DS.Calm.tells {d : DS} (h : d.Calm) {i : Nat} (hi : i + 2 <= d.dur.length) : d.slotsR i = tellS (G.readS fun j => d.dur.getD (i + j) []) := by
 unfold DS.slotsR
 have hf : d.fitS i := ⟨by omega, by omega⟩
 rw [if_neg (fun k => k hf), if_neg (by rw [h.off]; simp), h.read, h.read]
 rfl
theorem slot_place {i v : Nat} : ((i : Int) + (v : Int) % 2) = ((i + v % 2 : Nat) : Int) := by omega
theorem DS.reach_calm {d : DS} (h : d.off = false) {i : Nat} (hi : i < d.dur.length) : d.reach i = 0 := by
 unfold DS.reach; rw [h, if_neg (by simp), if_neg (by omega)]
section
variable {d : DS} {i v : Nat} {p : List UInt8}
theorem DS.Calm.reach (h : d.Calm) (hi : i + 2 <= d.dur.length) : d.reach ((i : Int) + (v : Int) % 2) = 0 := by
 rw [slot_place]; exact DS.reach_calm h.off (by omega)
theorem DS.slots_in (hi : i + 2 <= d.dur.length) (h1 : 1 <= v) (h2 : v <= 1099511627776) : ¬ (¬ d.fitS i \/ (v : Int) < 1 \/ 1099511627776 < (v : Int)) := by
 have hf : d.fitS i := ⟨by omega, by omega⟩
 rintro (k | k | k)
 ·exact k hf
 ·omega
 ·omega
theorem DS.Calm.slots0 (h : d.Calm) (hi : i + 2 <= d.dur.length) (h1 : 1 <= v) (h2 : v <= 1099511627776) (hp : p.length <= 234) (ha : d.armed = 0) :
  d.slotsE i v p = 12 /\ d.slotsD i v p = { d with ways := [(i + v % 2, E.sct v p)], off := true } := by
 have hr := h.reach (v := v) hi
 have hw : d.writeE ((i : Int) + (v : Int) % 2) (E.sct v p) = 12 := by unfold DS.writeE; rw [if_neg (by rw [hr]; simp), if_neg (by rw [E.sct_length v hp]; simp), if_pos ha]
 have hd : d.writeD ((i : Int) + (v : Int) % 2) (E.sct v p) = { d with ways := [(i + v % 2, E.sct v p)], off := true } := by
  unfold DS.writeD; rw [if_neg (by rw [hr]; simp), if_neg (by rw [E.sct_length v hp]; simp), if_pos ha, h.ways, slot_place]; rfl
 refine ⟨?_, ?_⟩
 ·unfold DS.slotsE
  simp only [Int.toNat_natCast]
  rw [if_neg (DS.slots_in hi h1 h2), if_neg (by omega), hw, if_pos (by decide)]
 ·unfold DS.slotsD
  simp only [Int.toNat_natCast]
  rw [if_neg (DS.slots_in hi h1 h2), if_neg (by omega), hw, if_pos (by decide)]
  exact hd
theorem DS.Calm.wrote (h : d.Calm) (hi : i + 2 <= d.dur.length) (hp : p.length <= 234) (ha : d.armed ≠ 0) :
  d.writeE ((i : Int) + (v : Int) % 2) (E.sct v p) = 0 /\ d.writeD ((i : Int) + (v : Int) % 2) (E.sct v p) = { d with ways := [(i + v % 2, E.sct v p)], armed := dec d.armed, wr := d.wr + 1 } := by
 have hr := h.reach (v := v) hi
 refine ⟨?_, ?_⟩
 ·unfold DS.writeE; rw [if_neg (by rw [hr]; simp), if_neg (by rw [E.sct_length v hp]; simp), if_neg ha]
 ·unfold DS.writeD; rw [if_neg (by rw [hr]; simp), if_neg (by rw [E.sct_length v hp]; simp), if_neg ha, h.ways, slot_place]; rfl
theorem DS.Calm.slots1 (h : d.Calm) (hi : i + 2 <= d.dur.length) (h1 : 1 <= v) (h2 : v <= 1099511627776) (hp : p.length <= 234) (ha : d.armed = 1) :
  d.slotsE i v p = 12 /\ d.slotsD i v p = { d with ways := [(i + v % 2, E.sct v p)], armed := 0, off := true, wr := d.wr + 1 } := by
 obtain ⟨hw, hd⟩ := h.wrote (v := v) (p := p) hi hp (by omega)
 have e : dec d.armed = 0 := by rw [ha]; rfl
 refine ⟨?_, ?_⟩
 ·unfold DS.slotsE
  simp only [Int.toNat_natCast]
  rw [if_neg (DS.slots_in hi h1 h2), if_neg (by omega), hw, if_neg (by decide), hd]
  unfold DS.flushE
  simp only [h.off, e]
  rfl
 ·unfold DS.slotsD
  simp only [Int.toNat_natCast]
  rw [if_neg (DS.slots_in hi h1 h2), if_neg (by omega), hw, if_neg (by decide), hd]
  unfold DS.flushD
  simp only [h.off, e]
  rfl
theorem DS.Calm.slots2 (h : d.Calm) (hi : i + 2 <= d.dur.length) (h1 : 1 <= v) (h2 : v <= 1099511627776) (hp : p.length <= 234) (ha : d.armed ≠ 0) (ha1 : d.armed ≠ 1) :
  d.slotsE i v p = 0 /\ d.slotsD i v p = { d with dur := d.dur.set (i + v % 2) (E.sct v p), ways := [], armed := dec (dec d.armed), wr := d.wr + 1, fl := d.fl + 1 } := by
 obtain ⟨hw, hd⟩ := h.wrote (v := v) (p := p) hi hp (by omega)
 have e : dec d.armed ≠ 0 := by unfold dec; split <;> omega
 refine ⟨?_, ?_⟩
 ·unfold DS.slotsE
  simp only [Int.toNat_natCast]
  rw [if_neg (DS.slots_in hi h1 h2), if_neg (by omega), hw, if_neg (by decide), hd]
  unfold DS.flushE
  simp only [h.off, if_neg e]
  rfl
 ·unfold DS.slotsD
  simp only [Int.toNat_natCast]
  rw [if_neg (DS.slots_in hi h1 h2), if_neg (by omega), hw, if_neg (by decide), hd]
  unfold DS.flushD
  simp only [h.off, if_neg e]
  rfl
end
namespace V
def piece (v : List UInt8) (i : Nat) : List UInt8 := (v.drop (i * 234)).take 234
def nsec (n : Nat) : Nat := (n + 233) / 234
theorem nsec_le {n m : Nat} : n <= 234 * m ↔ nsec n <= m := by unfold nsec; omega
theorem piece_length (v : List UInt8) (i : Nat) : (piece v i).length = min 234 (v.length - i * 234) := by unfold piece; rw [List.length_take, List.length_drop]
theorem piece_le (v : List UInt8) (i : Nat) : (piece v i).length <= 234 := by rw [piece_length]; omega
theorem nsec_lt {n i : Nat} (h : i < nsec n) : i * 234 < n := by unfold nsec at h; omega
theorem nsec_end (n : Nat) : n <= nsec n * 234 := by unfold nsec; omega
theorem take_piece (v : List UInt8) (k : Nat) : v.take (k * 234) ++ piece v k = v.take ((k + 1) * 234) := by
 unfold piece
 rw [Nat.succ_mul, List.take_add]
def readTo (s : Nat -> List UInt8) (st n : Nat) : Nat -> Option (List UInt8)
 | 0 => some []
 | k + 1 => (readTo s st n k).bind fun out => (E.openS st (s k)).bind fun p => if p.length = min 234 (n - out.length) then some (out ++ p) else none
def readA (s : Nat -> List UInt8) (st n : Nat) : Option (List UInt8) := readTo s st n (nsec n)
theorem readTo_all {s : Nat -> List UInt8} {st : Nat} (hst : st ≠ 0) (v : List UInt8) : ∀ k, k <= nsec v.length -> (∀ i, i < k -> s i = E.sct st (piece v i)) -> readTo s st v.length k = some (v.take (k * 234))
 | 0, _, _ => by simp [readTo]
 | k + 1, hk, h => by
  have hlt := nsec_lt (show k < nsec v.length from hk)
  rw [readTo, readTo_all hst v k (by omega) (fun i hi => h i (by omega)), Option.bind_some, h k (by omega), E.open_sct hst (piece_le v k), Option.bind_some, if_pos, take_piece]
  rw [piece_length, List.length_take]
  congr 1
  omega
theorem readA_all {s : Nat -> List UInt8} {st : Nat} (hst : st ≠ 0) (v : List UInt8) (h : ∀ i, i < nsec v.length -> s i = E.sct st (piece v i)) : readA s st v.length = some v := by
 unfold readA
 rw [readTo_all hst v _ (Nat.le_refl _) h, List.take_of_length_le (nsec_end _)]
theorem readTo_length {s : Nat -> List UInt8} {st n : Nat} : ∀ k, k <= nsec n -> ∀ out, readTo s st n k = some out -> out.length = min (k * 234) n
 | 0, _, out, ho => by simp [readTo] at ho; simp [ho]
 | k + 1, hk, out, ho => by
  have hlt := nsec_lt (show k < nsec n from hk)
  rw [readTo] at ho
  obtain ⟨o1, h1, h2⟩ := Option.bind_eq_some_iff.1 ho
  obtain ⟨p, h3, h4⟩ := Option.bind_eq_some_iff.1 h2
  have e1 := readTo_length k (by omega) o1 h1
  split at h4
  ·rename_i hp
   injection h4 with h4
   rw [<- h4, List.length_append, hp, e1]
   omega
  ·cases h4
theorem readTo_none {s : Nat -> List UInt8} {st n k : Nat} (h : readTo s st n k = none) : ∀ m, k <= m -> readTo s st n m = none := by
 intro m hm
 obtain ⟨j, rfl⟩ := Nat.exists_eq_add_of_le hm
 clear hm
 induction j with
 | zero => exact h
 | succ j ih => rw [<- Nat.add_assoc, readTo, ih]; rfl
end V
def DS.mayA (d : DS) (i n : Int) (st : Nat) : Prop := 0 <= i /\ 0 <= n /\ i <= d.dur.length /\ n <= d.dur.length - i /\ st ≠ 0
instance (d : DS) (i n : Int) (st : Nat) : Decidable (d.mayA i n st) := inferInstanceAs (Decidable (_ /\ _))
def DS.areaGo (i st : Nat) (v : List UInt8) : Nat -> Nat -> DS -> Nat × DS
 | 0, _, d => (d.flushE, d.flushD)
 | m + 1, k, d => if d.writeE ((i + k : Nat) : Int) (E.sct st (V.piece v k)) ≠ 0 then (d.writeE ((i + k : Nat) : Int) (E.sct st (V.piece v k)), d.writeD ((i + k : Nat) : Int) (E.sct st (V.piece v k))) else areaGo i st v m (k + 1) (d.writeD ((i + k : Nat) : Int) (E.sct st (V.piece v k)))
def DS.areaW (d : DS) (i n : Int) (st : Nat) (v : List UInt8) : Nat × DS :=
 if ¬ d.mayA i n st then (6, d) else if 234 * min n.toNat 65536 < v.length then (3, d) else DS.areaGo i.toNat st v (V.nsec v.length) 0 d
def DS.areaR (d : DS) (i n : Int) (st : Nat) (b : Int) : List UInt8 × Nat :=
 if ¬ d.mayA i n st \/ b < 0 then ([], 6) else if 234 * min n.toNat 65536 < b.toNat then ([], 3) else if d.off = true then ([], 12)
 else match V.readA (fun k => d.read (i.toNat + k)) st b.toNat with
  | some out => (out, 0)
  | none => ([], 15)
end Go.Proofs.YthjjfjhajadimaaGreatDoor
namespace Go.Proofs.YthjjfjhajadimaaGreatDoor.J
set_option maxRecDepth 100000
def cost (b : Nat) : Nat := if b <= 229 then 1 else 2 + (b - 230) / 233
def pay (v : List UInt8) : Nat -> List UInt8
 | 0 => 1 :: (E.low 4 v.length ++ v.take 229)
 | k + 1 => 0 :: (v.drop (229 + 233 * k)).take 233
def ends : Nat -> Nat
 | 0 => 0
 | k + 1 => 229 + 233 * k
theorem cost_pos (b : Nat) : 0 < cost b := by unfold cost; split <;> omega
theorem cost_le (b : Nat) : b <= ends (cost b) := by
 unfold cost; split
 ·show b <= 229 + 233 * 0; omega
 ·show b <= ends (2 + (b - 230) / 233)
  rw [show 2 + (b - 230) / 233 = (1 + (b - 230) / 233) + 1 by omega]
  show b <= 229 + 233 * (1 + (b - 230) / 233)
  omega
theorem ends_lt {b k : Nat} (h : k + 1 < cost b) : ends (k + 1) < b := by
 show 229 + 233 * k < b
 unfold cost at h; split at h <;> omega
theorem pay0_length (v : List UInt8) : (pay v 0).length = 5 + min 229 v.length := by simp [pay, E.low_length]; omega
theorem payS_length (v : List UInt8) (k : Nat) : (pay v (k + 1)).length = 1 + min 233 (v.length - (229 + 233 * k)) := by simp [pay]; omega
theorem pay_le (v : List UInt8) : ∀ k, (pay v k).length <= 234
 | 0 => by rw [pay0_length]; omega
 | k + 1 => by rw [payS_length]; omega
theorem pay_drop0 (v : List UInt8) : (pay v 0).drop 5 = v.take 229 := by
 show ([1] ++ E.low 4 v.length ++ v.take 229).drop 5 = _
 exact List.drop_left' (by simp [E.low_length])
theorem pay_dropS (v : List UInt8) (k : Nat) : (pay v (k + 1)).drop 1 = (v.drop (229 + 233 * k)).take 233 := rfl
def sizeOf (p : List UInt8) : Nat := E.num ((p.drop 1).take 4)
theorem size_pay {v : List UInt8} (h : v.length < 4294967296) : sizeOf (pay v 0) = v.length := by
 unfold sizeOf
 rw [show (pay v 0).drop 1 = E.low 4 v.length ++ v.take 229 from rfl, List.take_left' (E.low_length 4 _), E.num_low]
 exact Nat.mod_eq_of_lt (by omega)
theorem size_lt (p : List UInt8) : sizeOf p < 4294967296 := by
 have h := E.num_lt ((p.drop 1).take 4)
 have h2 : ((p.drop 1).take 4).length <= 4 := by rw [List.length_take]; omega
 exact Nat.lt_of_lt_of_le h (Nat.le_trans (Nat.pow_le_pow_right (by decide) h2) (by decide))
def textTo (p : Nat -> List UInt8) : Nat -> List UInt8
 | 0 => []
 | 1 => (p 0).drop 5
 | k + 2 => textTo p (k + 1) ++ (p (k + 1)).drop 1
theorem text_pay (v : List UInt8) : ∀ k, textTo (pay v) k = v.take (ends k)
 | 0 => by simp [textTo, ends]
 | 1 => pay_drop0 v
 | k + 2 => by
  rw [textTo, text_pay v (k + 1), pay_dropS]
  show v.take (229 + 233 * k) ++ _ = v.take (229 + 233 * (k + 1))
  rw [show 229 + 233 * (k + 1) = (229 + 233 * k) + 233 by omega]
  exact List.take_add.symm
theorem text_all (v : List UInt8) : textTo (pay v) (cost v.length) = v := by
 rw [text_pay, List.take_of_length_le (cost_le _)]
theorem text_congr {p q : Nat -> List UInt8} : ∀ k, (∀ j, j < k -> p j = q j) -> textTo p k = textTo q k
 | 0, _ => rfl
 | 1, h => by rw [textTo, textTo, h 0 (by omega)]
 | k + 2, h => by rw [textTo, textTo, text_congr (k + 1) (fun j hj => h j (by omega)), h (k + 1) (by omega)]
structure Whole (s : Nat -> Option (List UInt8)) (n i : Nat) (v : List UInt8) : Prop where
 small : v.length < 4294967296
 room : i + cost v.length <= n
 each : ∀ k, k < cost v.length -> s (i + k) = some (pay v k)
theorem Whole.one {s : Nat -> Option (List UInt8)} {n i : Nat} {v u : List UInt8} (h : Whole s n i v) (k : Whole s n i u) : v = u := by
 have e0 := (h.each 0 (cost_pos _)).symm.trans (k.each 0 (cost_pos _))
 injection e0 with e0
 have el : v.length = u.length := by rw [<- size_pay h.small, <- size_pay k.small, e0]
 have e1 : textTo (pay v) (cost v.length) = textTo (pay u) (cost v.length) := text_congr _ (fun j hj => by
  have := (h.each j hj).symm.trans (k.each j (by rw [<- el]; exact hj))
  injection this)
 rw [text_all] at e1
 rw [e1, el, text_all]
open Classical in
noncomputable def rec (s : Nat -> Option (List UInt8)) (n i : Nat) : Option (List UInt8) := if h : ∃ v, Whole s n i v then some h.choose else none
theorem rec_some {s : Nat -> Option (List UInt8)} {n i : Nat} {v : List UInt8} (h : Whole s n i v) : rec s n i = some v := by
 unfold rec
 rw [dif_pos ⟨v, h⟩]
 exact congrArg some ((Exists.choose_spec (p := fun v => Whole s n i v) ⟨v, h⟩).one h)
theorem rec_none {s : Nat -> Option (List UInt8)} {n i : Nat} (h : ∀ v, ¬ Whole s n i v) : rec s n i = none := dif_neg (fun ⟨v, k⟩ => h v k)
theorem rec_whole {s : Nat -> Option (List UInt8)} {n i : Nat} {v : List UInt8} (h : rec s n i = some v) : Whole s n i v := by
 unfold rec at h
 split at h
 ·rename_i k
  injection h with h
  rw [<- h]
  exact k.choose_spec
 ·cases h
noncomputable def log (s : Nat -> Option (List UInt8)) (n : Nat) : Nat -> Nat -> List (List UInt8)
 | 0, _ => []
 | f + 1, i => match rec s n i with
  | none => []
  | some v => v :: log s n f (i + cost v.length)
noncomputable def logAll (s : Nat -> Option (List UInt8)) (n : Nat) : List (List UInt8) := log s n n 0
theorem log_end {s : Nat -> Option (List UInt8)} {n f i : Nat} (h : n <= i) : log s n f i = [] := by
 cases f with
 | zero => rfl
 | succ f =>
  rw [log, rec_none (fun v k => by have := k.room; have := cost_pos v.length; omega)]
theorem log_fuel {s : Nat -> Option (List UInt8)} {n : Nat} : ∀ (f g i : Nat), n - i <= f -> n - i <= g -> log s n f i = log s n g i
 | 0, g, i, h1, _ => by rw [log_end (show n <= i by omega), log_end (show n <= i by omega)]
 | f + 1, 0, i, _, h2 => by rw [log_end (show n <= i by omega), log_end (show n <= i by omega)]
 | f + 1, g + 1, i, h1, h2 => by
  rw [log, log]
  cases h : rec s n i with
  | none => rfl
  | some v =>
   have := cost_pos v.length
   have := (rec_whole h).room
   simp only
   rw [log_fuel f g (i + cost v.length) (by omega) (by omega)]
theorem log_step {s : Nat -> Option (List UInt8)} {n i : Nat} {v : List UInt8} (h : rec s n i = some v) : log s n (n - i) i = v :: log s n (n - (i + cost v.length)) (i + cost v.length) := by
 have h1 := cost_pos v.length
 have h2 := (rec_whole h).room
 obtain ⟨f, hf⟩ : ∃ f, n - i = f + 1 := ⟨n - i - 1, by omega⟩
 rw [hf, log, h]
 simp only
 rw [log_fuel f (n - (i + cost v.length)) _ (by omega) (by omega)]
theorem log_stop {s : Nat -> Option (List UInt8)} {n i f : Nat} (h : rec s n i = none) : log s n f i = [] := by
 cases f with
 | zero => rfl
 | succ f => rw [log, h]
theorem log_length {s : Nat -> Option (List UInt8)} {n : Nat} : ∀ (f i : Nat), (log s n f i).length <= f
 | 0, _ => Nat.le_refl _
 | f + 1, i => by
  rw [log]
  split
  ·simp
  ·simp only [List.length_cons]
   have := log_length (s := s) (n := n) f
   exact Nat.succ_le_succ (this _)
def stream : List (List UInt8) -> List (List UInt8)
 | [] => []
 | v :: r => (List.range (cost v.length)).map (pay v) ++ stream r
def total : List (List UInt8) -> Nat
 | [] => 0
 | v :: r => cost v.length + total r
theorem stream_length : ∀ l, (stream l).length = total l
 | [] => rfl
 | v :: r => by rw [stream, total, List.length_append, stream_length r]; simp
theorem stream_append : ∀ (a b : List (List UInt8)), stream (a ++ b) = stream a ++ stream b
 | [], b => rfl
 | v :: r, b => by rw [List.cons_append, stream, stream, stream_append r b, List.append_assoc]
theorem total_append : ∀ (a b : List (List UInt8)), total (a ++ b) = total a + total b
 | [], b => by simp [total]
 | v :: r, b => by rw [List.cons_append, total, total, total_append r b, Nat.add_assoc]
theorem stream_at (v : List UInt8) (r : List (List UInt8)) {k : Nat} (h : k < cost v.length) : (stream (v :: r))[k]? = some (pay v k) := by
 rw [stream, List.getElem?_append_left (by simpa using h)]
 simp [h]
theorem stream_past (v : List UInt8) (r : List (List UInt8)) (k : Nat) : (stream (v :: r))[cost v.length + k]? = (stream r)[k]? := by
 rw [stream, List.getElem?_append_right (by simp)]
 simp
theorem log_prefix {s : Nat -> Option (List UInt8)} {n : Nat} : ∀ (l : List (List UInt8)) (i : Nat), (∀ v ∈ l, v.length < 4294967296) -> i + total l <= n -> (∀ k p, s (i + k) = some p -> (stream l)[k]? = some p) ->
  ∃ m, m <= l.length /\ (∀ f, n - i <= f -> log s n f i = l.take m) /\ ∀ j, j <= l.length -> (∀ k, k < total (l.take j) -> (s (i + k)).isSome) -> j <= m
 | [], i, _, _, hs => by
  refine ⟨0, Nat.le_refl _, fun f _ => ?_, fun j hj _ => hj⟩
  rw [log_stop (rec_none fun v k => ?_)]
  ·rfl
  ·have := hs 0 _ (k.each 0 (cost_pos _))
   simp [stream] at this
 | v :: r, i, hsm, hn, hs => by
  rw [total] at hn
  by_cases hall : ∀ k, k < cost v.length -> (s (i + k)).isSome
  ·have hw : Whole s n i v := ⟨hsm v (by simp), by omega, fun k hk => by
    obtain ⟨p, hp⟩ := Option.isSome_iff_exists.1 (hall k hk)
    have := hs k p hp
    rw [stream_at v r hk] at this
    rw [hp, <- this]⟩
   obtain ⟨m, h1, h2, h3⟩ := log_prefix (s := s) (n := n) r (i + cost v.length) (fun u hu => hsm u (by simp [hu])) (by omega) (fun k p hp => by
    have := hs (cost v.length + k) p (by rw [<- Nat.add_assoc]; exact hp)
    rw [stream_past] at this
    exact this)
   refine ⟨m + 1, by simp; omega, fun f hf => ?_, fun j hj hk => ?_⟩
   ·have hc := cost_pos v.length
    obtain ⟨g, rfl⟩ : ∃ g, f = g + 1 := ⟨f - 1, by omega⟩
    rw [log, rec_some hw]
    simp only
    rw [h2 g (by omega), List.take_succ_cons]
   ·cases j with
    | zero => omega
    | succ j =>
     have ht : total ((v :: r).take (j + 1)) = cost v.length + total (r.take j) := by rw [List.take_succ_cons, total]
     have := h3 j (by simpa using hj) (fun k hk2 => by
      have := hk (cost v.length + k) (by rw [ht]; omega)
      rw [<- Nat.add_assoc] at this
      exact this)
     omega
  ·refine ⟨0, by omega, fun f _ => ?_, fun j hj hk => ?_⟩
   ·rw [log_stop (rec_none fun u k => hall fun q hq => ?_)]
    ·rfl
    ·have e0 := hs 0 _ (k.each 0 (cost_pos _))
     rw [stream_at v r (cost_pos _)] at e0
     injection e0 with e0
     have el : u.length = v.length := by rw [<- size_pay k.small, <- size_pay (hsm v (by simp)), e0]
     rw [k.each q (by rw [el]; exact hq)]
     rfl
   ·cases j with
    | zero => omega
    | succ j => exact absurd (fun k hk2 => hk k (by rw [List.take_succ_cons, total]; omega)) hall
end Go.Proofs.YthjjfjhajadimaaGreatDoor.J
