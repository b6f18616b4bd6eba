/-
  Layer 8, plain: slots over a disk: what Read tells, what Write makes of it.
-/
import Derived.Test.YtnnkibhlildojaaDoorGSpec
import Derived.Test.YtnnkibhlildojaaDoorDSpec
namespace Go.Proofs.YtnnkibhlildojaaDoor
set_option maxRecDepth 100000

/-- Read: the value, the version, the error's number. -/
def tellS : Option (Nat × List UInt8) → List UInt8 × Nat × Nat
  | none => ([], 0, 14)
  | some (v, p) => (p, v, 0)
def DS.fitS (d : DS) (i : Int) : Prop := 0 ≤ i ∧ i + 2 ≤ d.dur.length
instance (d : DS) (i : Int) : Decidable (d.fitS i) := inferInstanceAs (Decidable (_ ∧ _))
def DS.slotsR (d : DS) (i : Int) : List UInt8 × Nat × Nat :=
  if ¬ d.fitS i then ([], 0, 6) else if d.off = true then ([], 0, 12) else tellS (G.best (G.slotV (d.read i.toNat) 0) (G.slotV (d.read (i.toNat + 1)) 1))
/-- Write: the error's number, and the disk behind it. -/
def DS.slotsE (d : DS) (i v : Int) (p : List UInt8) : Nat :=
  if ¬ d.fitS i ∨ v < 1 ∨ 1099511627776 < v then 6 else if 234 < p.length then 3
  else if d.writeE (i + v % 2) (E.sct v.toNat p) ≠ 0 then d.writeE (i + v % 2) (E.sct v.toNat p) else (d.writeD (i + v % 2) (E.sct v.toNat p)).flushE
def DS.slotsD (d : DS) (i v : Int) (p : List UInt8) : DS :=
  if ¬ d.fitS i ∨ v < 1 ∨ 1099511627776 < v then d else if 234 < p.length then d
  else if d.writeE (i + v % 2) (E.sct v.toNat p) ≠ 0 then d.writeD (i + v % 2) (E.sct v.toNat p) else (d.writeD (i + v % 2) (E.sct v.toNat p)).flushD

/-- A slot by its one end: what counts has it as the other end too. -/
theorem slot_front (raw : List UInt8) (i : Nat) : (if raw.length = 256 ∧ E.front raw ≤ 1099511627776 ∧ E.front raw % 2 = i then (E.openS (E.front raw) raw).map fun p => (E.front raw, p) else none) = G.slotV raw i := by
  unfold G.slotV
  by_cases h : raw.length = 256 ∧ E.front raw ≤ 1099511627776 ∧ E.front raw % 2 = i
  · rw [if_pos h]
    by_cases k : raw.length = 256 ∧ E.front raw = E.back raw ∧ 1 ≤ E.front raw ∧ E.front raw ≤ 1099511627776 ∧ E.front raw % 2 = i
    · rw [if_pos k]
    · rw [if_neg k]
      cases hq : E.openS (E.front raw) raw with
      | none => rfl
      | some q =>
        exfalso
        have hc : E.counts (E.front raw) raw = true := by unfold E.counts; rw [hq]; rfl
        obtain ⟨h0, h1, h2⟩ := E.counts_ends (Nat.lt_of_le_of_lt h.2.1 (by decide)) hc
        exact k ⟨h.1, h2.symm, by omega, h.2.1, h.2.2⟩
  · rw [if_neg h, if_neg (fun k => h ⟨k.1, k.2.2.2.1, k.2.2.2.2⟩)]

/-! ### A disk of which nothing is under way -/
structure DS.Calm (d : DS) : Prop where
  ways : d.ways = []
  off : d.off = false
theorem DS.Calm.read {d : DS} (h : d.Calm) (i : Nat) : d.read i = d.dur.getD i [] := by
  unfold DS.read; rw [h.ways]; rfl
theorem DS.Calm.tells {d : DS} (h : d.Calm) {i : Nat} (hi : i + 2 ≤ d.dur.length) : d.slotsR i = tellS (G.readS fun j => d.dur.getD (i + j) []) := by
  unfold DS.slotsR
  have hf : d.fitS i := ⟨by omega, by omega⟩
  rw [if_neg (fun k => k hf), if_neg (by rw [h.off]; simp), h.read, h.read]
  rfl
/-- The place of a version's slot. -/
theorem slot_place {i v : Nat} : ((i : Int) + (v : Int) % 2) = ((i + v % 2 : Nat) : Int) := by omega
theorem DS.reach_calm {d : DS} (h : d.off = false) {i : Nat} (hi : i < d.dur.length) : d.reach i = 0 := by
  unfold DS.reach; rw [h, if_neg (by simp), if_neg (by omega)]
section
variable {d : DS} {i v : Nat} {p : List UInt8}
theorem DS.Calm.reach (h : d.Calm) (hi : i + 2 ≤ d.dur.length) : d.reach ((i : Int) + (v : Int) % 2) = 0 := by
  rw [slot_place]; exact DS.reach_calm h.off (by omega)
theorem DS.slots_in (hi : i + 2 ≤ d.dur.length) (h1 : 1 ≤ v) (h2 : v ≤ 1099511627776) : ¬ (¬ d.fitS i ∨ (v : Int) < 1 ∨ 1099511627776 < (v : Int)) := by
  have hf : d.fitS i := ⟨by omega, by omega⟩
  rintro (k | k | k)
  · exact k hf
  · omega
  · omega
/-- The power goes at the write. -/
theorem DS.Calm.slots0 (h : d.Calm) (hi : i + 2 ≤ d.dur.length) (h1 : 1 ≤ v) (h2 : v ≤ 1099511627776) (hp : p.length ≤ 234) (ha : d.armed = 0) :
    d.slotsE i v p = 12 ∧ d.slotsD i v p = { d with ways := [(i + v % 2, E.sct v p)], off := true } := by
  have hr := h.reach (v := v) hi
  have hw : d.writeE ((i : Int) + (v : Int) % 2) (E.sct v p) = 12 := by unfold DS.writeE; rw [if_neg (by rw [hr]; simp), if_neg (by rw [E.sct_length v hp]; simp), if_pos ha]
  have hd : d.writeD ((i : Int) + (v : Int) % 2) (E.sct v p) = { d with ways := [(i + v % 2, E.sct v p)], off := true } := by
    unfold DS.writeD; rw [if_neg (by rw [hr]; simp), if_neg (by rw [E.sct_length v hp]; simp), if_pos ha, h.ways, slot_place]; rfl
  refine ⟨?_, ?_⟩
  · unfold DS.slotsE
    simp only [Int.toNat_natCast]
    rw [if_neg (DS.slots_in hi h1 h2), if_neg (by omega), hw, if_pos (by decide)]
  · unfold DS.slotsD
    simp only [Int.toNat_natCast]
    rw [if_neg (DS.slots_in hi h1 h2), if_neg (by omega), hw, if_pos (by decide)]
    exact hd
theorem DS.Calm.wrote (h : d.Calm) (hi : i + 2 ≤ d.dur.length) (hp : p.length ≤ 234) (ha : d.armed ≠ 0) :
    d.writeE ((i : Int) + (v : Int) % 2) (E.sct v p) = 0 ∧ d.writeD ((i : Int) + (v : Int) % 2) (E.sct v p) = { d with ways := [(i + v % 2, E.sct v p)], armed := dec d.armed, wr := d.wr + 1 } := by
  have hr := h.reach (v := v) hi
  refine ⟨?_, ?_⟩
  · unfold DS.writeE; rw [if_neg (by rw [hr]; simp), if_neg (by rw [E.sct_length v hp]; simp), if_neg ha]
  · unfold DS.writeD; rw [if_neg (by rw [hr]; simp), if_neg (by rw [E.sct_length v hp]; simp), if_neg ha, h.ways, slot_place]; rfl
/-- The power goes at the flush. -/
theorem DS.Calm.slots1 (h : d.Calm) (hi : i + 2 ≤ d.dur.length) (h1 : 1 ≤ v) (h2 : v ≤ 1099511627776) (hp : p.length ≤ 234) (ha : d.armed = 1) :
    d.slotsE i v p = 12 ∧ d.slotsD i v p = { d with ways := [(i + v % 2, E.sct v p)], armed := 0, off := true, wr := d.wr + 1 } := by
  obtain ⟨hw, hd⟩ := h.wrote (v := v) (p := p) hi hp (by omega)
  have e : dec d.armed = 0 := by rw [ha]; rfl
  refine ⟨?_, ?_⟩
  · unfold DS.slotsE
    simp only [Int.toNat_natCast]
    rw [if_neg (DS.slots_in hi h1 h2), if_neg (by omega), hw, if_neg (by decide), hd]
    unfold DS.flushE
    simp only [h.off, e]
    rfl
  · unfold DS.slotsD
    simp only [Int.toNat_natCast]
    rw [if_neg (DS.slots_in hi h1 h2), if_neg (by omega), hw, if_neg (by decide), hd]
    unfold DS.flushD
    simp only [h.off, e]
    rfl
/-- The power stays on. -/
theorem DS.Calm.slots2 (h : d.Calm) (hi : i + 2 ≤ d.dur.length) (h1 : 1 ≤ v) (h2 : v ≤ 1099511627776) (hp : p.length ≤ 234) (ha : d.armed ≠ 0) (ha1 : d.armed ≠ 1) :
    d.slotsE i v p = 0 ∧ d.slotsD i v p = { d with dur := d.dur.set (i + v % 2) (E.sct v p), ways := [], armed := dec (dec d.armed), wr := d.wr + 1, fl := d.fl + 1 } := by
  obtain ⟨hw, hd⟩ := h.wrote (v := v) (p := p) hi hp (by omega)
  have e : dec d.armed ≠ 0 := by unfold dec; split <;> omega
  refine ⟨?_, ?_⟩
  · unfold DS.slotsE
    simp only [Int.toNat_natCast]
    rw [if_neg (DS.slots_in hi h1 h2), if_neg (by omega), hw, if_neg (by decide), hd]
    unfold DS.flushE
    simp only [h.off, if_neg e]
    rfl
  · unfold DS.slotsD
    simp only [Int.toNat_natCast]
    rw [if_neg (DS.slots_in hi h1 h2), if_neg (by omega), hw, if_neg (by decide), hd]
    unfold DS.flushD
    simp only [h.off, if_neg e]
    rfl
end
end Go.Proofs.YtnnkibhlildojaaDoor
