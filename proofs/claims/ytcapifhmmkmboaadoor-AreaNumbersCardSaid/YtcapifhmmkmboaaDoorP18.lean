/-
  Layer 8, plain: slots over a disk: what Read tells, what Write makes of it.
  Layer 9, plain: a value's pieces, what is read of sectors, what a Write leaves on a disk.
  The contracts of remitref09's Room, Sectors and place.
-/
import Derived.Test.YtcapifhmmkmboaaDoorP17
import Derived.Test.YtcapifhmmkmboaaDoorP02
import Derived.Test.YtcapifhmmkmboaaDoorP15
namespace Go.Proofs.YtcapifhmmkmboaaDoor
set_option maxRecDepth 100000

/-- Read: the value, the version, the error's number. -/
def tellS : Option (Nat × List UInt8) → List UInt8 × Nat × Nat
  | none => ([], 0, 14)
  | some (v, p) => (p, v, 0)
def DS.fitS (d : DS) (i : Int) : Prop := 0 ≤ i ∧ i + 2 ≤ d.dur.length
instance (d : DS) (i : Int) : Decidable (d.fitS i) := inferInstanceAs (Decidable (_ ∧ _))
def DS.slotsR (d : DS) (i : Int) : List UInt8 × Nat × Nat :=
  if ¬ d.fitS i then ([], 0, 6) else if d.off = true then ([], 0, 12) else tellS (G.best (G.slotV (d.read i.toNat) 0) (G.slotV (d.read (i.toNat + 1)) 1))
/-- Write: the error's number, and the disk behind it. -/
def DS.slotsE (d : DS) (i v : Int) (p : List UInt8) : Nat :=
  if ¬ d.fitS i ∨ v < 1 ∨ 1099511627776 < v then 6 else if 234 < p.length then 3
  else if d.writeE (i + v % 2) (E.sct v.toNat p) ≠ 0 then d.writeE (i + v % 2) (E.sct v.toNat p) else (d.writeD (i + v % 2) (E.sct v.toNat p)).flushE
def DS.slotsD (d : DS) (i v : Int) (p : List UInt8) : DS :=
  if ¬ d.fitS i ∨ v < 1 ∨ 1099511627776 < v then d else if 234 < p.length then d
  else if d.writeE (i + v % 2) (E.sct v.toNat p) ≠ 0 then d.writeD (i + v % 2) (E.sct v.toNat p) else (d.writeD (i + v % 2) (E.sct v.toNat p)).flushD

/-- A slot by its one end: what counts has it as the other end too. -/
theorem slot_front (raw : List UInt8) (i : Nat) : (if raw.length = 256 ∧ E.front raw ≤ 1099511627776 ∧ E.front raw % 2 = i then (E.openS (E.front raw) raw).map fun p => (E.front raw, p) else none) = G.slotV raw i := by
  unfold G.slotV
  by_cases h : raw.length = 256 ∧ E.front raw ≤ 1099511627776 ∧ E.front raw % 2 = i
  · rw [if_pos h]
    by_cases k : raw.length = 256 ∧ E.front raw = E.back raw ∧ 1 ≤ E.front raw ∧ E.front raw ≤ 1099511627776 ∧ E.front raw % 2 = i
    · rw [if_pos k]
    · rw [if_neg k]
      cases hq : E.openS (E.front raw) raw with
      | none => rfl
      | some q =>
        exfalso
        have hc : E.counts (E.front raw) raw = true := by unfold E.counts; rw [hq]; rfl
        obtain ⟨h0, h1, h2⟩ := E.counts_ends (Nat.lt_of_le_of_lt h.2.1 (by decide)) hc
        exact k ⟨h.1, h2.symm, by omega, h.2.1, h.2.2⟩
  · rw [if_neg h, if_neg (fun k => h ⟨k.1, k.2.2.2.1, k.2.2.2.2⟩)]

/-! ### A disk of which nothing is under way -/
structure DS.Calm (d : DS) : Prop where
  ways : d.ways = []
  off : d.off = false
theorem DS.Calm.read {d : DS} (h : d.Calm) (i : Nat) : d.read i = d.dur.getD i [] := by
  unfold DS.read; rw [h.ways]; rfl
theorem DS.Calm.tells {d : DS} (h : d.Calm) {i : Nat} (hi : i + 2 ≤ d.dur.length) : d.slotsR i = tellS (G.readS fun j => d.dur.getD (i + j) []) := by
  unfold DS.slotsR
  have hf : d.fitS i := ⟨by omega, by omega⟩
  rw [if_neg (fun k => k hf), if_neg (by rw [h.off]; simp), h.read, h.read]
  rfl
/-- The place of a version's slot. -/
theorem slot_place {i v : Nat} : ((i : Int) + (v : Int) % 2) = ((i + v % 2 : Nat) : Int) := by omega
theorem DS.reach_calm {d : DS} (h : d.off = false) {i : Nat} (hi : i < d.dur.length) : d.reach i = 0 := by
  unfold DS.reach; rw [h, if_neg (by simp), if_neg (by omega)]
section
variable {d : DS} {i v : Nat} {p : List UInt8}
theorem DS.Calm.reach (h : d.Calm) (hi : i + 2 ≤ d.dur.length) : d.reach ((i : Int) + (v : Int) % 2) = 0 := by
  rw [slot_place]; exact DS.reach_calm h.off (by omega)
theorem DS.slots_in (hi : i + 2 ≤ d.dur.length) (h1 : 1 ≤ v) (h2 : v ≤ 1099511627776) : ¬ (¬ d.fitS i ∨ (v : Int) < 1 ∨ 1099511627776 < (v : Int)) := by
  have hf : d.fitS i := ⟨by omega, by omega⟩
  rintro (k | k | k)
  · exact k hf
  · omega
  · omega
/-- The power goes at the write. -/
theorem DS.Calm.slots0 (h : d.Calm) (hi : i + 2 ≤ d.dur.length) (h1 : 1 ≤ v) (h2 : v ≤ 1099511627776) (hp : p.length ≤ 234) (ha : d.armed = 0) :
    d.slotsE i v p = 12 ∧ d.slotsD i v p = { d with ways := [(i + v % 2, E.sct v p)], off := true } := by
  have hr := h.reach (v := v) hi
  have hw : d.writeE ((i : Int) + (v : Int) % 2) (E.sct v p) = 12 := by unfold DS.writeE; rw [if_neg (by rw [hr]; simp), if_neg (by rw [E.sct_length v hp]; simp), if_pos ha]
  have hd : d.writeD ((i : Int) + (v : Int) % 2) (E.sct v p) = { d with ways := [(i + v % 2, E.sct v p)], off := true } := by
    unfold DS.writeD; rw [if_neg (by rw [hr]; simp), if_neg (by rw [E.sct_length v hp]; simp), if_pos ha, h.ways, slot_place]; rfl
  refine ⟨?_, ?_⟩
  · unfold DS.slotsE
    simp only [Int.toNat_natCast]
    rw [if_neg (DS.slots_in hi h1 h2), if_neg (by omega), hw, if_pos (by decide)]
  · unfold DS.slotsD
    simp only [Int.toNat_natCast]
    rw [if_neg (DS.slots_in hi h1 h2), if_neg (by omega), hw, if_pos (by decide)]
    exact hd
theorem DS.Calm.wrote (h : d.Calm) (hi : i + 2 ≤ d.dur.length) (hp : p.length ≤ 234) (ha : d.armed ≠ 0) :
    d.writeE ((i : Int) + (v : Int) % 2) (E.sct v p) = 0 ∧ d.writeD ((i : Int) + (v : Int) % 2) (E.sct v p) = { d with ways := [(i + v % 2, E.sct v p)], armed := dec d.armed, wr := d.wr + 1 } := by
  have hr := h.reach (v := v) hi
  refine ⟨?_, ?_⟩
  · unfold DS.writeE; rw [if_neg (by rw [hr]; simp), if_neg (by rw [E.sct_length v hp]; simp), if_neg ha]
  · unfold DS.writeD; rw [if_neg (by rw [hr]; simp), if_neg (by rw [E.sct_length v hp]; simp), if_neg ha, h.ways, slot_place]; rfl
/-- The power goes at the flush. -/
theorem DS.Calm.slots1 (h : d.Calm) (hi : i + 2 ≤ d.dur.length) (h1 : 1 ≤ v) (h2 : v ≤ 1099511627776) (hp : p.length ≤ 234) (ha : d.armed = 1) :
    d.slotsE i v p = 12 ∧ d.slotsD i v p = { d with ways := [(i + v % 2, E.sct v p)], armed := 0, off := true, wr := d.wr + 1 } := by
  obtain ⟨hw, hd⟩ := h.wrote (v := v) (p := p) hi hp (by omega)
  have e : dec d.armed = 0 := by rw [ha]; rfl
  refine ⟨?_, ?_⟩
  · unfold DS.slotsE
    simp only [Int.toNat_natCast]
    rw [if_neg (DS.slots_in hi h1 h2), if_neg (by omega), hw, if_neg (by decide), hd]
    unfold DS.flushE
    simp only [h.off, e]
    rfl
  · unfold DS.slotsD
    simp only [Int.toNat_natCast]
    rw [if_neg (DS.slots_in hi h1 h2), if_neg (by omega), hw, if_neg (by decide), hd]
    unfold DS.flushD
    simp only [h.off, e]
    rfl
/-- The power stays on. -/
theorem DS.Calm.slots2 (h : d.Calm) (hi : i + 2 ≤ d.dur.length) (h1 : 1 ≤ v) (h2 : v ≤ 1099511627776) (hp : p.length ≤ 234) (ha : d.armed ≠ 0) (ha1 : d.armed ≠ 1) :
    d.slotsE i v p = 0 ∧ d.slotsD i v p = { d with dur := d.dur.set (i + v % 2) (E.sct v p), ways := [], armed := dec (dec d.armed), wr := d.wr + 1, fl := d.fl + 1 } := by
  obtain ⟨hw, hd⟩ := h.wrote (v := v) (p := p) hi hp (by omega)
  have e : dec d.armed ≠ 0 := by unfold dec; split <;> omega
  refine ⟨?_, ?_⟩
  · unfold DS.slotsE
    simp only [Int.toNat_natCast]
    rw [if_neg (DS.slots_in hi h1 h2), if_neg (by omega), hw, if_neg (by decide), hd]
    unfold DS.flushE
    simp only [h.off, if_neg e]
    rfl
  · unfold DS.slotsD
    simp only [Int.toNat_natCast]
    rw [if_neg (DS.slots_in hi h1 h2), if_neg (by omega), hw, if_neg (by decide), hd]
    unfold DS.flushD
    simp only [h.off, if_neg e]
    rfl
end
end Go.Proofs.YtcapifhmmkmboaaDoor
namespace Go.Proofs.YtcapifhmmkmboaaDoor
set_option maxRecDepth 100000

namespace V
/-- Piece number i. -/
def piece (v : List UInt8) (i : Nat) : List UInt8 := (v.drop (i * 234)).take 234
/-- How many sectors so many bytes need. -/
def nsec (n : Nat) : Nat := (n + 233) / 234
theorem nsec_le {n m : Nat} : n ≤ 234 * m ↔ nsec n ≤ m := by unfold nsec; omega
theorem piece_length (v : List UInt8) (i : Nat) : (piece v i).length = min 234 (v.length - i * 234) := by unfold piece; rw [List.length_take, List.length_drop]
theorem piece_le (v : List UInt8) (i : Nat) : (piece v i).length ≤ 234 := by rw [piece_length]; omega
theorem nsec_lt {n i : Nat} (h : i < nsec n) : i * 234 < n := by unfold nsec at h; omega
theorem nsec_end (n : Nat) : n ≤ nsec n * 234 := by unfold nsec; omega
theorem take_piece (v : List UInt8) (k : Nat) : v.take (k * 234) ++ piece v k = v.take ((k + 1) * 234) := by
  unfold piece
  rw [Nat.succ_mul, List.take_add]

/-- What is read of the first k sectors. -/
def readTo (s : Nat → List UInt8) (st n : Nat) : Nat → Option (List UInt8)
  | 0 => some []
  | k + 1 => (readTo s st n k).bind fun out => (E.openS st (s k)).bind fun p => if p.length = min 234 (n - out.length) then some (out ++ p) else none
def readA (s : Nat → List UInt8) (st n : Nat) : Option (List UInt8) := readTo s st n (nsec n)
/-- Each sector stands as it was written: the value. -/
theorem readTo_all {s : Nat → List UInt8} {st : Nat} (hst : st ≠ 0) (v : List UInt8) : ∀ k, k ≤ nsec v.length → (∀ i, i < k → s i = E.sct st (piece v i)) → readTo s st v.length k = some (v.take (k * 234))
  | 0, _, _ => by simp [readTo]
  | k + 1, hk, h => by
    have hlt := nsec_lt (show k < nsec v.length from hk)
    rw [readTo, readTo_all hst v k (by omega) (fun i hi => h i (by omega)), Option.bind_some, h k (by omega), E.open_sct hst (piece_le v k), Option.bind_some, if_pos, take_piece]
    rw [piece_length, List.length_take]
    congr 1
    omega
theorem readA_all {s : Nat → List UInt8} {st : Nat} (hst : st ≠ 0) (v : List UInt8) (h : ∀ i, i < nsec v.length → s i = E.sct st (piece v i)) : readA s st v.length = some v := by
  unfold readA
  rw [readTo_all hst v _ (Nat.le_refl _) h, List.take_of_length_le (nsec_end _)]
/-- What is read, if it is read, is the value, where no sector counts but as it was written. -/
theorem readTo_some {s : Nat → List UInt8} {st : Nat} (v : List UInt8) (h : ∀ i p, i < nsec v.length → E.openS st (s i) = some p → p = piece v i) : ∀ k, k ≤ nsec v.length → ∀ out, readTo s st v.length k = some out → out = v.take (k * 234)
  | 0, _, out, ho => by simp [readTo] at ho; simp [ho]
  | k + 1, hk, out, ho => by
    rw [readTo] at ho
    obtain ⟨o1, h1, h2⟩ := Option.bind_eq_some_iff.1 ho
    obtain ⟨p, h3, h4⟩ := Option.bind_eq_some_iff.1 h2
    have e1 := readTo_some v h k (by omega) o1 h1
    have e2 := h k p (by omega) h3
    split at h4
    · injection h4 with h4
      rw [← h4, e1, e2, take_piece]
    · cases h4
theorem readA_some {s : Nat → List UInt8} {st : Nat} (v : List UInt8) (h : ∀ i p, i < nsec v.length → E.openS st (s i) = some p → p = piece v i) {out : List UInt8} (ho : readA s st v.length = some out) : out = v := by
  have := readTo_some v h _ (Nat.le_refl _) out ho
  rw [this, List.take_of_length_le (nsec_end _)]
theorem readTo_length {s : Nat → List UInt8} {st n : Nat} : ∀ k, k ≤ nsec n → ∀ out, readTo s st n k = some out → out.length = min (k * 234) n
  | 0, _, out, ho => by simp [readTo] at ho; simp [ho]
  | k + 1, hk, out, ho => by
    have hlt := nsec_lt (show k < nsec n from hk)
    rw [readTo] at ho
    obtain ⟨o1, h1, h2⟩ := Option.bind_eq_some_iff.1 ho
    obtain ⟨p, h3, h4⟩ := Option.bind_eq_some_iff.1 h2
    have e1 := readTo_length k (by omega) o1 h1
    split at h4
    · rename_i hp
      injection h4 with h4
      rw [← h4, List.length_append, hp, e1]
      omega
    · cases h4
theorem readTo_none {s : Nat → List UInt8} {st n k : Nat} (h : readTo s st n k = none) : ∀ m, k ≤ m → readTo s st n m = none := by
  intro m hm
  obtain ⟨j, rfl⟩ := Nat.exists_eq_add_of_le hm
  clear hm
  induction j with
  | zero => exact h
  | succ j ih => rw [← Nat.add_assoc, readTo, ih]; rfl
end V

/-! ### A Write over a disk -/
/-- The disk behind the first k pieces. -/
def DS.areaTo (d : DS) (i st : Nat) (v : List UInt8) : Nat → DS
  | 0 => d
  | k + 1 => (d.areaTo i st v k).writeD ((i + k : Nat) : Int) (E.sct st (V.piece v k))
def DS.mayA (d : DS) (i n : Int) (st : Nat) : Prop := 0 ≤ i ∧ 0 ≤ n ∧ i ≤ d.dur.length ∧ n ≤ d.dur.length - i ∧ st ≠ 0
instance (d : DS) (i n : Int) (st : Nat) : Decidable (d.mayA i n st) := inferInstanceAs (Decidable (_ ∧ _))
/-- The error's number and the disk behind pieces k, k + 1, .. (fuel), then the flush. -/
def DS.areaGo (i st : Nat) (v : List UInt8) : Nat → Nat → DS → Nat × DS
  | 0, _, d => (d.flushE, d.flushD)
  | m + 1, k, d => if d.writeE ((i + k : Nat) : Int) (E.sct st (V.piece v k)) ≠ 0 then (d.writeE ((i + k : Nat) : Int) (E.sct st (V.piece v k)), d.writeD ((i + k : Nat) : Int) (E.sct st (V.piece v k))) else areaGo i st v m (k + 1) (d.writeD ((i + k : Nat) : Int) (E.sct st (V.piece v k)))
def DS.areaW (d : DS) (i n : Int) (st : Nat) (v : List UInt8) : Nat × DS :=
  if ¬ d.mayA i n st then (6, d) else if 234 * min n.toNat 65536 < v.length then (3, d) else DS.areaGo i.toNat st v (V.nsec v.length) 0 d
/-- Read: the value, the error's number. -/
def DS.areaR (d : DS) (i n : Int) (st : Nat) (b : Int) : List UInt8 × Nat :=
  if ¬ d.mayA i n st ∨ b < 0 then ([], 6) else if 234 * min n.toNat 65536 < b.toNat then ([], 3) else if d.off = true then ([], 12)
  else match V.readA (fun k => d.read (i.toNat + k)) st b.toNat with
    | some out => (out, 0)
    | none => ([], 15)
end Go.Proofs.YtcapifhmmkmboaaDoor
namespace Go.Proofs.YtcapifhmmkmboaaDoor
open Go.RowKit Go.WideShapes
set_option maxRecDepth 100000

/-- Room of a number. -/
def roomZ (n : Int) : Int := 234 * min (max n 0) 65536
/-- Sectors of a number. -/
def secsZ (x : Int) : Int := if x ≤ 0 then 0 else (x - 1) / 234 + 1
theorem roomZ_nat (n : Int) : roomZ n = ((234 * min n.toNat 65536 : Nat) : Int) := by unfold roomZ; omega
theorem secsZ_nat (n : Nat) : secsZ (n : Int) = ((V.nsec n : Nat) : Int) := by unfold secsZ V.nsec; split <;> omega

theorem refRoom_any (n : Int) (w : World) : Calls Tryd.prog 10 #[.int .i64 n] w fun e w' => e = .returned (.int .i64 (roomZ n)) ∧ w' = w := by
  by_cases h0 : n ≤ 0
  · have FIN := Lib.hid (show roomZ n = 0 by unfold roomZ; omega)
    have z : max n 0 = 0 := by omega
    go_enter Tryd.func10, Tryd.ntmps10
    go_wp2
    go_ret
    exact ⟨by rw [FIN.out]; rfl, rfl⟩
  · by_cases h1 : n ≤ 65536
    · have FIN := Lib.hid (show roomZ n = 234 * n by unfold roomZ; omega)
      have z : max n 0 = n := by omega
      have z2 : min n 65536 = n := by omega
      go_enter Tryd.func10, Tryd.ntmps10
      go_wp2
      go_ret
      exact ⟨by rw [FIN.out]; rfl, rfl⟩
    · have FIN := Lib.hid (show roomZ n = 15335424 by unfold roomZ; omega)
      have z : max n 0 = n := by omega
      have z2 : min n 65536 = 65536 := by omega
      go_enter Tryd.func10, Tryd.ntmps10
      go_wp2
      go_ret
      exact ⟨by rw [FIN.out]; rfl, rfl⟩
theorem refSectors_any (x : Int) (w : World) (_hx : x ≤ 9223372036854775807) : Calls Tryd.prog 11 #[.int .i64 x] w fun e w' => e = .returned (.int .i64 (secsZ x)) ∧ w' = w := by
  by_cases h0 : x ≤ 0
  · have FIN := Lib.hid (show secsZ x = 0 from if_pos h0)
    go_enter Tryd.func11, Tryd.ntmps11
    go_wp2
    go_ret
    exact ⟨by rw [FIN.out]; rfl, rfl⟩
  · have FIN := Lib.hid (show secsZ x = (x - 1) / 234 + 1 from if_neg h0)
    have z0 : decide (x ≤ 0) = false := decide_eq_false h0
    have z1 : wrap64 (x - 1) = x - 1 := by unfold wrap64; omega
    have z2 : (x - 1).tdiv 234 = (x - 1) / 234 := Int.tdiv_eq_ediv_of_nonneg (by omega)
    have z3 : wrap64 ((x - 1) / 234 + 1) = (x - 1) / 234 + 1 := by unfold wrap64; omega
    go_enter Tryd.func11, Tryd.ntmps11
    go_wp2
    go_ret
    exact ⟨by rw [FIN.out]; rfl, rfl⟩

/-- May the place be? -/
theorem place_any {w0 w : World} {j b c : Nat} {d u : DS} (h : Pair j w0 w b c d u) (i n : Int) (st : Nat) :
    Calls Tryd.prog 48 #[.pointer (some ⟨c, 0, none⟩), .int .i64 i, .int .i64 n, .int .u64 st] w fun e w' => e = .returned (.bool (decide (u.mayA i n st))) ∧ w' = w := by
  have SZ := pairR_size h
  have hl : u.dur.length ≤ 65536 := by
    obtain ⟨S, T, h1, ⟨sv, wv, P, hT⟩, h3, h4, h5, h6⟩ := h
    exact P.ok.le
  by_cases a0 : 0 ≤ i
  · by_cases a1 : 0 ≤ n
    · by_cases a2 : i ≤ (u.dur.length : Int)
      · by_cases a3 : n ≤ (u.dur.length : Int) - i
        · by_cases a4 : st = 0
          · have FIN := Lib.hid (show decide (u.mayA i n st) = false from decide_eq_false (fun k => k.2.2.2.2 a4))
            have y0 : decide (0 ≤ i) = true := decide_eq_true a0
            have y1 : decide (0 ≤ n) = true := decide_eq_true a1
            have y2 : decide (i ≤ (u.dur.length : Int)) = true := decide_eq_true a2
            have y3 : decide (n ≤ (u.dur.length : Int) - i) = true := decide_eq_true a3
            subst a4
            clear h
            generalize u.dur.length = z at *
            go_enter Tryd.func48, Tryd.ntmps48
            go_wp2_with fail
            refine SZ.mono ?_
            rintro e w1 ⟨rfl, rfl⟩
            go_wp2_with fail
            refine SZ.mono ?_
            rintro e w1 ⟨rfl, rfl⟩
            go_wp2
            go_ret
            exact ⟨by rw [FIN.out]; rfl, rfl⟩
          · have FIN := Lib.hid (show decide (u.mayA i n st) = true from decide_eq_true ⟨a0, a1, a2, a3, a4⟩)
            have y0 : decide (0 ≤ i) = true := decide_eq_true a0
            have y1 : decide (0 ≤ n) = true := decide_eq_true a1
            have y2 : decide (i ≤ (u.dur.length : Int)) = true := decide_eq_true a2
            have y3 : decide (n ≤ (u.dur.length : Int) - i) = true := decide_eq_true a3
            have y4 : ((st : Int) != 0) = true := by rw [bne_iff_ne]; omega
            clear h
            generalize u.dur.length = z at *
            go_enter Tryd.func48, Tryd.ntmps48
            go_wp2_with fail
            refine SZ.mono ?_
            rintro e w1 ⟨rfl, rfl⟩
            go_wp2_with fail
            refine SZ.mono ?_
            rintro e w1 ⟨rfl, rfl⟩
            go_wp2
            go_ret
            exact ⟨by rw [FIN.out]; rfl, rfl⟩
        · have FIN := Lib.hid (show decide (u.mayA i n st) = false from decide_eq_false (fun k => a3 k.2.2.2.1))
          have y0 : decide (0 ≤ i) = true := decide_eq_true a0
          have y1 : decide (0 ≤ n) = true := decide_eq_true a1
          have y2 : decide (i ≤ (u.dur.length : Int)) = true := decide_eq_true a2
          have y3 : decide (n ≤ (u.dur.length : Int) - i) = false := decide_eq_false a3
          clear h
          generalize u.dur.length = z at *
          go_enter Tryd.func48, Tryd.ntmps48
          go_wp2_with fail
          refine SZ.mono ?_
          rintro e w1 ⟨rfl, rfl⟩
          go_wp2_with fail
          refine SZ.mono ?_
          rintro e w1 ⟨rfl, rfl⟩
          go_wp2
          go_ret
          exact ⟨by rw [FIN.out]; rfl, rfl⟩
      · have FIN := Lib.hid (show decide (u.mayA i n st) = false from decide_eq_false (fun k => a2 k.2.2.1))
        have y0 : decide (0 ≤ i) = true := decide_eq_true a0
        have y1 : decide (0 ≤ n) = true := decide_eq_true a1
        have y2 : decide (i ≤ (u.dur.length : Int)) = false := decide_eq_false a2
        clear h
        generalize u.dur.length = z at *
        go_enter Tryd.func48, Tryd.ntmps48
        go_wp2_with fail
        refine SZ.mono ?_
        rintro e w1 ⟨rfl, rfl⟩
        go_wp2
        go_ret
        exact ⟨by rw [FIN.out]; rfl, rfl⟩
    · have FIN := Lib.hid (show decide (u.mayA i n st) = false from decide_eq_false (fun k => a1 k.2.1))
      have y0 : decide (0 ≤ i) = true := decide_eq_true a0
      have y1 : decide (0 ≤ n) = false := decide_eq_false a1
      clear h SZ
      go_enter Tryd.func48, Tryd.ntmps48
      go_wp2
      go_ret
      exact ⟨by rw [FIN.out]; rfl, rfl⟩
  · have FIN := Lib.hid (show decide (u.mayA i n st) = false from decide_eq_false (fun k => a0 k.1))
    have y0 : decide (0 ≤ i) = false := decide_eq_false a0
    clear h SZ
    go_enter Tryd.func48, Tryd.ntmps48
    go_wp2
    go_ret
    exact ⟨by rw [FIN.out]; rfl, rfl⟩
end Go.Proofs.YtcapifhmmkmboaaDoor
