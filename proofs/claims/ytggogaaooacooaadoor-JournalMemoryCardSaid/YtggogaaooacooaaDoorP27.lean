/-
  Layer 10, plain: a record by its pieces, as the program gathers them.
  Frames behind a quiet call.
  What calls over a disk may turn: a set of blocks; disk's contracts by it.
-/
import Derived.Test.YtggogaaooacooaaDoorP26
import Derived.Test.YtggogaaooacooaaDoorP10
import Derived.Test.YtggogaaooacooaaDoorP21
import Derived.Test.YtggogaaooacooaaDoorP23
namespace Go.Proofs.YtggogaaooacooaaDoor.J
set_option maxRecDepth 100000

/-- What stands ahead of a piece; where a piece ends. -/
def headZ (z : Nat) : Nat → List UInt8
  | 0 => 1 :: E.low 4 z
  | _ + 1 => [0]
def upto (z k : Nat) : Nat := min (ends (k + 1)) z
theorem ends_leZ {z k : Nat} (h : k < cost z) : ends k ≤ z := by
  cases k with
  | zero => exact Nat.zero_le _
  | succ k => exact Nat.le_of_lt (ends_lt h)
theorem ends_mono : ∀ {a b : Nat}, a ≤ b → ends a ≤ ends b
  | 0, b, _ => Nat.zero_le _
  | a + 1, 0, h => by omega
  | a + 1, b + 1, h => by show 229 + 233 * a ≤ 229 + 233 * b; omega
theorem upto_ge {z k : Nat} (h : k < cost z) : ends k ≤ upto z k := by
  have h1 := ends_leZ h
  have h2 := ends_mono (show k ≤ k + 1 by omega)
  unfold upto; omega
theorem upto_le (z k : Nat) : upto z k ≤ z := by unfold upto; omega
theorem pay_eq (v : List UInt8) (k : Nat) : pay v k = headZ v.length k ++ (v.drop (ends k)).take (upto v.length k - ends k) := by
  cases k with
  | zero =>
    show 1 :: (E.low 4 v.length ++ v.take 229) = 1 :: E.low 4 v.length ++ (v.drop 0).take (min (229 + 233 * 0) v.length - 0)
    rw [List.drop_zero, List.cons_append, Nat.sub_zero]
    congr 2
    rcases Nat.le_total v.length 229 with h | h
    · rw [List.take_of_length_le h, List.take_of_length_le (by omega)]
    · rw [show min (229 + 233 * 0) v.length = 229 by omega]
  | succ k =>
    show 0 :: (v.drop (229 + 233 * k)).take 233 = [0] ++ (v.drop (229 + 233 * k)).take (min (229 + 233 * (k + 1)) v.length - (229 + 233 * k))
    rw [List.singleton_append]
    congr 1
    rcases Nat.le_total v.length (229 + 233 * (k + 1)) with h | h
    · rw [List.take_of_length_le (by rw [List.length_drop]; omega), List.take_of_length_le (by rw [List.length_drop]; omega)]
    · rw [show min (229 + 233 * (k + 1)) v.length - (229 + 233 * k) = 233 by omega]
theorem piece_length {v : List UInt8} {k : Nat} : ((v.drop (ends k)).take (upto v.length k - ends k)).length = upto v.length k - ends k := by
  have := upto_le v.length k
  rw [List.length_take, List.length_drop]; omega

/-- The first k pieces of z bytes have been read: they are o. -/
structure Got (s : Nat → Option (List UInt8)) (i z k : Nat) (o : List UInt8) : Prop where
  len : o.length = min (ends k) z
  each : ∀ j, j < k → s (i + j) = some (headZ z j ++ (o.drop (ends j)).take (upto z j - ends j))
theorem Got.none (s : Nat → Option (List UInt8)) (i z : Nat) : Got s i z 0 [] := ⟨by simp [ends], fun j hj => absurd hj (Nat.not_lt_zero j)⟩
theorem Got.more {s : Nat → Option (List UInt8)} {i z k : Nat} {o t : List UInt8} (h : Got s i z k o) (hk : k < cost z) (hs : s (i + k) = some (headZ z k ++ t)) (ht : t.length = upto z k - ends k) : Got s i z (k + 1) (o ++ t) := by
  have he := ends_leZ hk
  have hu := upto_ge hk
  have hl : o.length = ends k := by rw [h.len]; omega
  refine ⟨?_, fun j hj => ?_⟩
  · rw [List.length_append, hl, ht]
    show ends k + (min (ends (k + 1)) z - ends k) = _
    unfold upto at hu
    omega
  · rcases Nat.lt_or_ge j k with hjk | hjk
    · rw [h.each j hjk]
      have hje : upto z j ≤ ends k := by have := ends_mono (show j + 1 ≤ k by omega); unfold upto; omega
      have hjs : ends j ≤ ends k := ends_mono (by omega)
      rw [List.drop_append_of_le_length (by omega), List.take_append_of_le_length (by rw [List.length_drop]; omega)]
    · obtain rfl : j = k := by omega
      rw [hs]
      congr 2
      rw [← hl, List.drop_left, hl, List.take_of_length_le (by omega)]
theorem Got.all {s : Nat → Option (List UInt8)} {n i z : Nat} {o : List UInt8} (h : Got s i z (cost z) o) (hz : z < 4294967296) (hn : i + cost z ≤ n) : o.length = z ∧ J.rec s n i = some o := by
  have hl : o.length = z := by rw [h.len]; have := cost_le z; omega
  refine ⟨hl, rec_some ⟨by omega, by rw [hl]; exact hn, fun k hk => ?_⟩⟩
  rw [hl] at hk
  rw [h.each k hk, pay_eq, hl]
/-- A piece that isn't right: there is no record. -/
theorem got_no {s : Nat → Option (List UInt8)} {n i z k : Nat} {q : List UInt8} (h0 : s i = some q) (hz : sizeOf q = z) (hk : k < cost z) (hbad : ∀ t, t.length = upto z k - ends k → s (i + k) ≠ some (headZ z k ++ t)) : rec s n i = none := rec_none fun v w => by
  have e := w.each 0 (cost_pos _)
  rw [Nat.add_zero, h0] at e
  injection e with e
  have ev : v.length = z := by rw [← hz, e, size_pay w.small]
  have := w.each k (by rw [ev]; exact hk)
  rw [pay_eq, ev] at this
  exact hbad _ (by rw [← ev]; exact piece_length) this
/-- The payload where a sector doesn't count is empty. -/
def payN (s : Nat → Option (List UInt8)) (k : Nat) : List UInt8 := (s k).getD []
theorem pay_some {s : Nat → Option (List UInt8)} {k : Nat} {p : List UInt8} (h : payN s k = p) (hp : p ≠ []) : s k = some p := by
  unfold payN at h
  cases hq : s k with
  | none => rw [hq] at h; exact absurd h.symm hp
  | some q => rw [hq] at h; exact congrArg some h
theorem payN_of {s : Nat → Option (List UInt8)} {k : Nat} {p : List UInt8} (h : s k = some p) : payN s k = p := by unfold payN; rw [h]; rfl
theorem headZ_ne (z k : Nat) : headZ z k ≠ [] := by cases k <;> simp [headZ]
theorem headZ_length (z k : Nat) : (headZ z k).length = if k = 0 then 5 else 1 := by cases k <;> simp [headZ, E.low_length]
theorem got_first {s : Nat → Option (List UInt8)} {i z k : Nat} {t : List UInt8} (h : payN s (i + k) = headZ z k ++ t) : s (i + k) = some (headZ z k ++ t) := pay_some h (by have := headZ_ne z k; simp [this])
/-- A payload that is too short for a record's beginning. -/
theorem rec_few {s : Nat → Option (List UInt8)} {n i : Nat} (h : (payN s i).length < 5) : rec s n i = none := rec_none fun v w => by
  have e := w.each 0 (cost_pos _)
  rw [Nat.add_zero] at e
  rw [payN_of e] at h
  have := pay0_length v
  omega
theorem rec_wide {s : Nat → Option (List UInt8)} {n i : Nat} (hn : n < i + cost (sizeOf (payN s i))) : rec s n i = none := by
  cases hq : s i with
  | none => exact rec_no1 hq
  | some q => rw [payN_of hq] at hn; exact rec_room hq hn
/-- A piece that doesn't begin so, or is of another length. -/
theorem rec_other {s : Nat → Option (List UInt8)} {n i z k : Nat} (hz : sizeOf (payN s i) = z) (hk : k < cost z) (hbad : ∀ t, t.length = upto z k - ends k → payN s (i + k) ≠ headZ z k ++ t) : rec s n i = none := by
  cases hq : s i with
  | none => exact rec_no1 hq
  | some q =>
    rw [payN_of hq] at hz
    exact got_no hq hz hk (fun t ht e => hbad t ht (payN_of e))
end Go.Proofs.YtggogaaooacooaaDoor.J
namespace Go.Proofs.YtggogaaooacooaaDoor
open Go.RowKit
set_option maxRecDepth 100000

theorem keeps_qt {S : Nat → Prop} {w0 w w' : World} (h : Keeps S w0 w) (q : Qt w w') : Keeps S w0 w' := Keeps.trans h q (fun _ _ e => e.elim)
theorem since_qt {w0 w w' : World} (h : Since w0.heap.size w0 w) (q : Qt w w') : Since w0.heap.size w0 w' := keeps_qt h q
end Go.Proofs.YtggogaaooacooaaDoor
namespace Go.Proofs.YtggogaaooacooaaDoor
open Go.RowKit Go.WideShapes
set_option maxRecDepth 100000

/-- What may turn: S; all new blocks are of it, no error's variable, none of their texts and no table. -/
structure Room (ad : Nat → Addr) (S : Nat → Prop) (w0 : World) : Prop where
  errs : Errs ad w0
  tab : Tab w0
  off : OffErrs ad S
  offTab : ¬ S 38
  up : ∀ k, w0.heap.size ≤ k → S k
section
variable {ad : Nat → Addr} {S : Nat → Prop} {w0 w : World} {b : Nat} {d : DS}
theorem Room.errs' (R : Room ad S w0) (hS : Keeps S w0 w) : Errs ad w := R.errs.kept hS R.off
theorem Room.tab' (R : Room ad S w0) (hS : Keeps S w0 w) : Tab w := fun k hk => hS.cellv (R.tab k hk) R.offTab
theorem Room.of (hE : Errs ad w0) (hT : Tab w0) : Room ad (fun k => w0.heap.size ≤ k) w0 :=
  ⟨hE, hT, off_since hE, fun h => by have := World.block_lt_of_cell? w0 _ (hT 0 (by decide)); simp only at this; omega, fun _ h => h⟩
theorem Room.disk (R : Room ad S w0) {w' : World} (hS : Keeps S w0 w) (h : DiskAt w' b d (Grow S w w')) : DiskAt w' b d S :=
  h.mono (fun k hk => by
    rcases hk with hk | ⟨hk, _⟩
    · exact hk
    · exact R.up k (Nat.le_trans hS.size hk))
theorem Room.keeps {w' : World} (hS : Keeps S w0 w) (h : Keeps S w w') : Keeps S w0 w' := Keeps.trans hS h (fun _ _ e => e)
theorem room_arm (R : Room ad S w0) (hS : Keeps S w0 w) (h : DiskAt w b d S) (k : Int) (hk : k ≤ 9223372036854775807) :
    Calls Tryd.prog 36 #[.pointer (some ⟨b, 0, none⟩), .int .i64 k] w fun e w' => e = .returned (.tuple #[]) ∧ DiskAt w' b (d.armD k) S ∧ Keeps S w0 w' := by
  refine (arm_any h k hk).mono ?_
  rintro e w' ⟨he, hD, hK⟩
  exact ⟨he, R.disk hS hD, Room.keeps hS hK⟩
theorem room_write (R : Room ad S w0) (hS : Keeps S w0 w) (h : DiskAt w b d S) (hf : d.Few) (i : Int) (s : ByteArray) :
    Calls Tryd.prog 33 #[.pointer (some ⟨b, 0, none⟩), .int .i64 i, .string s] w fun e w' => e = .returned (errV ad (d.writeE i (strL s))) ∧ DiskAt w' b (d.writeD i (strL s)) S ∧ Keeps S w0 w' := by
  refine (write_any ad (R.errs' hS) R.off h hf i s).mono ?_
  rintro e w' ⟨he, hD, hK⟩
  exact ⟨he, R.disk hS hD, Room.keeps hS hK⟩
theorem room_flush (R : Room ad S w0) (hS : Keeps S w0 w) (h : DiskAt w b d S) (hf : d.Few) :
    Calls Tryd.prog 69 #[.pointer (some ⟨b, 0, none⟩)] w fun e w' => e = .returned (errV ad d.flushE) ∧ DiskAt w' b d.flushD S ∧ Keeps S w0 w' := by
  refine (flush_any ad (R.errs' hS) R.off h hf).mono ?_
  rintro e w' ⟨he, hD, hK⟩
  exact ⟨he, R.disk hS hD, Room.keeps hS hK⟩
theorem room_crash (R : Room ad S w0) (hS : Keeps S w0 w) (h : DiskAt w b d S) (hf : d.Few) (v : Value) (f : FT) (hv : Bools w v f.kept) (hb : ∀ a n c, v = .slice (some a) n c → n ≠ 0 → ¬ S a.block) :
    Calls Tryd.prog 38 #[.pointer (some ⟨b, 0, none⟩), fateV v f] w fun e w' => e = .returned (.tuple #[]) ∧ DiskAt w' b (d.crashD f) S ∧ Keeps S w0 w' := by
  refine (crash_any w b d _ h hf v f hv hb).mono ?_
  rintro e w' ⟨he, hD, hK⟩
  exact ⟨he, R.disk hS hD, Room.keeps hS hK⟩
theorem room_read (R : Room ad S w0) (hS : Keeps S w0 w) (h : DiskAt w b d S) (i : Int) :
    Calls Tryd.prog 92 #[.pointer (some ⟨b, 0, none⟩), .int .i64 i] w fun e w' => e = .returned (.tuple #[.string ⟨(d.readE i).toArray⟩, errV ad (d.reach i)]) ∧ w = w' := read_any ad (R.errs' hS) h i
end
end Go.Proofs.YtggogaaooacooaaDoor
