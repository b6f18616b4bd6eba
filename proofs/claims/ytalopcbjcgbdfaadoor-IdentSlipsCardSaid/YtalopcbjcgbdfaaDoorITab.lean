/-
  The library's table of powers of ten; numbers as texts and texts as numbers, in the library's words and in ours.
-/
import Derived.Test.YtalopcbjcgbdfaaDoorMPadS
import Derived.Test.YtalopcbjcgbdfaaDoorQt
import Derived.Test.YtalopcbjcgbdfaaDoorITok
import Derived.Lib.ItoaNum
import Derived.Lib.Atoi
import Derived.Lib.AppendIntMem
import Derived.Lib.SmallJoins
import Derived.Lib.LaidTab
namespace Go.Proofs.YtalopcbjcgbdfaaDoor
open Go.RowKit Go.WideShapes
set_option maxRecDepth 100000

abbrev Tab10 (w : World) : Prop := Lib.TabIs Tryd.prog w "internal/strconv.uint64pow10" .u64 Lib.pow10Tab
theorem Tab10.qt {w w' : World} (h : Tab10 w) (q : Qt w w') : Tab10 w' := by
  unfold Tab10 Lib.TabIs World.var? at *
  cases hg : Tryd.prog.globalNamed "internal/strconv.uint64pow10" with
  | none => simp [hg] at h
  | some g =>
    simp only [hg, Option.bind_some] at h ⊢
    have hlt : g < w.heap.size := by
      rcases Nat.lt_or_ge g w.heap.size with h' | h'
      · exact h'
      · rw [Array.getElem?_eq_none h'] at h; simp at h
    rw [q.block g hlt (fun e => e)]
    exact h
theorem decDigits_dec (x : Nat) : Lib.decDigits x = M.dec x := by
  induction x using Nat.strongRecOn with
  | ind x ih =>
    rw [Lib.decDigits, M.dec]
    by_cases h : x < 10
    · rw [dif_pos h, dif_pos h]; rfl
    · rw [dif_neg h, dif_neg h, ih (x / 10) (by omega)]; rfl
theorem itoa_dec (n : Nat) : Lib.itoa (n : Int) = M.dec n := by
  unfold Lib.itoa
  rw [if_neg (by omega), Int.toNat_natCast, decDigits_dec]
theorem qt_grow (w : World) (k : Nat) (os : Array Obj) : Qt w (Sort.grow (w.drewN k) os) := Qt.of_below (Lib.below_grow w.heap.size w (Nat.le_refl _) k os)
theorem qt_bytesWorld (w : World) (e : TypeId) (s : ByteArray) : Qt w (Lib.bytesWorld w e s) := Qt.of_below (Joins.below_bytesWorld w.heap.size w e s (Nat.le_refl _))
theorem digitVal_dg {c : UInt8} (h : I.dig c = true) : Lib.digitVal c = some (c.toNat - 48) := by
  unfold I.dig at h
  unfold Lib.digitVal
  rw [if_pos (of_decide_eq_true h)]
theorem decFrom_val : ∀ (l : List UInt8) (v : Nat), l.all I.dig = true → Lib.decFrom v l = some (M.val v l)
  | [], _, _ => rfl
  | c :: l, v, h => by
    rw [List.all_cons, Bool.and_eq_true] at h
    have hd : M.isDg c = true := h.1
    have ih := decFrom_val l (v * 10 + (c.toNat - 48)) h.2
    rw [Lib.decFrom, digitVal_dg h.1, M.val, hd]
    simp only [if_true]
    rw [ih, Nat.mul_comm]
/-- strconv.Atoi of digits alone. -/
theorem atoi_val {l : List UInt8} (h0 : l ≠ []) (h : l.all I.dig = true) : Lib.atoi l = some ((M.val 0 l : Nat) : Int) := by
  cases l with
  | nil => exact absurd rfl h0
  | cons c r =>
    have hc : I.dig c = true := by rw [List.all_cons, Bool.and_eq_true] at h; exact h.1
    have h45 : (c == 45) = false := by rw [beq_eq_false_iff_ne]; rintro rfl; revert hc; decide
    have h43 : (c == 43) = false := by rw [beq_eq_false_iff_ne]; rintro rfl; revert hc; decide
    simp only [Lib.atoi, Lib.decNat, h45, h43, Bool.false_eq_true, if_false, List.isEmpty_cons]
    rw [decFrom_val _ _ h]; rfl
end Go.Proofs.YtalopcbjcgbdfaaDoor
