/-
  The contracts of After, the reference's After, begins.
-/
import Derived.Test.YtfhfbpjhjigbnaaDoorKForm
import Derived.Test.YtfhfbpjhjigbnaaDoorKCmp
import Derived.Test.YtfhfbpjhjigbnaaDoorKSame
import Derived.RegionTactic
import Derived.ChangeAlike
namespace Go.Proofs.YtfhfbpjhjigbnaaDoor
open Go.RowKit Go.WideShapes
set_option maxRecDepth 100000

/-- 'string([]byte{c})'. -/
theorem conv1 (W : World) (a : Int) : (convert 48 9 (.slice (some ⟨W.heap.size, 0, none⟩) 1 1)).run Tryd.prog (W.alloc (.cells #[.int .u8 a] 5)) = .ok (.string ⟨#[a.toNat.toUInt8]⟩) (W.alloc (.cells #[.int .u8 a] 5)) := by
  have h := run_convert_bytes_arg (P := Tryd.prog) (W.alloc (.cells #[.int .u8 a] 5)) 48 5 Tryd.underlying48 Tryd.underlying5 W.heap.size 0 1 1 [a] rfl (fun i hi => by
    have : i = 0 := by simpa using hi
    subst this
    rw [cell_of_row _ _ _ _ _ _ (heap_alloc_new W _)]; rfl) 9 Tryd.underlying9
  exact h
theorem conv1d (W : World) (a : Int) : (convert 48 9 (.slice (some ⟨W.heap.size, 0, none⟩) 1 1)).run Tryd.prog (W.alloc (.cells #[.int .u8 a] 5)).drew = .ok (.string ⟨#[a.toNat.toUInt8]⟩) (W.alloc (.cells #[.int .u8 a] 5)).drew := by
  have h := run_convert_bytes_arg (P := Tryd.prog) (W.alloc (.cells #[.int .u8 a] 5)).drew 48 5 Tryd.underlying48 Tryd.underlying5 W.heap.size 0 1 1 [a] rfl (fun i hi => by
    have : i = 0 := by simpa using hi
    subst this
    show (W.alloc (.cells #[.int .u8 a] 5)).cell? _ = _
    rw [cell_of_row _ _ _ _ _ _ (heap_alloc_new W _)]; rfl) 9 Tryd.underlying9
  exact h

theorem take_byte' (s : ByteArray) (k : Nat) (h : k < s.size) : s.data.toList.take (k + 1) = s.data.toList.take k ++ [s[k]] := by
  rw [List.take_succ_eq_append_getElem (by simpa using h)]; rfl

theorem after_ff {s : ByteArray} {j : Nat} (h : j < s.size) (hf : s[j] = 255) (he : K.afterB (s.data.toList.take (j + 1)) = K.afterB s.data.toList) : K.afterB (s.data.toList.take j) = K.afterB s.data.toList := by
  rw [← he, take_byte' s j h, hf, K.afterB_ff]
theorem after_hit {s : ByteArray} {j : Nat} (h : j < s.size) (hf : s[j] ≠ 255) (he : K.afterB (s.data.toList.take (j + 1)) = K.afterB s.data.toList) : K.afterB s.data.toList = some (s.data.toList.take j ++ [s[j] + 1]) := by
  rw [← he, take_byte' s j h, K.afterB_last hf]
theorem byte_succ {c : UInt8} (h : c ≠ 255) : (c.toNat : Int) < 255 ∧ ((c.toNat : Int) + 1).toNat.toUInt8 = c + 1 := by
  have hc := c.toNat_lt
  have hn : c.toNat ≠ 255 := fun e => h (UInt8.toNat_inj.1 e)
  refine ⟨by omega, ?_⟩
  apply UInt8.toNat_inj.1
  rw [K.u8_toNat (by omega), UInt8.toNat_add]
  show ((c.toNat : Int) + 1).toNat = (c.toNat + 1) % 256
  omega
theorem after_text {s : ByteArray} {j : Nat} {c : UInt8} {x : Int} (hx : x.toNat.toUInt8 = c) : (s.extract 0 j) ++ (⟨#[x.toNat.toUInt8]⟩ : ByteArray) = ⟨(s.data.toList.take j ++ [c]).toArray⟩ := by
  rw [hx]
  apply ByteArray.ext
  apply Array.toList_inj.1
  rw [ByteArray.data_append, Array.toList_append]
  have := Lib.extract_data s 0 j
  rw [this]
  simp

/-- What After answers. -/
def AfterV (s : List UInt8) (w : World) (e : Ending) (w' : World) : Prop :=
  Qt w w' ∧ ((∃ t, K.afterB s = some t ∧ e = .returned (.tuple #[.string ⟨t.toArray⟩, .bool true])) ∨ (K.afterB s = none ∧ e = .returned (.tuple #[.string ⟨#[]⟩, .bool false])))

def AfterAt (s : ByteArray) (w : World) (i : Value) (wr : World) : Prop :=
  ∃ k : Nat, k ≤ s.size ∧ i = .int .i64 ((k : Int) - 1) ∧ K.afterB (s.data.toList.take k) = K.afterB s.data.toList ∧ w = wr

theorem ff_cases (c : UInt8) : ((c.toNat : Int) == 255) = decide (c = 255) := by
  rw [Bool.eq_iff_iff]
  simp only [beq_iff_eq, decide_eq_true_eq]
  constructor
  · intro h; exact UInt8.toNat_inj.1 (by show c.toNat = 255; omega)
  · rintro rfl; rfl

set_option maxHeartbeats 1600000 in
theorem after_any (s : ByteArray) (w : World) (hs : s.size ≤ 9223372036854775807) : Calls Tryd.prog 18 #[.string s] w (AfterV s.data.toList w) := by
  have hcv := fun W a => conv1 W a
  have hcd := fun W a => conv1d W a
  go_enter Tryd.func18, Tryd.ntmps18
  go_wp2
  go_loopw [4] (fun i wr => AfterAt s w i wr) (fun i _ => (intOf i + 1).toNat)
  case atStart => exact ⟨s.size, Nat.le_refl _, rfl, by rw [show s.data.toList.take s.size = s.data.toList from List.take_of_length_le (Nat.le_of_eq rfl)], rfl⟩
  case round =>
    obtain ⟨k, hk, rfl, he, rfl⟩ := hrel
    cases k with
    | zero =>
      have hn : K.afterB s.data.toList = none := by rw [← he]; rfl
      have Hn := Lib.hid (show AfterV s.data.toList w (.returned (.tuple #[.string ⟨#[]⟩, .bool false])) w from ⟨Qt.refl _, .inr ⟨hn, rfl⟩⟩)
      clear he hn
      go_wp2
      go_ret2
      exact Hn.out
    | succ j =>
      rw [show (((j + 1 : Nat) : Int) - 1) = (j : Int) by omega]
      have hj : j < s.size := hk
      by_cases hf : s[j] = 255
      · have hb : ((s[j].toNat : Int) == 255) = true := by rw [ff_cases]; simpa using hf
        have Fin := Lib.hid (after_ff hj hf he)
        clear he hf
        go_wp2
        go_roundw
        case rel => exact ⟨j, by omega, rfl, Fin.out, rfl⟩
        case measure => simp [intOf]
      · have hb : ((s[j].toNat : Int) == 255) = false := by rw [ff_cases]; simpa using hf
        obtain ⟨hlt, hsc⟩ := byte_succ hf
        have Fin := Lib.hid (fun o => show AfterV s.data.toList w (.returned (.tuple #[.string ((s.extract 0 j) ++ (⟨#[((s[j].toNat : Int) + 1).toNat.toUInt8]⟩ : ByteArray)), .bool true])) (w.alloc o).drew from
          ⟨((Keeps.refl _ _).alloc _).drew, .inl ⟨_, after_hit hj hf he, by rw [after_text hsc]⟩⟩)
        clear he hf hsc
        go_wp2
        go_region
        all_goals
          go_wp2
          go_ret2
          exact Fin.out _

set_option maxHeartbeats 1600000 in
theorem refAfter_any (s : ByteArray) (w : World) (hs : s.size ≤ 9223372036854775807) : Calls Tryd.prog 19 #[.string s] w (AfterV s.data.toList w) := by
  have hcv := fun W a => conv1 W a
  have hcd := fun W a => conv1d W a
  go_enter Tryd.func19, Tryd.ntmps19
  go_wp2
  go_loopw [4] (fun i wr => AfterAt s w i wr) (fun i _ => (intOf i + 1).toNat)
  case atStart => exact ⟨s.size, Nat.le_refl _, rfl, by rw [show s.data.toList.take s.size = s.data.toList from List.take_of_length_le (Nat.le_of_eq rfl)], rfl⟩
  case round =>
    obtain ⟨k, hk, rfl, he, rfl⟩ := hrel
    cases k with
    | zero =>
      have hn : K.afterB s.data.toList = none := by rw [← he]; rfl
      have Hn := Lib.hid (show AfterV s.data.toList w (.returned (.tuple #[.string ⟨#[]⟩, .bool false])) w from ⟨Qt.refl _, .inr ⟨hn, rfl⟩⟩)
      clear he hn
      go_wp2
      go_ret2
      exact Hn.out
    | succ j =>
      rw [show (((j + 1 : Nat) : Int) - 1) = (j : Int) by omega]
      have hj : j < s.size := hk
      by_cases hf : s[j] = 255
      · have hb : ((s[j].toNat : Int) != 255) = false := by have := ff_cases s[j]; rw [bne, this]; simpa using hf
        have Fin := Lib.hid (after_ff hj hf he)
        clear he hf
        go_wp2
        go_roundw
        case rel => exact ⟨j, by omega, rfl, Fin.out, rfl⟩
        case measure => simp [intOf]
      · have hb : ((s[j].toNat : Int) != 255) = true := by have := ff_cases s[j]; rw [bne, this]; simpa using hf
        obtain ⟨hlt, hsc⟩ := byte_succ hf
        have Fin := Lib.hid (fun o => show AfterV s.data.toList w (.returned (.tuple #[.string ((s.extract 0 j) ++ (⟨#[((s[j].toNat : Int) + 1).toNat.toUInt8]⟩ : ByteArray)), .bool true])) (w.alloc o).drew from
          ⟨((Keeps.refl _ _).alloc _).drew, .inl ⟨_, after_hit hj hf he, by rw [after_text hsc]⟩⟩)
        clear he hf hsc
        go_wp2
        go_region
        all_goals
          go_wp2
          go_ret2
          exact Fin.out _

/-! ### begins -/
def begB (t s : ByteArray) : Bool := Lib.hasPrefix t.data.toList s.data.toList
theorem begB_iff (t s : ByteArray) : begB t s = true ↔ s.data.toList <+: t.data.toList := by
  unfold begB Lib.hasPrefix; exact List.isPrefixOf_iff_prefix

theorem begins_any (t s : ByteArray) (w : World) (ht : t.size ≤ 9223372036854775807) : Calls Tryd.prog 23 #[.string t, .string s] w fun e w' => e = .returned (.bool (begB t s)) ∧ w = w' := by
  have hst : s.data.toList.length = s.size := rfl
  have htt : t.data.toList.length = t.size := rfl
  have hb := Lib.hasPrefix_of_take t.data.toList s.data.toList
  by_cases h : s.size ≤ t.size
  · have E := Lib.hid (show ((t.extract 0 s.size).toList == s.toList) = begB t s from by
      rw [Lib.extract_toList, Lib.toList_data, List.drop_zero, Nat.sub_zero]
      rw [hst, htt, decide_eq_true h, Bool.true_and] at hb
      exact hb)
    clear hb
    go_enter Tryd.func23, Tryd.ntmps23
    go_wp2
    go_ret
    exact ⟨ret_bool E.out, rfl⟩
  · have E := Lib.hid (show begB t s = false from by
      rw [hst, htt, decide_eq_false h, Bool.false_and] at hb
      exact hb.symm)
    clear hb
    have h' : t.size < s.size := by omega
    go_enter Tryd.func23, Tryd.ntmps23
    go_wp2
    go_ret
    exact ⟨ret_bool E.out.symm, rfl⟩
end Go.Proofs.YtfhfbpjhjigbnaaDoor
