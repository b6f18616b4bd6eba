/-
  The contracts of remitref01's writing functions: the document's bytes.
-/
import Derived.Test.YtilhkbohemghlaaDoorScript
import Derived.Laws.BytesArg
namespace Go.Proofs.YtilhkbohemghlaaDoor
open Go.ChangeShapes Go.WideShapes Go.ChangeAt Go.RowKit
set_option maxRecDepth 100000

/-- 'string([]byte{..})' of numbers. -/
theorem conv_cells (W : World) (xs : List Int) (n : Nat) (hn : xs.length = n) :
    (convert 26 9 (.slice (some ⟨W.heap.size, 0, none⟩) n n)).run Tryd.prog (W.alloc (.cells (xs.map (Value.int .u8)).toArray 5)) = .ok (.string ⟨(xs.map fun n => n.toNat.toUInt8).toArray⟩) (W.alloc (.cells (xs.map (Value.int .u8)).toArray 5)) := by
  refine run_convert_bytes_arg (P := Tryd.prog) _ 26 5 Tryd.underlying26 Tryd.underlying5 W.heap.size 0 n n xs hn (fun i hi => ?_) 9 Tryd.underlying9
  rw [Nat.zero_add, cell_of_row _ _ _ _ _ _ (heap_alloc_new W _)]
  subst hn
  simp [hi]

theorem conv1 (W : World) (a : Int) : (convert 26 9 (.slice (some ⟨W.heap.size, 0, none⟩) 1 1)).run Tryd.prog (W.alloc (.cells #[.int .u8 a] 5)) = .ok (.string ⟨#[a.toNat.toUInt8]⟩) (W.alloc (.cells #[.int .u8 a] 5)) := conv_cells W [a] 1 rfl

theorem app1 (pre : List UInt8) (c : UInt8) : (⟨pre.toArray⟩ : ByteArray) ++ ⟨#[c]⟩ = ⟨(pre ++ [c]).toArray⟩ := by
  apply ByteArray.ext
  simp

theorem add128 (y : Nat) : UInt8.ofNat (y % 128) + 128 = (y % 128 + 128).toUInt8 := by
  apply UInt8.toNat_inj.1
  simp

/-- remitref01.Uint's loop. -/
def StrAt (x : Nat) (w : World) (v s : Value) (wr : World) : Prop :=
  ∃ (y : Nat) (pre : List UInt8), v = .int .u64 y ∧ y ≤ x ∧ s = .string ⟨pre.toArray⟩ ∧ Lib.uvarint x = pre ++ Lib.uvarint y ∧ Keeps (fun _ => False) w wr

set_option maxHeartbeats 800000 in
theorem refUint_any (x : Nat) (w : World) (hx : x < 18446744073709551616) :
    Calls Tryd.prog 35 #[.int .u64 x] w fun e w' => e = .returned (.string ⟨(Lib.uvarint x).toArray⟩) ∧ Keeps (fun _ => False) w w' := by
  have hcv := fun (W : World) (a : Int) => conv1 W a
  have hl64 := Lib.uvarint_length64 hx
  go_enter Tryd.func35, Tryd.ntmps35
  go_wp2
  go_loopw [0, 3] (fun v s wr => StrAt x w v s wr) (fun v _ _ => (intOf v).toNat)
  case atStart => exact ⟨x, [], rfl, Nat.le_refl _, rfl, rfl, Keeps.refl _ _⟩
  case round =>
    obtain ⟨y, pre, rfl, hy, rfl, hu, hk⟩ := hrel
    have hpl : pre.length ≤ 10 := by rw [hu, List.length_append] at hl64; omega
    have Hu := Lib.hid hu; clear hu
    by_cases hb : 128 ≤ y
    · have hgt : (127 : Int) < (y : Int) := by omega
      have fin := Lib.hid (fun (c : UInt8) (W : World) (hc : c = (y % 128 + 128).toUInt8) (k1 : Keeps (fun _ => False) wr W) => show StrAt x w (.int .u64 ((y : Int) / 128)) (.string ((⟨pre.toArray⟩ : ByteArray) ++ ⟨#[c]⟩)) W from
        ⟨y / 128, pre ++ [c], rfl, by omega, by rw [app1], by rw [Hu.out, Lib.uvarint_big hb, hc, List.append_assoc]; rfl, hk.trans k1 (fun _ _ h => h)⟩)
      clear hk
      go_wp2
      go_roundw
      case rel => exact fin.out _ _ (add128 y) ((Keeps.refl _ _).alloc _)
      case measure => simp [intOf]; omega
    · have hgt : ¬ ((127 : Int) < (y : Int)) := by omega
      have fin := Lib.hid (fun (o : Obj) => hk.alloc o)
      clear hk
      go_wp2
      go_ret
      refine ⟨?_, fin.out _⟩
      rw [app1, Hu.out, Lib.uvarint_small (by omega)]
      rfl
end Go.Proofs.YtilhkbohemghlaaDoor
