/-
  The contracts of remitlaw03.class, remitlaw03.slip.
-/
import Derived.Test.YtkmemjljoeokhaaDoorCRest
import Derived.Test.YtkmemjljoeokhaaDoorConv
import Derived.Lib.IndexBytes
import Derived.WalkSpells
import Derived.IntWalk
namespace Go.Proofs.YtkmemjljoeokhaaDoor
open Go.RowKit Go.WideShapes
set_option maxRecDepth 100000

theorem class_any (c : Nat) (hc : c < 256) (w : World) : Calls Tryd.prog 29 #[.int .u8 c] w fun e w' => e = .returned (.int .i64 (C.cls c.toUInt8 : Nat)) ∧ w = w' := by
  have hn : c.toUInt8.toNat = c := by rw [Nat.toUInt8, UInt8.toNat_ofNat']; exact Nat.mod_eq_of_lt hc
  by_cases h1 : 48 ≤ c ∧ c ≤ 57
  · have HC := Lib.hid (show C.cls c.toUInt8 = 1 by unfold C.cls; rw [hn, if_pos h1])
    obtain ⟨h1, h2⟩ := h1
    clear hn
    go_enter Tryd.func29, Tryd.ntmps29
    go_wp2
    go_ret
    exact ⟨ret_i (by rw [HC.out]; rfl), rfl⟩
  · by_cases h2 : 65 ≤ c ∧ c ≤ 90
    · have HC := Lib.hid (show C.cls c.toUInt8 = 2 by unfold C.cls; rw [hn, if_neg h1, if_pos h2])
      obtain ⟨h3, h4⟩ := h2
      clear hn h1
      go_enter Tryd.func29, Tryd.ntmps29
      go_wp2
      go_ret
      exact ⟨ret_i (by rw [HC.out]; rfl), rfl⟩
    · have HC := Lib.hid (show C.cls c.toUInt8 = 0 by unfold C.cls; rw [hn, if_neg h1, if_neg h2])
      clear hn
      by_cases h3 : c < 48
      · clear h1 h2
        go_enter Tryd.func29, Tryd.ntmps29
        go_wp2
        go_ret
        exact ⟨ret_i (by rw [HC.out]; rfl), rfl⟩
      · have h4 : 57 < c := by omega
        by_cases h5 : c < 65
        · clear h1 h2
          go_enter Tryd.func29, Tryd.ntmps29
          go_wp2
          go_ret
          exact ⟨ret_i (by rw [HC.out]; rfl), rfl⟩
        · have h6 : 90 < c := by omega
          clear h1 h2
          go_enter Tryd.func29, Tryd.ntmps29
          go_wp2
          go_ret
          exact ⟨ret_i (by rw [HC.out]; rfl), rfl⟩

theorem toUInt8_toNat (c : UInt8) : c.toNat.toUInt8 = c := by
  apply UInt8.toNat_inj.1; rw [Nat.toUInt8, UInt8.toNat_ofNat']; exact Nat.mod_eq_of_lt c.toNat_lt
theorem classU_any (c : UInt8) (w : World) : Calls Tryd.prog 29 #[.int .u8 c.toNat] w fun e w' => e = .returned (.int .i64 (C.cls c : Nat)) ∧ w = w' := by
  have h := class_any c.toNat c.toNat_lt w
  rw [toUInt8_toNat] at h
  exact h

theorem classQ (c : UInt8) (w : World) : Calls Tryd.prog 29 #[.int .u8 c.toNat] w fun e w' => e = .returned (.int .i64 (C.cls c : Nat)) ∧ w' = w :=
  (classU_any c w).mono fun _ _ ⟨h1, h2⟩ => ⟨h1, h2.symm⟩

/-- Byte number k made c, if that is a slip. -/
def slip1 (s : ByteArray) (k : Nat) (c : UInt8) (hk : k < s.size) : ByteArray :=
  if c.toNat ≠ s[k].toNat ∧ C.cls c = C.cls s[k] then s.extract 0 k ++ ⟨#[c]⟩ ++ s.extract (k + 1) s.size else ⟨#[]⟩
/-- Byte number k and the one behind it exchanged, if that is a slip. -/
def slip2 (s : ByteArray) (k : Nat) : ByteArray :=
  if h : k + 1 < s.size then
    if s[k].toNat ≠ s[k + 1].toNat ∧ C.cls s[k] = C.cls s[k + 1] then s.extract 0 k ++ ⟨#[s[k + 1], s[k]]⟩ ++ s.extract (k + 2) s.size else ⟨#[]⟩
  else ⟨#[]⟩

theorem slip1_cases (s : ByteArray) (k : Nat) (c : UInt8) (hk : k < s.size) :
    (((c.toNat : Int) != (s[k].toNat : Int)) = false ∧ slip1 s k c hk = ⟨#[]⟩) ∨
    (((c.toNat : Int) != (s[k].toNat : Int)) = true ∧ (((C.cls c : Nat) : Int) == ((C.cls s[k] : Nat) : Int)) = false ∧ slip1 s k c hk = ⟨#[]⟩) ∨
    (((c.toNat : Int) != (s[k].toNat : Int)) = true ∧ (((C.cls c : Nat) : Int) == ((C.cls s[k] : Nat) : Int)) = true ∧ slip1 s k c hk = s.extract 0 k ++ ⟨#[c]⟩ ++ s.extract (k + 1) s.size) := by
  by_cases h1 : c.toNat = s[k].toNat
  · exact .inl ⟨by simp [h1], if_neg (fun h => h.1 h1)⟩
  · have f1 : ((c.toNat : Int) != (s[k].toNat : Int)) = true := by rw [bne_iff_ne]; omega
    by_cases h2 : C.cls c = C.cls s[k]
    · exact .inr (.inr ⟨f1, by simp [h2], if_pos ⟨h1, h2⟩⟩)
    · exact .inr (.inl ⟨f1, by rw [beq_eq_false_iff_ne]; omega, if_neg (fun h => h2 h.2)⟩)
theorem slip2_over {s : ByteArray} {k : Nat} (h : ¬ k + 1 < s.size) : slip2 s k = ⟨#[]⟩ := dif_neg h
theorem slip2_cases (s : ByteArray) (k : Nat) (hk : k + 1 < s.size) :
    (((s[k].toNat : Int) != (s[k + 1].toNat : Int)) = false ∧ slip2 s k = ⟨#[]⟩) ∨
    (((s[k].toNat : Int) != (s[k + 1].toNat : Int)) = true ∧ (((C.cls s[k] : Nat) : Int) == ((C.cls s[k + 1] : Nat) : Int)) = false ∧ slip2 s k = ⟨#[]⟩) ∨
    (((s[k].toNat : Int) != (s[k + 1].toNat : Int)) = true ∧ (((C.cls s[k] : Nat) : Int) == ((C.cls s[k + 1] : Nat) : Int)) = true ∧ slip2 s k = s.extract 0 k ++ ⟨#[s[k + 1], s[k]]⟩ ++ s.extract (k + 2) s.size) := by
  unfold slip2
  rw [dif_pos hk]
  by_cases h1 : s[k].toNat = s[k + 1].toNat
  · exact .inl ⟨by simp [h1], if_neg (fun h => h.1 h1)⟩
  · have f1 : ((s[k].toNat : Int) != (s[k + 1].toNat : Int)) = true := by rw [bne_iff_ne]; omega
    by_cases h2 : C.cls s[k] = C.cls s[k + 1]
    · exact .inr (.inr ⟨f1, by simp [h2], if_pos ⟨h1, h2⟩⟩)
    · exact .inr (.inl ⟨f1, by rw [beq_eq_false_iff_ne]; omega, if_neg (fun h => h2 h.2)⟩)

set_option maxHeartbeats 3200000 in
theorem slip_any (s : ByteArray) (k : Nat) (c : UInt8) (hk : k < s.size) (w : World) (hs : s.size ≤ 1125899906842624) :
    Calls Tryd.prog 23 #[.string s, .int .i64 k, .int .u8 c.toNat] w fun e w' => e = .returned (.tuple #[.string (slip1 s k c hk), .string (slip2 s k)]) ∧ Qt w w' := by
  have hb := s[k].toNat_lt
  have hcb := c.toNat_lt
  have hcv := fun W a => conv1 W a
  have hcd := fun W a => conv1d W a
  have hcw := fun W a b => conv2 W a b
  have hce := fun W a b => conv2d W a b
  have hk2 : k ≤ s.size := by omega
  have hk3 : k + 1 ≤ s.size := by omega
  have KD := Lib.hid (fun n => (Qt.refl w).drewN n)
  have KE := Lib.hid (fun W (k : Qt w W) n => k.drewN (w := W) n)
  have KA := Lib.hid (fun W (k : Qt w W) o => (k.alloc (w := W) o).drew)
  rcases slip1_cases s k c hk with ⟨f1, e1⟩ | ⟨f1, f2, e1⟩ | ⟨f1, f2, e1⟩
  · have E1 := Lib.hid e1
    clear e1
    go_enter Tryd.func23, Tryd.ntmps23
    go_wp2
    go_quiet ((go_at_call 29; exact Calls.quiet_of_same (classQ _ _)))
    go_wp2
    generalize hW : w.drewN _ = w1
    have K1 := Lib.hid (show Qt w w1 from hW ▸ KD.out _)
    clear hW
    have a1 : IntKind.i64.wrap ((k : Int) + 1) = (k : Int) + 1 := IntWalk.i64_in _ (by omega)
    have a2 : (0 : Int) ≤ (k : Int) + 1 := by omega
    have a3 : ((k : Int) + 1).toNat = k + 1 := by omega
    by_cases h2 : k + 1 < s.size
    · have hb2 := s[k + 1].toNat_lt
      have a4 : (k : Int) + 1 < (s.size : Int) := by omega
      have hk4 : k + 2 ≤ s.size := by omega
      rcases slip2_cases s k h2 with ⟨g1, e2⟩ | ⟨g1, g2, e2⟩ | ⟨g1, g2, e2⟩
      · have E2 := Lib.hid e2
        clear e2 f1
        go_quiet ((go_at_call 29; exact Calls.quiet_of_same (classQ _ _)))
        clear a1
        go_wp2
        go_ret2
        exact ⟨by rw [E1.out, E2.out]; rfl, KE.out _ K1.out _⟩
      · have E2 := Lib.hid e2
        clear e2 f1
        go_quiet ((go_at_call 29; exact Calls.quiet_of_same (classQ _ _)))
        clear a1
        go_wp2
        go_ret2
        exact ⟨by rw [E1.out, E2.out]; rfl, KE.out _ K1.out _⟩
      · have E2 := Lib.hid e2
        clear e2 f1
        go_quiet ((go_at_call 29; exact Calls.quiet_of_same (classQ _ _)))
        clear a1
        go_wp2
        generalize hW : w1.drewN _ = w2
        have K2 := Lib.hid (show Qt w w2 from hW ▸ KE.out _ K1.out _)
        clear hW
        go_region
        go_wp2
        go_ret2
        exact ⟨by rw [E1.out, E2.out]; rfl, KA.out _ K2.out _⟩
    · have E2 := Lib.hid (slip2_over h2)
      have a4 : decide ((k : Int) + 1 < (s.size : Int)) = false := by simp; omega
      clear h2
      go_quiet (fail)
      clear a1 a2 a3 a4
      go_wp2
      go_ret2
      exact ⟨by rw [E1.out, E2.out]; rfl, KE.out _ K1.out _⟩
  · have E1 := Lib.hid e1
    clear e1 hcv hcd
    go_enter Tryd.func23, Tryd.ntmps23
    go_wp2
    go_quiet ((go_at_call 29; exact Calls.quiet_of_same (classQ _ _)))
    go_wp2
    generalize hW : w.drewN _ = w1
    have K1 := Lib.hid (show Qt w w1 from hW ▸ KD.out _)
    clear hW
    have a1 : IntKind.i64.wrap ((k : Int) + 1) = (k : Int) + 1 := IntWalk.i64_in _ (by omega)
    have a2 : (0 : Int) ≤ (k : Int) + 1 := by omega
    have a3 : ((k : Int) + 1).toNat = k + 1 := by omega
    by_cases h2 : k + 1 < s.size
    · have hb2 := s[k + 1].toNat_lt
      have a4 : (k : Int) + 1 < (s.size : Int) := by omega
      have hk4 : k + 2 ≤ s.size := by omega
      rcases slip2_cases s k h2 with ⟨g1, e2⟩ | ⟨g1, g2, e2⟩ | ⟨g1, g2, e2⟩
      · have E2 := Lib.hid e2
        clear e2 f1
        go_quiet ((go_at_call 29; exact Calls.quiet_of_same (classQ _ _)))
        clear a1
        go_wp2
        go_ret2
        exact ⟨by rw [E1.out, E2.out]; rfl, KE.out _ K1.out _⟩
      · have E2 := Lib.hid e2
        clear e2 f1
        go_quiet ((go_at_call 29; exact Calls.quiet_of_same (classQ _ _)))
        clear a1
        go_wp2
        go_ret2
        exact ⟨by rw [E1.out, E2.out]; rfl, KE.out _ K1.out _⟩
      · have E2 := Lib.hid e2
        clear e2 f1
        go_quiet ((go_at_call 29; exact Calls.quiet_of_same (classQ _ _)))
        clear a1
        go_wp2
        generalize hW : w1.drewN _ = w2
        have K2 := Lib.hid (show Qt w w2 from hW ▸ KE.out _ K1.out _)
        clear hW
        go_region
        go_wp2
        go_ret2
        exact ⟨by rw [E1.out, E2.out]; rfl, KA.out _ K2.out _⟩
    · have E2 := Lib.hid (slip2_over h2)
      have a4 : decide ((k : Int) + 1 < (s.size : Int)) = false := by simp; omega
      clear h2
      go_quiet (fail)
      clear a1 a2 a3 a4
      go_wp2
      go_ret2
      exact ⟨by rw [E1.out, E2.out]; rfl, KE.out _ K1.out _⟩
  · have E1 := Lib.hid e1
    clear e1
    go_enter Tryd.func23, Tryd.ntmps23
    go_wp2
    go_quiet ((go_at_call 29; exact Calls.quiet_of_same (classQ _ _)))
    go_wp2
    generalize hW : w.drewN _ = w1
    have K1 := Lib.hid (show Qt w w1 from hW ▸ KD.out _)
    clear hW
    go_region
    go_wp2
    generalize hW : (w1.alloc _).drew = w2
    have K2 := Lib.hid (show Qt w w2 from hW ▸ KA.out _ K1.out _)
    clear hW
    have a1 : IntKind.i64.wrap ((k : Int) + 1) = (k : Int) + 1 := IntWalk.i64_in _ (by omega)
    have a2 : (0 : Int) ≤ (k : Int) + 1 := by omega
    have a3 : ((k : Int) + 1).toNat = k + 1 := by omega
    by_cases h2 : k + 1 < s.size
    · have hb2 := s[k + 1].toNat_lt
      have a4 : (k : Int) + 1 < (s.size : Int) := by omega
      have hk4 : k + 2 ≤ s.size := by omega
      rcases slip2_cases s k h2 with ⟨g1, e2⟩ | ⟨g1, g2, e2⟩ | ⟨g1, g2, e2⟩
      · have E2 := Lib.hid e2
        clear e2 f1
        go_quiet ((go_at_call 29; exact Calls.quiet_of_same (classQ _ _)))
        clear a1
        go_wp2
        go_ret2
        exact ⟨by rw [E1.out, E2.out]; rfl, KE.out _ K2.out _⟩
      · have E2 := Lib.hid e2
        clear e2 f1
        go_quiet ((go_at_call 29; exact Calls.quiet_of_same (classQ _ _)))
        clear a1
        go_wp2
        go_ret2
        exact ⟨by rw [E1.out, E2.out]; rfl, KE.out _ K2.out _⟩
      · have E2 := Lib.hid e2
        clear e2 f1
        go_quiet ((go_at_call 29; exact Calls.quiet_of_same (classQ _ _)))
        clear a1
        go_wp2
        generalize hW : w2.drewN _ = w3
        have K3 := Lib.hid (show Qt w w3 from hW ▸ KE.out _ K2.out _)
        clear hW
        go_region
        go_wp2
        go_ret2
        exact ⟨by rw [E1.out, E2.out]; rfl, KA.out _ K3.out _⟩
    · have E2 := Lib.hid (slip2_over h2)
      have a4 : decide ((k : Int) + 1 < (s.size : Int)) = false := by simp; omega
      clear h2
      go_quiet (fail)
      clear a1 a2 a3 a4
      go_wp2
      go_ret2
      exact ⟨by rw [E1.out, E2.out]; rfl, KE.out _ K2.out _⟩
end Go.Proofs.YtkmemjljoeokhaaDoor
