/-
  The contracts of money's Sum, Add, Sub.
-/
import Derived.Test.YtjjlpjfojgkpkaaGreatDoorMPort
import Derived.Test.YtjjlpjfojgkpkaaGreatDoorMPadS
import Derived.Test.YtjjlpjfojgkpkaaGreatDoorInts
import Derived.Laws.Externs
import Derived.Laws.DeepNot64
namespace Go.Proofs.YtjjlpjfojgkpkaaGreatDoor
open Go.RowKit Go.WideShapes
set_option maxRecDepth 100000

theorem add64_eq (x y c : Nat) (hc : c ≤ 1) (w : World) : (callFunc 41 #[.int .u64 x, .int .u64 y, .int .u64 c]).run Tryz.prog w =
    .ok (.value (.tuple #[.int .u64 (((x + y + c) % 18446744073709551616 : Nat) : Int), .int .u64 (((x + y + c) / 18446744073709551616 : Nat) : Int)])) w := by
  rw [run_callFunc_extern Tryz.func41 (by kernel_rfl) (by kernel_rfl) (by kernel_rfl) (e := add64Entry) (by kernel_rfl), run_add64 x y c (by omega) (by omega) (by omega) (by omega)]
  simp only [Result.andThen]
  congr 5 <;> omega

/-- What a sum answers. -/
def sumM (ad : Nat → Addr) (v : Int) : Value := match M.fit v with | some x => .tuple #[.int .i64 x, .nilIface] | none => .tuple #[.int .i64 0, errV ad 10]
theorem sumM_some {ad : Nat → Addr} {v x : Int} (h : M.fit v = some x) : sumM ad v = .tuple #[.int .i64 x, .nilIface] := by unfold sumM; rw [h]
theorem sumM_none {ad : Nat → Addr} {v : Int} (h : M.fit v = none) : sumM ad v = .tuple #[.int .i64 0, .iface 158 (.pointer (some (ad 10)))] := by unfold sumM; rw [h]; rfl
theorem sumI_take {xs : List Int} {k : Nat} {x : Int} (h : xs[k]? = some x) : M.sumI (xs.take (k + 1)) = M.sumI (xs.take k) + x := by
  obtain ⟨hk, rfl⟩ := List.getElem?_eq_some_iff.1 h
  rw [List.take_succ_eq_append_getElem hk, M.sumI_append]
  simp [M.sumI]

set_option maxHeartbeats 3200000 in
theorem sum4_any (ad : Nat → Addr) (v : Value) (g off : Nat) (xs : List Int) (w : World) (hE : Errs ad w) (hv : IntsAt .i64 w v g off xs) (hx : ∀ x ∈ xs, -9223372036854775808 ≤ x ∧ x < 9223372036854775808) :
    Calls Tryz.prog 17 #[v] w fun e w' => e = .returned (sumM ad (M.sumI xs)) ∧ Qt w w' := by
  obtain ⟨a, cap, rfl, ha⟩ := hv.val
  have hle := hv.le
  have HX := Lib.hid hx
  have HA := Lib.hid ha
  have HV := Lib.hid hv
  have hc10 : w.cell? ⟨2, 0, none⟩ = some (.iface 158 (.pointer (some (ad 10)))) := hE.cells 9 _ rfl
  clear hv hx ha hE
  go_enter Tryz.func17, Tryz.ntmps17
  go_wp2
  go_loop [4, 5, 12] (fun h l i => ∃ k hn ln : Nat, k ≤ xs.length ∧ i = .int .i64 k ∧ h = .int .u64 hn ∧ l = .int .u64 ln ∧ M.TwoMod hn ln (M.sumI (xs.take k))) (fun _ _ i => xs.length - (intOf i).toNat)
  case atStart => exact ⟨0, 0, 0, Nat.zero_le _, rfl, rfl, rfl, M.TwoMod.zero⟩
  case round =>
    obtain ⟨k, hn, ln, hk, rfl, rfl, rfl, hT⟩ := hrel
    by_cases hlt : k < xs.length
    · obtain ⟨x, hxk⟩ : ∃ x, xs[k]? = some x := ⟨xs[k], List.getElem?_eq_getElem hlt⟩
      have hcx := HV.out.cells k x hxk
      have hxb := HX.out x (List.mem_of_getElem? hxk)
      obtain rfl := HA.out (fun e => by rw [e] at hlt; simp at hlt)
      obtain ⟨xl, xh, c, l', h', e1, e2, e3, e4, e5, hT2⟩ := hT.step hxb.1 hxb.2
      have EX1 : IntKind.u64.wrap x = (xl : Int) := by rw [IntKind.wrap_u64, e1]
      have EX2 : IntKind.u64.wrap (x / 9223372036854775808) = (xh : Int) := by rw [IntKind.wrap_u64, e2]
      have A1 := fun W => add64_eq ln xl 0 (by decide) W
      have hc1 : c ≤ 1 := by have := hT.2.1; omega
      have A2 := fun W => add64_eq hn xh c hc1 W
      rw [Nat.add_zero, ← e3, ← e4] at A1
      rw [← e5] at A2
      have A1' : ∀ W, (callFunc 41 #[.int .u64 ln, .int .u64 xl, .int .u64 0]).run Tryz.prog W = .ok (.value (.tuple #[.int .u64 l', .int .u64 c])) W := A1
      obtain ⟨c', hc'⟩ : ∃ c', (hn + xh + c) / 18446744073709551616 = c' := ⟨_, rfl⟩
      rw [hc'] at A2
      have HT := Lib.hid (show M.TwoMod h' l' (M.sumI (xs.take (k + 1))) by rw [sumI_take hxk]; exact hT2)
      clear e1 e2 e3 e4 e5 hT hT2 hxk A1 hc' hc1 hxb
      go_wp2
      go_round
      case rel => exact ⟨k + 1, h', l', hlt, by go_num, rfl, rfl, HT.out⟩
      case measure => simp [intOf]; omega
    · obtain rfl : k = xs.length := by omega
      rw [List.take_length] at hT
      have hb := M.sumI_bound xs 9223372036854775808 (fun y hy => by have := HX.out y hy; omega)
      obtain ⟨s, s0, s1, e, hs⟩ := hT.fit (by omega) (by omega)
      have hl := hT.2.1
      have ES : wrap64 (ln : Int) = s := by rw [e]; unfold wrap64; split <;> omega
      obtain ⟨z, hz⟩ : ∃ z : Int, s / 9223372036854775808 % 18446744073709551616 = z := ⟨_, rfl⟩
      have EZ : IntKind.u64.wrap (s / 9223372036854775808) = z := by rw [IntKind.wrap_u64, hz]
      rw [hz] at hs
      clear hT hb e hz hl hlt
      rcases hs with ⟨h1, h2⟩ | ⟨h1, h2⟩
      · have b1 : ((hn : Int) != z) = false := by rw [h1]; simp
        have HR := Lib.hid (sumM_some (ad := ad) h2)
        clear h1 h2
        go_wp2
        go_ret2
        exact ⟨HR.out ▸ rfl, Qt.refl w⟩
      · have b1 : ((hn : Int) != z) = true := by simpa using h1
        have HR := Lib.hid (sumM_none (ad := ad) h2)
        clear h1 h2
        go_wp2
        go_quiet (fail)
        go_wp2
        go_ret2
        exact ⟨HR.out ▸ rfl, (Qt.refl w).drewN _⟩

/-- A list that the call has built. -/
theorem built_ints (w : World) (xs : List Int) (T : TypeId) (n : Nat) (hn : n = xs.length) (hl : xs.length ≤ 17592186044416) : IntsAt .i64 (w.alloc (.cells (xs.map fun x => Value.int .i64 x).toArray T)) (.slice (some ⟨w.heap.size, 0, none⟩) n n) w.heap.size 0 xs := by
  subst hn
  refine ⟨⟨_, _, rfl, fun _ => rfl⟩, hl, fun a n c e => by injection e with _ e1 e2; omega, fun i x hx => ?_⟩
  rw [cell_of_row _ _ _ _ _ _ (heap_alloc_new w _), Nat.zero_add]
  simp [hx]
theorem sumM_shape (ad : Nat → Addr) (v : Int) : ∃ (x : Int) (y : Value), sumM ad v = .tuple #[.int .i64 x, y] := by
  unfold sumM
  cases M.fit v with
  | none => exact ⟨_, _, rfl⟩
  | some x => exact ⟨_, _, rfl⟩
set_option maxHeartbeats 800000 in
theorem add_any (ad : Nat → Addr) (a b : Int) (w : World) (hE : Errs ad w) (a0 : -9223372036854775808 ≤ a) (a1 : a < 9223372036854775808) (b0 : -9223372036854775808 ≤ b) (b1 : b < 9223372036854775808) :
    Calls Tryz.prog 12 #[.int .i64 a, .int .i64 b] w fun e w' => e = .returned (sumM ad (a + b)) ∧ Qt w w' := by
  have SU := Lib.hid (sum4_any ad _ _ _ [a, b] _ (hE.alloc _) (built_ints w [a, b] 2 2 rfl (by show (2 : Nat) ≤ _; decide)) (by intro x hx; simp at hx; omega))
  have HK := Lib.hid ((Qt.refl w).alloc (.cells #[.int .i64 a, .int .i64 b] 2))
  rw [show M.sumI [a, b] = a + b by simp [M.sumI]] at SU
  obtain ⟨x, y, hxy⟩ := sumM_shape ad (a + b)
  rw [hxy] at SU ⊢
  clear hE hxy
  go_enter Tryz.func12, Tryz.ntmps12
  go_wp2_with fail
  refine (SU.out).mono ?_
  rintro e w1 ⟨rfl, k1⟩
  have K1 := Lib.hid (Qt.trans HK.out k1); clear k1
  go_wp2
  go_ret2
  exact ⟨rfl, K1.out⟩
end Go.Proofs.YtjjlpjfojgkpkaaGreatDoor
