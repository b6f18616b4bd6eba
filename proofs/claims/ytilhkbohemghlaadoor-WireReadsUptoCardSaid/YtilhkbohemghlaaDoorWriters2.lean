/-
  The contracts of package wire's Writer, on: numbers, floats, texts, lists of texts.
-/
import Derived.Test.YtilhkbohemghlaaDoorWriters
import Derived.Test.YtilhkbohemghlaaDoorFloat
import Derived.WalkLawsBesides
import Derived.WalkSpells
import Derived.Laws.BitsAllLaws
namespace Go.Proofs.YtilhkbohemghlaaDoor
open Go.RowKit
set_option maxRecDepth 100000

theorem zigzag_bits_pos {x : Int} (h0 : 0 ≤ x) (h1 : x ≤ 9223372036854775807) : bits .xor .u64 (x * 2) (x / 9223372036854775808) = ((Lib.zigzag x : Nat) : Int) := by
  rw [show x / 9223372036854775808 = 0 by omega, u64_xor _ _ (by omega) (by omega) (by omega) (by omega), Lib.zigzag_nonneg h0]
  simp
  omega

theorem zigzag_bits_neg {x : Int} (h0 : -9223372036854775808 ≤ x) (h1 : x < 0) : bits .xor .u64 (IntKind.u64.wrap (IntKind.u64.wrap x * 2)) (IntKind.u64.wrap (x / 9223372036854775808)) = ((Lib.zigzag x : Nat) : Int) := by
  have e1 : IntKind.u64.wrap (IntKind.u64.wrap x * 2) = (((2 * x + 18446744073709551616).toNat : Nat) : Int) := by
    rw [IntKind.wrap_u64, IntKind.wrap_u64]
    omega
  have e2 : IntKind.u64.wrap (x / 9223372036854775808) = ((2 ^ 64 - 1 : Nat) : Int) := by
    rw [IntKind.wrap_u64, show x / 9223372036854775808 = -1 by omega]; decide
  rw [e1, e2, u64_xor_nat _ _ (by omega) (by omega), Nat.xor_comm, Lib.xor_ones64 _ (by omega)]
  unfold Lib.zigzag
  rw [if_neg (by omega)]
  omega

theorem ret_int {k : IntKind} {a b : Int} (h : a = b) : Ending.returned (.int k a) = .returned (.int k b) := by rw [h]
theorem run_float32bits (P : Program) (x : Nat) (w : World) : (Extern.MathFloatBits.float32bits #[.float .f32 x]).run P w = .ok (.int .u32 x) w := rfl

theorem zigzag_any (x : Int) (w : World) (h0 : -9223372036854775808 ≤ x) (h1 : x ≤ 9223372036854775807) :
    Calls Tryd.prog 65 #[.int .i64 x] w fun e w' => e = .returned (.int .u64 ((Lib.zigzag x : Nat) : Int)) ∧ w = w' := by
  by_cases hs : 0 ≤ x
  · have e := Lib.hid (zigzag_bits_pos hs h1)
    go_enter Tryd.func65, Tryd.ntmps65
    go_wp2
    go_ret
    exact ⟨ret_int e.out, rfl⟩
  · have hs' : x < 0 := by omega
    have e := Lib.hid (zigzag_bits_neg h0 hs')
    clear hs
    go_enter Tryd.func65, Tryd.ntmps65
    go_wp2
    go_ret
    exact ⟨ret_int e.out, rfl⟩

theorem wint_any (b : Nat) (r : Option Nat) (l : List UInt8) (x : Int) (w : World) (h : Wr b r l w) (hlen : l.length + 10 ≤ 140737488355328) (h0 : -9223372036854775808 ≤ x) (h1 : x ≤ 9223372036854775807) :
    Calls Tryd.prog 32 #[.pointer (some ⟨b, 0, none⟩), .int .i64 x] w fun e w' => e = .returned (.tuple #[]) ∧ Wrote b r (l ++ Lib.uvarint (Lib.zigzag x)) w w' := by
  have hz := Lib.zigzag_lt h0 h1
  go_enter Tryd.func32, Tryd.ntmps32
  go_wp2_with fail
  refine (zigzag_any x _ h0 h1).mono ?_
  rintro e w' ⟨rfl, rfl⟩
  go_wp2_with fail
  refine (wuint_any b r l _ _ h hlen hz).mono ?_
  rintro e w' ⟨rfl, h1⟩
  go_wp2
  go_end0
  exact ⟨rfl, h1⟩

/-- lowFirst's loop. -/
def LowAt (b : Nat) (r : Option Nat) (l : List UInt8) (n x : Nat) (w : World) (v i : Value) (wr : World) : Prop :=
  ∃ (k : Nat) (r1 : Option Nat), k ≤ n ∧ i = .int .i64 k ∧ v = .int .u64 ((x / 256 ^ k : Nat) : Int) ∧ Wr b r1 (l ++ lowB k x) wr ∧ Kept b r r1 w wr

theorem LowAt.more {b : Nat} {r r1 : Option Nat} {l : List UInt8} {n x k y : Nat} {w wr w1 : World} (hk : k < n) (hy : x / 256 ^ k = y) (kk : Kept b r r1 w wr) {c : Int} (hc : c = (y : Int) % 256)
    (h1 : Wrote b r1 ((l ++ lowB k x) ++ [c.toNat.toUInt8]) wr w1) : LowAt b r l n x w (.int .u64 ((y : Int) / 256)) (.int .i64 ((k : Int) + 1)) w1 := by
  obtain ⟨r2, h2, k2⟩ := h1
  refine ⟨k + 1, r2, by omega, by simp, ?_, ?_, kk.trans k2⟩
  · rw [Nat.pow_succ, ← Nat.div_div_eq_div_mul, hy]; simp
  · rw [lowB_snoc, hy]
    subst hc
    rw [show ((y : Int) % 256).toNat = y % 256 by omega, List.append_assoc] at h2
    exact h2

set_option maxHeartbeats 400000 in
theorem wlow_any (b : Nat) (r : Option Nat) (l : List UInt8) (n x : Nat) (w : World) (h : Wr b r l w) (hlen : l.length + n ≤ 140737488355328) (hx : x < 18446744073709551616) :
    Calls Tryd.prog 66 #[.pointer (some ⟨b, 0, none⟩), .int .u64 x, .int .i64 n] w fun e w' => e = .returned (.tuple #[]) ∧ Wrote b r (l ++ lowB n x) w w' := by
  go_enter Tryd.func66, Tryd.ntmps66
  go_wp2
  go_loopw [1, 7] (fun v i wr => LowAt b r l n x w v i wr) (fun _ i _ => n - (intOf i).toNat)
  case atStart => exact ⟨0, r, Nat.zero_le _, rfl, by simp, by simpa [lowB] using h, Kept.refl _ _ _⟩
  case round =>
    obtain ⟨k, r1, hkn, rfl, rfl, hw, kk⟩ := hrel
    by_cases hlt : k < n
    · obtain ⟨y, hy⟩ : ∃ y, x / 256 ^ k = y := ⟨_, rfl⟩
      have hyx : y < 18446744073709551616 := by rw [← hy]; exact Nat.lt_of_le_of_lt (Nat.div_le_self _ _) hx
      rw [hy]
      have Hy := Lib.hid hy; clear hy
      have hroom : (l ++ lowB k x).length + 1 ≤ 140737488355328 := by rw [List.length_append, lowB_length]; omega
      go_wp2_with fail
      refine (wbyte_any b r1 _ _ _ hw hroom (by omega) (by omega)).mono ?_
      rintro e w1 ⟨rfl, h1⟩
      have fin := LowAt.more hlt Hy.out kk rfl h1
      clear h1 kk
      have fin' := Lib.hid fin; clear fin
      go_wp2
      go_roundw
      case rel => exact fin'.out
      case measure => simp [intOf]; omega
    · obtain rfl : k = n := by omega
      clear hlt
      go_wp2
      go_end0
      exact ⟨rfl, r1, hw, kk⟩

theorem wfixed_any (b : Nat) (r : Option Nat) (l : List UInt8) (x : Nat) (w : World) (h : Wr b r l w) (hlen : l.length + 8 ≤ 140737488355328) (hx : x < 18446744073709551616) :
    Calls Tryd.prog 37 #[.pointer (some ⟨b, 0, none⟩), .int .u64 x] w fun e w' => e = .returned (.tuple #[]) ∧ Wrote b r (l ++ lowB 8 x) w w' := by
  go_enter Tryd.func37, Tryd.ntmps37
  go_wp2_with fail
  refine (wlow_any b r l 8 x _ h hlen hx).mono ?_
  rintro e w' ⟨rfl, h1⟩
  go_wp2
  go_end0
  exact ⟨rfl, h1⟩

theorem floatBits_no (x : Nat) (w : World) (hx : x < 4294967296) (hn : isNaNB x = false) :
    Calls Tryd.prog 67 #[.float .f32 x] w fun e w' => e = .returned (.int .u32 ((canon x : Nat) : Int)) ∧ w = w' := by
  obtain ⟨r, hr, ho⟩ := widen x hx hn
  have hcv := fun W : World => run_convert_float_float (P := Tryd.prog) W 67 127 .f32 .f64 x r (by kernel_rfl) Tryd.underlying127 hr
  have hne : (FloatKind.f64.format.order r r != some Ordering.eq) = false := by
    have e : FloatKind.f64.format.order r r = some Ordering.eq := ho
    rw [e]; rfl
  have hcan : canon x = x := by unfold canon; rw [hn]; rfl
  rw [hcan]
  clear hr ho hcan hn
  go_enter Tryd.func67, Tryd.ntmps67
  go_wp2
  rw [run_callFunc_extern Tryd.func57 (by kernel_rfl) (by kernel_rfl) (by kernel_rfl) (e := Extern.MathFloatBits.float32bits) (by kernel_rfl)]
  rw [run_float32bits]
  simp only [Result.andThen]
  rw [Oper.upon_value]
  go_wp2
  go_ret
  exact ⟨rfl, rfl⟩

theorem floatBits_nan (x : Nat) (w : World) (hx : x < 4294967296) (hn : isNaNB x = true) :
    Calls Tryd.prog 67 #[.float .f32 x] w fun e w' => e = .returned (.int .u32 ((canon x : Nat) : Int)) ∧ w.drew = w' := by
  obtain ⟨y, hcv, ho⟩ := widen_nan Tryd.prog 67 127 (by kernel_rfl) Tryd.underlying127 x hx hn w
  have hne : (FloatKind.f64.format.order y y != some Ordering.eq) = true := by
    have e : FloatKind.f64.format.order y y = none := ho
    rw [e]; rfl
  have hcan : canon x = 2143289344 := by unfold canon; rw [hn]; rfl
  rw [hcan]
  clear ho hcan hn
  go_enter Tryd.func67, Tryd.ntmps67
  go_wp2
  go_ret
  exact ⟨rfl, rfl⟩

theorem floatBits_any (x : Nat) (w : World) (hx : x < 4294967296) :
    Calls Tryd.prog 67 #[.float .f32 x] w fun e w' => e = .returned (.int .u32 ((canon x : Nat) : Int)) ∧ Keeps (fun _ => False) w w' := by
  by_cases hn : isNaNB x = true
  · exact (floatBits_nan x w hx hn).mono fun _ _ ⟨he, hw⟩ => ⟨he, hw ▸ (Keeps.refl _ _).drew⟩
  · exact (floatBits_no x w hx (by simpa using hn)).mono fun _ _ ⟨he, hw⟩ => ⟨he, hw ▸ Keeps.refl _ _⟩

theorem canon_lt {x : Nat} (hx : x < 4294967296) : canon x < 4294967296 := by unfold canon; split <;> omega

theorem wfloat_any (b : Nat) (r : Option Nat) (l : List UInt8) (x : Nat) (w : World) (h : Wr b r l w) (hlen : l.length + 4 ≤ 140737488355328) (hx : x < 4294967296) :
    Calls Tryd.prog 33 #[.pointer (some ⟨b, 0, none⟩), .float .f32 x] w fun e w' => e = .returned (.tuple #[]) ∧ Wrote b r (l ++ floatB x) w w' := by
  have hc := canon_lt hx
  go_enter Tryd.func33, Tryd.ntmps33
  go_wp2_with fail
  refine (floatBits_any x _ hx).mono ?_
  rintro e w1 ⟨rfl, hk⟩
  have h1 := h.kept hk (fun h => h) (fun _ _ h => h)
  have hk' : Kept b r r w w1 := ⟨hk.mono (fun _ _ h => h.elim), Later.refl _ _⟩
  clear hk
  go_wp2_with fail
  refine (wlow_any b r l 4 (canon x) _ h1 hlen (by omega)).mono ?_
  rintro e w' ⟨rfl, h1⟩
  have fin := Lib.hid (Wrote.trans hk' h1); clear h1 hk'
  go_wp2
  go_end0
  exact ⟨rfl, fin.out⟩

/-! ### Texts -/

set_option maxHeartbeats 400000 in
theorem wlText_any (b : Nat) (r : Option Nat) (l : List UInt8) (s : ByteArray) (w : World) (h : Wr b r l w) (hlen : l.length + s.size + 10 ≤ 140737488355328) :
    Calls Tryd.prog 71 #[.pointer (some ⟨b, 0, none⟩), .string s, .func (.func 72) #[.pointer (some ⟨b, 0, none⟩)] #[]] w fun e w' => e = .returned (.tuple #[]) ∧ Wrote b r (l ++ textB s.data.toList) w w' := by
  have hsz : s.data.toList.length = s.size := by simp
  have hu := Lib.uvarint_length64 (show s.size < 18446744073709551616 by omega)
  go_enter Tryd.func71, Tryd.ntmps71
  go_wp2_with fail
  refine (wuint_any b r l s.size _ h (by omega) (by omega)).mono ?_
  rintro e w1 ⟨rfl, ⟨r1, h1, k1⟩⟩
  have k1' := Lib.hid k1; clear k1
  have hsz' := Lib.hid hsz; clear hsz
  go_wp2_with fail
  refine (wbytes_any b r1 _ s _ h1 (by rw [List.length_append]; omega)).mono ?_
  rintro e w2 ⟨rfl, h2⟩
  have fin : Wrote b r (l ++ textB s.data.toList) w w2 := by
    have q := Wrote.trans k1'.out h2
    rw [List.append_assoc] at q
    unfold textB
    rw [hsz'.out]
    exact q
  have fin' := Lib.hid fin; clear fin h2
  go_wp2
  go_end0
  exact ⟨rfl, fin'.out⟩

theorem wtext_any (b : Nat) (r : Option Nat) (l : List UInt8) (s : ByteArray) (w : World) (h : Wr b r l w) (hlen : l.length + s.size + 10 ≤ 140737488355328) :
    Calls Tryd.prog 42 #[.pointer (some ⟨b, 0, none⟩), .string s] w fun e w' => e = .returned (.tuple #[]) ∧ Wrote b r (l ++ textB s.data.toList) w w' := by
  go_enter Tryd.func42, Tryd.ntmps42
  go_wp2_with fail
  refine (wlText_any b r l s _ h hlen).mono ?_
  rintro e w1 ⟨rfl, h1⟩
  go_wp2
  go_end0
  exact ⟨rfl, h1⟩

/-- A []string value that reads as ss, its cells in block g from o on. -/
structure Strs (w : World) (v : Value) (g o : Nat) (ss : List (List UInt8)) : Prop where
  val : ∃ a cap, v = .slice a ss.length cap ∧ (ss ≠ [] → a = some ⟨g, o, none⟩)
  le : ss.length ≤ 140737488355328
  cells : ∀ j s, ss[j]? = some s → w.cell? ⟨g, o + j, none⟩ = some (.string ⟨s.toArray⟩)

theorem Strs.kept {S : Nat → Prop} {w w' : World} {v : Value} {g o : Nat} {ss : List (List UInt8)} (h : Strs w v g o ss) (hk : Keeps S w w') (hn : ss ≠ [] → ¬ S g) : Strs w' v g o ss := by
  refine ⟨h.val, h.le, fun j s hj => ?_⟩
  have hc := h.cells j s hj
  have hne : ss ≠ [] := by rintro rfl; simp at hj
  rw [hk.cell (World.block_lt_of_cell? w _ hc) (hn hne)]
  exact hc
theorem Strs.drew {w : World} {v : Value} {g o : Nat} {ss : List (List UInt8)} (h : Strs w v g o ss) : Strs w.drew v g o ss := h.kept (S := fun _ => False) ((Keeps.refl _ _).drew) (fun _ h => h)
theorem Strs.alloc {w : World} {v : Value} {g o : Nat} {ss : List (List UInt8)} (h : Strs w v g o ss) (x : Obj) : Strs (w.alloc x) v g o ss := h.kept (S := fun _ => False) ((Keeps.refl _ _).alloc _) (fun _ h => h)
theorem Strs.lt {w : World} {v : Value} {g o : Nat} {ss : List (List UInt8)} (h : Strs w v g o ss) (hne : ss ≠ []) : g < w.heap.size := by
  obtain ⟨s, r, rfl⟩ := List.exists_cons_of_ne_nil hne
  exact World.block_lt_of_cell? w _ (h.cells 0 s rfl)

theorem eachB_take_succ {ss : List (List UInt8)} {k : Nat} {s : List UInt8} (h : ss[k]? = some s) : eachB (ss.take (k + 1)) = eachB (ss.take k) ++ textB s := by
  rw [List.take_succ_eq_append_getElem (List.getElem?_eq_some_iff.1 h).1, eachB_append]
  simp [eachB, (List.getElem?_eq_some_iff.1 h).2]
theorem eachB_take_le (ss : List (List UInt8)) (k : Nat) : (eachB (ss.take k)).length ≤ (eachB ss).length := by
  have e : eachB ss = eachB (ss.take k) ++ eachB (ss.drop k) := by rw [← eachB_append, List.take_append_drop]
  rw [e, List.length_append]; omega

/-- each's loop. -/
def EachAt (b : Nat) (r : Option Nat) (l : List UInt8) (ss : List (List UInt8)) (w : World) (i : Value) (wr : World) : Prop :=
  ∃ (k : Nat) (r1 : Option Nat), k ≤ ss.length ∧ i = .int .i64 k ∧ Wr b r1 (l ++ eachB (ss.take k)) wr ∧ Kept b r r1 w wr

theorem EachAt.more {b : Nat} {r r1 : Option Nat} {l : List UInt8} {ss : List (List UInt8)} {s : List UInt8} {k : Nat} {w wr w1 : World} (hs : ss[k]? = some s) (kk : Kept b r r1 w wr)
    (h1 : Wrote b r1 ((l ++ eachB (ss.take k)) ++ textB s) wr w1) : EachAt b r l ss w (.int .i64 ((k : Int) + 1)) w1 := by
  obtain ⟨r2, h2, k2⟩ := h1
  refine ⟨k + 1, r2, (List.getElem?_eq_some_iff.1 hs).1, by simp, ?_, kk.trans k2⟩
  rw [eachB_take_succ hs, ← List.append_assoc]; exact h2

set_option maxHeartbeats 400000 in
theorem weach_any (b : Nat) (r : Option Nat) (l : List UInt8) (v : Value) (g o : Nat) (ss : List (List UInt8)) (w : World) (h : Wr b r l w) (hs : Strs w v g o ss) (hd : ss ≠ [] → g ≠ b ∧ some g ≠ r) (hlen : l.length + (eachB ss).length + 10 ≤ 140737488355328) :
    Calls Tryd.prog 64 #[.pointer (some ⟨b, 0, none⟩), v] w fun e w' => e = .returned (.tuple #[]) ∧ Wrote b r (l ++ eachB ss) w w' := by
  obtain ⟨a, cap, rfl, ha⟩ := hs.val
  have hle := hs.le
  go_enter Tryd.func64, Tryd.ntmps64
  go_wp2
  go_loopw [5, 8] (fun _ i wr => EachAt b r l ss w i wr) (fun _ i _ => ss.length - (intOf i).toNat)
  case atStart => exact ⟨0, r, Nat.zero_le _, rfl, by simpa [eachB] using h, Kept.refl _ _ _⟩
  case round =>
    obtain ⟨k, r1, hk, rfl, hw, kk⟩ := hrel
    by_cases hlt : k < ss.length
    · obtain ⟨s, hsk⟩ : ∃ s, ss[k]? = some s := ⟨_, List.getElem?_eq_getElem hlt⟩
      have hne : ss ≠ [] := by rintro rfl; simp at hlt
      obtain rfl := ha hne
      have hcell : wr.cell? ⟨g, o + k, none⟩ = some (.string ⟨s.toArray⟩) :=
        (hs.kept kk.keeps (fun _ => by rintro (e | e); exact (hd hne).1 e; exact (hd hne).2 e)).cells k s hsk
      have hroom : (l ++ eachB (ss.take k)).length + s.length + 10 ≤ 140737488355328 := by
        have h1 := eachB_take_le ss (k + 1)
        rw [eachB_take_succ hsk, List.length_append] at h1
        have h2 : s.length ≤ (textB s).length := by unfold textB; rw [List.length_append]; omega
        rw [List.length_append]; omega
      have Hsk := Lib.hid hsk; clear hsk ha hd hne
      go_wp2_with fail
      refine (wtext_any b r1 _ ⟨s.toArray⟩ _ hw (by exact hroom)).mono ?_
      rintro e w1 ⟨rfl, h1⟩
      have fin := Lib.hid (EachAt.more Hsk.out kk h1); clear h1 kk
      go_wp2
      go_roundw
      case rel => exact fin.out
      case measure => simp [intOf]; omega
    · obtain rfl : k = ss.length := by omega
      rw [List.take_length] at hw
      clear hlt
      go_wp2
      go_end0
      exact ⟨rfl, r1, hw, kk⟩

set_option maxHeartbeats 400000 in
theorem wlTexts_any (b : Nat) (r : Option Nat) (l : List UInt8) (v : Value) (g o : Nat) (ss : List (List UInt8)) (w : World) (h : Wr b r l w) (hs : Strs w v g o ss) (hd : ss ≠ [] → g ≠ b ∧ some g ≠ r) (hlen : l.length + (eachB ss).length + 20 ≤ 140737488355328) :
    Calls Tryd.prog 63 #[.pointer (some ⟨b, 0, none⟩), v, .func (.func 64) #[.pointer (some ⟨b, 0, none⟩)] #[]] w fun e w' => e = .returned (.tuple #[]) ∧ Wrote b r (l ++ textsB ss) w w' := by
  obtain ⟨a, cap, rfl, ha⟩ := hs.val
  have hle := hs.le
  have hu := Lib.uvarint_length64 (show ss.length < 18446744073709551616 by omega)
  go_enter Tryd.func63, Tryd.ntmps63
  go_wp2_with fail
  refine (wuint_any b r l ss.length _ h (by omega) (by omega)).mono ?_
  rintro e w1 ⟨rfl, ⟨r1, h1, k1⟩⟩
  have hs1 : Strs w1 (.slice a ss.length cap) g o ss := hs.kept k1.keeps (fun hne => by rintro (e | e); exact (hd hne).1 e; exact (hd hne).2 e)
  have hd1 : ss ≠ [] → g ≠ b ∧ some g ≠ r1 := by
    intro hne
    refine ⟨(hd hne).1, fun e => ?_⟩
    rcases k1.later with e1 | ⟨g1, e1, hg1⟩
    · exact (hd hne).2 (e.trans e1)
    · rw [e1] at e; injection e with e; have := hs.lt hne; omega
  have k1' := Lib.hid k1; clear k1 hs ha hd
  have hd1' := Lib.hid hd1; clear hd1
  go_wp2_with fail
  refine (weach_any b r1 _ _ g o ss _ h1 hs1 hd1'.out (by rw [List.length_append]; omega)).mono ?_
  rintro e w2 ⟨rfl, h2⟩
  have fin : Wrote b r (l ++ textsB ss) w w2 := by
    have q := Wrote.trans k1'.out h2
    rw [List.append_assoc] at q
    exact q
  have fin' := Lib.hid fin; clear fin h2
  go_wp2
  go_end0
  exact ⟨rfl, fin'.out⟩

theorem wtexts_any (b : Nat) (r : Option Nat) (l : List UInt8) (v : Value) (g o : Nat) (ss : List (List UInt8)) (w : World) (h : Wr b r l w) (hs : Strs w v g o ss) (hd : ss ≠ [] → g ≠ b ∧ some g ≠ r) (hlen : l.length + (eachB ss).length + 20 ≤ 140737488355328) :
    Calls Tryd.prog 26 #[.pointer (some ⟨b, 0, none⟩), v] w fun e w' => e = .returned (.tuple #[]) ∧ Wrote b r (l ++ textsB ss) w w' := by
  have hd' := Lib.hid hd; clear hd
  go_enter Tryd.func26, Tryd.ntmps26
  go_wp2_with fail
  refine (wlTexts_any b r l v g o ss _ h hs hd'.out hlen).mono ?_
  rintro e w1 ⟨rfl, h1⟩
  go_wp2
  go_end0
  exact ⟨rfl, h1⟩
end Go.Proofs.YtilhkbohemghlaaDoor
