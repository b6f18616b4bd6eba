/-
  The contracts of remitref01's writing functions, on: Int, Low, Float, Text, Texts.
-/
import Derived.Test.YtilhkbohemghlaaDoorSpare
import Derived.Laws.BytesArg
namespace Go.Proofs.YtilhkbohemghlaaDoor
open Go.ChangeShapes Go.WideShapes Go.ChangeAt Go.RowKit
set_option maxRecDepth 100000

/-- A new []byte value that holds l: its row, if any, lies in a block from B on. -/
structure NewBytes (B : Nat) (w : World) (v : Value) (l : List UInt8) : Prop where
  own : w.ownsRowF 0 5 1 v l.length (Lib.byteCells l)
  new : ∀ g, v.ownBlock = some g → B ≤ g
theorem NewBytes.nil (B : Nat) (w : World) : NewBytes B w (.slice none 0 0) [] := ⟨World.ownsRowF_nil _ _ _ _, fun g h => by simp [Value.ownBlock] at h⟩
theorem NewBytes.kept {B : Nat} {S : Nat → Prop} {w w' : World} {v : Value} {l : List UInt8} (h : NewBytes B w v l) (hk : Keeps S w w') (hn : ∀ k, v.ownBlock = some k → ¬ S k) : NewBytes B w' v l := ⟨ownsRowF_kept h.own hk hn, h.new⟩
theorem NewBytes.later {B : Nat} {w w1 w2 : World} {v v' : Value} {l l' : List UInt8} (h : NewBytes B w v l) (hB : B ≤ w1.heap.size) (hl : Later w1 v.ownBlock v'.ownBlock) (hown : w2.ownsRowF 0 5 1 v' l'.length (Lib.byteCells l')) : NewBytes B w2 v' l' :=
  ⟨hown, fun g hg => by
    rcases hl with e | ⟨g', e, hge⟩
    · exact h.new g (e ▸ hg)
    · rw [e] at hg; injection hg with hg; omega⟩

theorem strOfNums_nat (l : List UInt8) : strOfNums (l.map fun b => ((b.toNat : Nat) : Int)) = ⟨l.toArray⟩ := by
  unfold strOfNums
  rw [List.map_map]
  congr 2
  conv => rhs; rw [← List.map_id l]
  apply List.map_congr_left
  intro b _
  simp

/-- 'string(b)' of an owned row. -/
theorem own_conv {w : World} {v : Value} {l : List UInt8} (h : w.ownsRowF 0 5 1 v l.length (Lib.byteCells l)) : (convert 26 9 v).run Tryd.prog w = .ok (.string ⟨l.toArray⟩) w := by
  rcases h.2 with ⟨rfl, h0⟩ | ⟨g, cap, cur, fz, rfl, _⟩
  · obtain rfl : l = [] := List.eq_nil_of_length_eq_zero h0
    exact run_convert_bytes_nil (P := Tryd.prog) w 26 5 Tryd.underlying26 Tryd.underlying5 0 0 9 Tryd.underlying9
  · have h1 := run_convert_bytes_arg (P := Tryd.prog) w 26 5 Tryd.underlying26 Tryd.underlying5 g 0 l.length cap (l.map fun b => ((b.toNat : Nat) : Int)) (by simp) (fun i hi => by
      have h2 := h.cells (g := g) rfl i (.int .u8 (l[i].toNat)) (by simp [Lib.byteCells, hi])
      rw [add_plain] at h2
      rw [h2]
      simp [List.getD, hi]) 9 Tryd.underlying9
    rw [strOfNums_nat] at h1
    exact h1

theorem refInt_any (x : Int) (w : World) (h0 : -9223372036854775808 ≤ x) (h1 : x ≤ 9223372036854775807) :
    Calls Tryd.prog 36 #[.int .i64 x] w fun e w' => e = .returned (.string ⟨(Lib.uvarint (Lib.zigzag x)).toArray⟩) ∧ Keeps (fun _ => False) w w' := by
  have hz := Lib.zigzag_lt h0 h1
  by_cases hs : x < 0
  · have e : ((Lib.zigzag x : Nat) : Int) = 2 * -(x + 1) + 1 := by unfold Lib.zigzag; rw [if_neg (by omega)]; omega
    have q := refUint_any (Lib.zigzag x) w hz
    rw [e] at q
    have q := Lib.hid q
    clear e
    go_enter Tryd.func36, Tryd.ntmps36
    go_wp2_with fail
    refine q.out.mono ?_
    rintro e w' ⟨rfl, hk⟩
    go_wp2
    go_ret
    exact ⟨rfl, hk⟩
  · have e : ((Lib.zigzag x : Nat) : Int) = 2 * x := by unfold Lib.zigzag; rw [if_pos (by omega)]; omega
    have q := refUint_any (Lib.zigzag x) w hz
    rw [e] at q
    have q := Lib.hid q
    clear e
    go_enter Tryd.func36, Tryd.ntmps36
    go_wp2_with fail
    refine q.out.mono ?_
    rintro e w' ⟨rfl, hk⟩
    go_wp2
    go_ret
    exact ⟨rfl, hk⟩

theorem and_lo (x : Nat) : x &&& 8388607 = x % 8388608 := by
  rw [show (8388607 : Nat) = 2 ^ 23 - 1 by decide, Nat.and_two_pow_sub_one_eq_mod]
theorem and_hi (x : Nat) : x &&& 2139095040 = x / 8388608 % 256 * 8388608 := by
  have e : x / 8388608 % 256 * 8388608 = ((x >>> 23) % 2 ^ 8) <<< 23 := by
    rw [Nat.shiftLeft_eq, Nat.shiftRight_eq_div_pow]
  rw [e, show (2139095040 : Nat) = (2 ^ 8 - 1) <<< 23 by decide]
  apply Nat.eq_of_testBit_eq
  intro i
  rw [Nat.testBit_and, Nat.testBit_shiftLeft, Nat.testBit_shiftLeft, Nat.testBit_mod_two_pow, Nat.testBit_shiftRight, Nat.testBit_two_pow_sub_one]
  by_cases h : 23 ≤ i
  · rw [show 23 + (i - 23) = i by omega]
    cases x.testBit i <;> simp [h]
  · simp [h]

theorem isNaN_any (x : Nat) (w : World) (hx : x < 4294967296) :
    Calls Tryd.prog 70 #[.int .u32 x] w fun e w' => e = .returned (.bool (isNaNB x)) ∧ w = w' := by
  have e1 := u32_and_nat x 2139095040 hx (by decide)
  have e2 := u32_and_nat x 8388607 hx (by decide)
  rw [and_hi] at e1
  rw [and_lo] at e2
  have r : isNaNB x = decide (x / 8388608 % 256 = 255 ∧ x % 8388608 ≠ 0) := rfl
  by_cases c1 : x / 8388608 % 256 = 255
  · rw [c1] at e1
    by_cases c2 : x % 8388608 = 0
    · rw [c2] at e2
      rw [r, decide_eq_false (by omega)]
      have e1' : bits .and .u32 (x : Int) 2139095040 = 2139095040 := e1
      have e2' : bits .and .u32 (x : Int) 8388607 = 0 := e2
      clear r c1 c2 e1 e2
      go_enter Tryd.func70, Tryd.ntmps70
      go_wp2
      go_ret
      exact ⟨rfl, rfl⟩
    · rw [r, decide_eq_true ⟨c1, c2⟩]
      have e1' : bits .and .u32 (x : Int) 2139095040 = 2139095040 := e1
      have e2' : bits .and .u32 (x : Int) 8388607 = ((x % 8388608 : Nat) : Int) := e2
      have c3 : (((x % 8388608 : Nat) : Int) != 0) = true := by simp; omega
      clear r c1 e1 e2
      generalize x % 8388608 = m at *
      go_enter Tryd.func70, Tryd.ntmps70
      go_wp2
      go_ret
      exact ⟨rfl, rfl⟩
  · rw [r, decide_eq_false (fun h => c1 h.1)]
    have e1' : bits .and .u32 (x : Int) 2139095040 = ((x / 8388608 % 256 * 8388608 : Nat) : Int) := e1
    have c3 : (((x / 8388608 % 256 * 8388608 : Nat) : Int) == 2139095040) = false := by simp; omega
    clear r c1 e1 e2
    generalize x / 8388608 % 256 * 8388608 = m at *
    go_enter Tryd.func70, Tryd.ntmps70
    go_wp2
    go_ret
    exact ⟨rfl, rfl⟩

/-- Low's loop. -/
def LowStr (n x : Nat) (w : World) (v b i : Value) (wr : World) : Prop :=
  ∃ k : Nat, k ≤ n ∧ i = .int .i64 k ∧ v = .int .u64 ((x / 256 ^ k : Nat) : Int) ∧ NewBytes w.heap.size wr b (lowB k x) ∧ Since w.heap.size w wr

theorem LowStr.more {n x k : Nat} {b b' : Value} {w wr w2 w3 : World} (hlt : k < n) (hn : NewBytes w.heap.size wr b (lowB k x)) (hS : Since w.heap.size w wr) (k2 : Keeps (fun _ => False) wr w2)
    (hg : w2.grownBy w3 b.ownBlock) (hl : Later w2 b.ownBlock b'.ownBlock) {c : Int} (hc : c = ((x / 256 ^ k % 256 : Nat) : Int)) (hown : w3.ownsRowF 0 5 1 b' (k + 1) (Lib.byteCells (lowB k x) ++ [.int .u8 c])) :
    LowStr n x w (.int .u64 ((x / 256 ^ k / 256 : Nat) : Int)) b' (.int .i64 ((k + 1 : Nat) : Int)) w3 := by
  have h0 := hS.size
  have h2 := k2.size
  refine ⟨k + 1, hlt, rfl, by rw [Nat.div_div_eq_div_mul, Nat.pow_succ], hn.later (by omega) hl ?_, Keeps.grown (hS.step k2 (fun _ h => h.elim)) hg (fun j hj e => hn.new j e.symm)⟩
  rw [lowB_snoc, List.length_append, lowB_length, Lib.byteCells_append]
  have hb : Lib.byteCells [(x / 256 ^ k % 256).toUInt8] = [.int .u8 c] := by
    simp only [Lib.byteCells, List.map_cons, List.map_nil, hc]
    rw [toUInt8_toNat (by omega)]
  rw [hb]
  exact hown

theorem infoByte' : (Tryd.prog.info? 5).map (fun i => (i.zero, i.size, i.bytes)) = some (some (.int .u8 0), 1, 1) := infoByte

set_option maxHeartbeats 800000 in
theorem refLow_any (n x : Nat) (w : World) (hn : n ≤ 8) (hx : x < 18446744073709551616) :
    Calls Tryd.prog 38 #[.int .u64 x, .int .i64 n] w fun e w' => e = .returned (.string ⟨(lowB n x).toArray⟩) ∧ Keeps (fun _ => False) w w' := by
  obtain ⟨i0, hi, hz0, hz1, hz2⟩ := info_parts infoByte
  go_enter Tryd.func38, Tryd.ntmps38
  go_wp2
  go_loopw [0, 5, 6] (fun v b i wr => LowStr n x w v b i wr) (fun _ _ i _ => n - (intOf i).toNat)
  case atStart => exact ⟨0, Nat.zero_le _, rfl, by simp, NewBytes.nil _ _, Keeps.refl _ _⟩
  case round =>
    obtain ⟨k, hk, rfl, rfl, hb, hS⟩ := hrel
    have Hb := Lib.hid hb
    have HS := Lib.hid hS
    have hy : x / 256 ^ k < 18446744073709551616 := Nat.lt_of_le_of_lt (Nat.div_le_self _ _) hx
    by_cases hlt : k < n
    · have own := hb.own
      rw [lowB_length] at own
      have fin := Lib.hid (fun (b' : Value) (w2 w3 : World) (c : Int) (hc : c = ((x / 256 ^ k % 256 : Nat) : Int)) (k2 : Keeps (fun _ => False) wr w2) (hg : w2.grownBy w3 _) (hl : Later w2 _ b'.ownBlock) (ho : w3.ownsRowF 0 5 1 b' (k + 1) (Lib.byteCells (lowB k x) ++ [.int .u8 c])) =>
        LowStr.more hlt Hb.out HS.out k2 hg hl hc ho)
      clear hb hS
      generalize x / 256 ^ k = y at *
      go_wp2_with (at_builtin; refine wpList_append_cellsF _ rfl _ _ 26 rfl 5 i0 (.int .u8 0) 1 1 Tryd.underlying26 hi hz0 hz1 hz2 rfl (by decide) _ k _ rfl (ownsRowF_kept own ((Keeps.refl (fun _ => False) _).alloc _) (fun _ _ h => h)) ⟨wr.heap.size, 0, none⟩ 1 1 [.int .u8 ((y : Int) % 256)] rfl rfl ?c1 ?c2 ?c3 ?c4 ?_)
      case c1 => exact World.news_of_block (cs := #[.int .u8 ((y : Int) % 256)]) (heap_alloc_new wr _)
      case c2 => intro u hu; rw [List.mem_singleton.1 hu]; rfl
      case c3 => unfold maxLen; omega
      case c4 => omega
      intro b' w3 hown hg hl _
      have fin2 := Lib.hid (fin.out _ _ _ _ (by omega) ((Keeps.refl _ _).alloc _) hg hl hown)
      clear own hown hg hl fin
      go_wp2
      go_roundw
      case rel => exact fin2.out
      case measure => simp [intOf]; omega
    · obtain rfl : k = n := by omega
      have hcv := own_conv hb.own
      have fin := Lib.hid (Keeps.fresh hS)
      clear hb hS hlt
      go_wp2
      go_ret
      exact ⟨rfl, fin.out⟩

theorem refFloat_any (x : Nat) (w : World) (hx : x < 4294967296) :
    Calls Tryd.prog 41 #[.int .u32 x] w fun e w' => e = .returned (.string ⟨(floatB x).toArray⟩) ∧ Keeps (fun _ => False) w w' := by
  have q := Lib.hid (isNaN_any x w hx)
  by_cases hn : isNaNB x = true
  · have hc : canon x = 2143289344 := by unfold canon; rw [if_pos hn]
    rw [floatB, hc]
    have q2 := Lib.hid (refLow_any 4 2143289344 w (by decide) (by decide))
    rw [hn] at q
    go_enter Tryd.func41, Tryd.ntmps41
    go_wp2_with fail
    refine q.out.mono ?_
    rintro e w' ⟨rfl, rfl⟩
    go_wp2_with fail
    refine q2.out.mono ?_
    rintro e w' ⟨rfl, hk⟩
    go_wp2
    go_ret
    exact ⟨rfl, hk⟩
  · have hn' : isNaNB x = false := by simpa using hn
    have hc : canon x = x := by unfold canon; rw [if_neg hn]
    rw [floatB, hc]
    have q2 := Lib.hid (refLow_any 4 x w (by decide) (by omega))
    rw [hn'] at q
    clear hn hn' hc
    go_enter Tryd.func41, Tryd.ntmps41
    go_wp2_with fail
    refine q.out.mono ?_
    rintro e w' ⟨rfl, rfl⟩
    go_wp2_with fail
    refine q2.out.mono ?_
    rintro e w' ⟨rfl, hk⟩
    go_wp2
    go_ret
    exact ⟨rfl, hk⟩

theorem app_bytes (l : List UInt8) (s : ByteArray) : (⟨l.toArray⟩ : ByteArray) ++ s = ⟨(l ++ s.data.toList).toArray⟩ := by
  apply ByteArray.ext
  simp

theorem refText_any (s : ByteArray) (w : World) (hs : s.size ≤ 140737488355328) :
    Calls Tryd.prog 43 #[.string s] w fun e w' => e = .returned (.string ⟨(textB s.data.toList).toArray⟩) ∧ Keeps (fun _ => False) w w' := by
  have q := Lib.hid (refUint_any s.size w (by omega))
  have ha := Lib.hid (app_bytes (Lib.uvarint s.size) s)
  have h10 := Lib.uvarint_length64 (show s.size < 18446744073709551616 by omega)
  go_enter Tryd.func43, Tryd.ntmps43
  go_wp2_with fail
  refine q.out.mono ?_
  rintro e w' ⟨rfl, hk⟩
  go_wp2
  go_ret
  refine ⟨?_, hk⟩
  rw [ha.out]
  rfl
end Go.Proofs.YtilhkbohemghlaaDoor
