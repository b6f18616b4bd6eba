/-
  The contracts of firstNumber, firstText, first: the part that a key begins with.
-/
import Derived.Test.YtfhfbpjhjigbnaaDoorKJoin2
import Derived.RegionTactic
import Derived.ChangeAlike
namespace Go.Proofs.YtfhfbpjhjigbnaaDoor
open Go.RowKit Go.WideShapes
set_option maxRecDepth 100000

/-- api.ErrForm's variable holds a pointer to ef. -/
abbrev ErrF (ef : Addr) (w : World) : Prop := w.cell? ⟨0, 0, none⟩ = some (.iface 90 (.pointer (some ef)))
abbrev errF (ef : Addr) : Value := .iface 90 (.pointer (some ef))

theorem part_one (b : Bool) (n : Int) (s : ByteArray) : (#[Value.bool b, .int .i64 n, .string s] : Array Value).all (·.oneCell') = true := by simp [Value.oneCell']

/-- What the readers of one part answer. -/
def FirstV (ef : Addr) (l : List UInt8) (w : World) (e : Ending) (w' : World) : Prop :=
  Qt w w' ∧ ((∃ p n, K.headB l = some (p, l.drop n) ∧ 1 ≤ n ∧ n ≤ l.length ∧ e = .returned (.tuple #[(ofPart p).val, .int .i64 (n : Nat), .nilIface])) ∨
    (K.headB l = none ∧ e = .returned (.tuple #[.agg #[.bool false, .int .i64 0, .string ⟨#[]⟩], .int .i64 0, errF ef])))

theorem or_byte (x b : Nat) (hx : x < 72057594037927936) (hb : b < 256) : bits .or .u64 ((x : Int) * 256) (b : Int) = ((x * 256 + b : Nat) : Int) := by
  rw [show (x : Int) * 256 = ((x * 256 : Nat) : Int) by omega, u64_or_nat _ _ (by omega) (by omega)]
  congr 1
  have := Nat.shiftLeft_add_eq_or_of_lt (i := 8) (b := b) (by omega) x
  rw [Nat.shiftLeft_eq] at this
  exact this.symm

theorem deB_snoc : ∀ (l : List UInt8) (c : UInt8), K.deB (l ++ [c]) = K.deB l * 256 + c.toNat
  | [], c => by simp [K.deB]
  | b :: r, c => by
    rw [List.cons_append, K.deB, K.deB, deB_snoc r c, List.length_append, List.length_singleton, Nat.pow_succ, Nat.add_mul, Nat.mul_assoc]
    omega

theorem drop_get (s : ByteArray) (k : Nat) (h : k < s.size) : s.data.toList.drop k = s[k] :: s.data.toList.drop (k + 1) := by
  rw [List.drop_eq_getElem_cons (by simpa using h)]; rfl
theorem take_drop_snoc (s : ByteArray) (a k : Nat) (h : a + k < s.size) : (s.data.toList.drop a).take (k + 1) = (s.data.toList.drop a).take k ++ [s[a + k]] := by
  rw [List.take_succ_eq_append_getElem (by rw [List.length_drop]; have : s.data.toList.length = s.size := rfl; omega), List.getElem_drop]; rfl

/-- The number's loop: k bytes are read. -/
def FNAt (s : ByteArray) (W1 : World) (x i : Value) (wr : World) : Prop :=
  ∃ k : Nat, k ≤ 8 ∧ i = .int .i64 ((k : Int) + 1) ∧ x = .int .u64 (K.deB ((s.data.toList.drop 1).take k) : Nat) ∧ W1 = wr

theorem deB_take_lt (l : List UInt8) (k : Nat) : K.deB (l.take k) < 256 ^ k := by
  have h1 := K.deB_lt (l.take k)
  have h2 : (l.take k).length ≤ k := by rw [List.length_take]; omega
  exact Nat.lt_of_lt_of_le h1 (Nat.pow_le_pow_right (by decide) h2)

theorem num_back (X : Nat) (hX : X < 18446744073709551616) : (∃ c : Nat, bits .xor .u64 (X : Int) 9223372036854775808 = (c : Int) ∧ c < 18446744073709551616 ∧ IntKind.i64.wrap (c : Int) = (X : Int) - 9223372036854775808) := by
  rw [show (9223372036854775808 : Int) = ((9223372036854775808 : Nat) : Int) from rfl, u64_xor_nat _ _ hX (by omega), xor_top X hX]
  by_cases h : X < 9223372036854775808
  · refine ⟨X + 9223372036854775808, by rw [if_pos h], by omega, ?_⟩
    rw [IntKind.wrap_i64]; omega
  · refine ⟨X - 9223372036854775808, by rw [if_neg h], by omega, ?_⟩
    rw [IntKind.wrap_i64]; omega

theorem headB_num {l : List UInt8} (h1 : l.head? = some 1) (hl : 9 ≤ l.length) : K.headB l = some (.num ((K.deB ((l.drop 1).take 8) : Int) - 9223372036854775808), l.drop 9) := by
  cases l with
  | nil => simp at h1
  | cons c r =>
    simp at h1
    subst h1
    rw [K.headB, if_pos rfl, if_neg (by simp at hl; omega)]
    rfl
theorem headB_num_no {l : List UInt8} (h1 : l.head? = some 1) (hl : l.length < 9) : K.headB l = none := by
  cases l with
  | nil => simp at h1
  | cons c r =>
    simp at h1
    subst h1
    rw [K.headB, if_pos rfl, if_pos (by simp at hl; omega)]

set_option maxHeartbeats 3200000 in
theorem firstNumber_any (ef : Addr) (s : ByteArray) (w : World) (hE : ErrF ef w) (hs : s.size ≤ 9223372036854775807) (h1 : s.data.toList.head? = some 1) : Calls Tryd.prog 40 #[.string s] w (FirstV ef s.data.toList w) := by
  have hlen : s.data.toList.length = s.size := rfl
  have hE2 : ∀ o, ErrF ef (w.alloc o) := fun o => ((Keeps.refl (fun _ => False) w).alloc o).cellv hE (fun e => e)
  have hgl : 0 < w.heap.size := World.block_lt_of_cell? w _ hE
  by_cases hl : s.size < 9
  · have hn := Lib.hid (headB_num_no h1 (by omega))
    have he := hE2 (.cells #[.bool false, .int .i64 0, .string ⟨#[]⟩] 25)
    have Fin := Lib.hid (fun W (k : Qt w W) => show FirstV ef s.data.toList w (.returned (.tuple #[.agg #[.bool false, .int .i64 0, .string ⟨#[]⟩], .int .i64 0, errF ef])) W from ⟨k, .inr ⟨hn.out, rfl⟩⟩)
    clear hE2
    go_enter Tryd.func40, Tryd.ntmps40
    go_wp2
    go_region
    all_goals
      go_wp2
      exact bodyPost_ret (v := .tuple #[.agg #[.bool false, .int .i64 0, .string ⟨#[]⟩], .int .i64 0, errF ef]) (by simp [results, Tryd.results40, go_sem]) rfl (Fin.out _ ((Keeps.refl _ _).alloc _).drew)
  · have hd8 : K.deB ((s.data.toList.drop 1).take 8) < 18446744073709551616 := deB_take_lt _ 8
    obtain ⟨c, hc1, hc2, hc3⟩ := num_back _ hd8
    have hn := headB_num h1 (by omega)
    have Fin := Lib.hid (fun W (k : Qt w W) => show FirstV ef s.data.toList w (.returned (.tuple #[.agg #[.bool true, .int .i64 ((K.deB ((s.data.toList.drop 1).take 8) : Nat) - 9223372036854775808), .string ⟨#[]⟩], .int .i64 9, .nilIface])) W from ⟨k, .inl ⟨_, 9, hn, by omega, by omega, rfl⟩⟩)
    have hz := heap_alloc_new w (.cells #[.bool false, .int .i64 0, .string ⟨#[]⟩] 25)
    have HC1 := Lib.hid hc1
    have HC3 := Lib.hid hc3
    clear hE2 hn hd8 hc1 hc3
    go_enter Tryd.func40, Tryd.ntmps40
    go_wp2
    have k0 : Qt w (w.alloc (.cells #[.bool false, .int .i64 0, .string ⟨#[]⟩] 25)) := (Keeps.refl _ _).alloc _
    generalize w.alloc (.cells #[.bool false, .int .i64 0, .string ⟨#[]⟩] 25) = W0 at *
    have HZ := Lib.hid hz
    have K0 := Lib.hid k0
    clear hz k0
    go_loopw [5, 6] (fun x i wr => FNAt s W0 x i wr) (fun _ i _ => 10 - (intOf i).toNat)
    case atStart => exact ⟨0, by omega, rfl, rfl, rfl⟩
    case round =>
      obtain ⟨k, hk, rfl, rfl, rfl⟩ := hrel
      by_cases hlt : k < 8
      · have hx := deB_take_lt (s.data.toList.drop 1) k
        have hx2 : K.deB ((s.data.toList.drop 1).take k) < 72057594037927936 := Nat.lt_of_lt_of_le hx (by rw [show (72057594037927936 : Nat) = 256 ^ 7 from rfl]; exact Nat.pow_le_pow_right (by decide) (by omega))
        have hks : 1 + k < s.size := by omega
        have hst := take_drop_snoc s 1 k hks
        have hor := or_byte _ s[1 + k].toNat hx2 s[1 + k].toNat_lt
        have e1 : K.deB ((s.data.toList.drop 1).take (k + 1)) = K.deB ((s.data.toList.drop 1).take k) * 256 + s[1 + k].toNat := by rw [hst, deB_snoc]
        have E1 := Lib.hid e1
        clear e1 hst hx
        generalize K.deB ((s.data.toList.drop 1).take k) = X at *
        have hi : ((k : Int) + 1).toNat = 1 + k := by omega
        have hbb : s[1 + k].toNat < 256 := s[1 + k].toNat_lt
        have HOr := Lib.hid hor
        clear hor
        go_wp2
        go_roundw
        case rel => exact ⟨k + 1, by omega, by simp, by rw [E1.out, ← HOr.out], rfl⟩
        case measure => simp [intOf]; omega
      · obtain rfl : k = 8 := by omega
        have hc1 := HC1.out
        have hc3 := HC3.out
        clear hlt hk
        generalize K.deB ((s.data.toList.drop 1).take 8) = X at *
        go_wp2_with fail
        refine (number_any _ _).mono ?_
        rintro e w1 ⟨rfl, k1⟩
        clear hc1 hc3
        have hz1 : w1.heap[w.heap.size]? = some (.cells #[.bool false, .int .i64 0, .string ⟨#[]⟩] 25 (0, 0)) := (k1.block _ (lt_of_block HZ.out) (fun e => e)).trans HZ.out
        have K1 := Lib.hid (Qt.trans K0.out k1)
        clear k1
        go_wp2_with (refine wpList_store_row _ rfl 25 _ _ rfl w.heap.size _ _ 25 rfl rfl hz1 (by kernel_rfl) rfl (part_one _ _ _) ?_)
        have hset := setRow_heap w1 w.heap.size _ #[.bool true, .int .i64 ((X : Int) - 9223372036854775808), .string ⟨#[]⟩] 25 (0, 0) hz1
        have kf := Keeps.setRow (S := fun _ => False) (a := w) K1.out (g := w.heap.size) (fun h => absurd h (by omega)) #[.bool true, .int .i64 ((X : Int) - 9223372036854775808), .string ⟨#[]⟩]
        generalize w1.setRow w.heap.size _ = W2 at *
        have d : ∀ j, W2.cell? ⟨w.heap.size, j, none⟩ = _ := fun j => cell_of_row _ _ _ _ _ _ hset
        have d0 := d 0
        have d1 := d 1
        have d2 := d 2
        have KF := Lib.hid (Fin.out W2 kf)
        clear d hset kf hz1
        go_wp2
        exact bodyPost_ret (v := .tuple #[.agg #[.bool true, .int .i64 ((X : Int) - 9223372036854775808), .string ⟨#[]⟩], .int .i64 9, .nilIface]) (by simp [results, Tryd.results40, go_sem, d0, d1, d2]) rfl KF.out
end Go.Proofs.YtfhfbpjhjigbnaaDoor
