/-
  The contract of the reference's form: a part's bytes, as a new []byte.
-/
import Derived.Test.YtfhfbpjhjigbnaaDoorKJoin2
import Derived.Laws.BytesArg
import Derived.IntWalk
import Derived.Deep.AppendLies
import Derived.OwnWalk
import Derived.Outline
namespace Go.Proofs.YtfhfbpjhjigbnaaDoor
open Go.RowKit Go.WideShapes
set_option maxRecDepth 100000

/-- A new []byte value that holds l: its row, if any, lies in a block from B on. -/
structure NewBytes (B : Nat) (w : World) (v : Value) (l : List UInt8) : Prop where
  own : w.ownsRow 0 5 1 v l.length (Lib.byteCells l)
  new : ∀ g, v.ownBlock = some g → B ≤ g
theorem NewBytes.nil (B : Nat) (w : World) : NewBytes B w (.slice none 0 0) [] := ⟨World.ownsRow_nil _ _ _ _, fun g h => by simp [Value.ownBlock] at h⟩
theorem NewBytes.kept {B : Nat} {S : Nat → Prop} {w w' : World} {v : Value} {l : List UInt8} (h : NewBytes B w v l) (hk : Keeps S w w') (hn : ∀ k, v.ownBlock = some k → ¬ S k) : NewBytes B w' v l := ⟨ownsRow_kept h.own hk hn, h.new⟩
theorem NewBytes.qt {B : Nat} {w w' : World} {v : Value} {l : List UInt8} (h : NewBytes B w v l) (hk : Qt w w') : NewBytes B w' v l := h.kept hk (fun _ _ e => e)
theorem NewBytes.later {B : Nat} {w w1 w2 : World} {v v' : Value} {l l' : List UInt8} (h : NewBytes B w v l) (hB : B ≤ w1.heap.size) (hl : Later w1 v.ownBlock v'.ownBlock) (hown : w2.ownsRow 0 5 1 v' l'.length (Lib.byteCells l')) : NewBytes B w2 v' l' :=
  ⟨hown, fun g hg => by
    rcases hl with e | ⟨g', e, hge⟩
    · exact h.new g (e ▸ hg)
    · rw [e] at hg; injection hg with hg; omega⟩

theorem strOfNums_nat (l : List UInt8) : strOfNums (l.map fun b => ((b.toNat : Nat) : Int)) = ⟨l.toArray⟩ := by
  unfold strOfNums
  rw [List.map_map]
  congr 2
  conv => rhs; rw [← List.map_id l]
  apply List.map_congr_left
  intro b _
  simp

/-- 'string(b)' of an owned row. -/
theorem own_conv {w : World} {v : Value} {l : List UInt8} (h : w.ownsRow 0 5 1 v l.length (Lib.byteCells l)) : (convert 48 9 v).run Tryd.prog w = .ok (.string ⟨l.toArray⟩) w := by
  rcases h.2 with ⟨rfl, h0⟩ | ⟨g, cap, cur, rfl, _⟩
  · obtain rfl : l = [] := List.eq_nil_of_length_eq_zero h0
    exact run_convert_bytes_nil (P := Tryd.prog) w 48 5 Tryd.underlying48 Tryd.underlying5 0 0 9 Tryd.underlying9
  · have h1 := run_convert_bytes_arg (P := Tryd.prog) w 48 5 Tryd.underlying48 Tryd.underlying5 g 0 l.length cap (l.map fun b => ((b.toNat : Nat) : Int)) (by simp) (fun i hi => by
      have h2 := (World.ownsRowF_of h).cells (g := g) rfl i (.int .u8 (l[i].toNat)) (by simp [Lib.byteCells, hi])
      rw [add_plain] at h2
      rw [h2]
      simp [List.getD, hi]) 9 Tryd.underlying9
    rw [strOfNums_nat] at h1
    exact h1

/-- '[]byte{..}' of closed bytes: a new block. -/
theorem NewBytes.made (W : World) (l : List UInt8) (h : l ≠ []) (hl : l.length ≤ 65536) : NewBytes W.heap.size (W.alloc (.cells (Lib.byteCells l).toArray 5)) (.slice (some ⟨W.heap.size, 0, none⟩) l.length l.length) l := by
  have hb : (Lib.byteCells l).length = l.length := by simp [Lib.byteCells]
  refine ⟨⟨by rw [hb, Nat.mul_one], .inr ⟨W.heap.size, l.length, _, rfl, Nat.zero_le _, heap_alloc_new W _, Nat.le_refl _, by unfold maxLen; omega, by simp [hb], ?_⟩⟩, fun g hg => ?_⟩
  · rw [Nat.mul_one, ← hb]; exact List.take_length
  · simp [Value.ownBlock] at hg; omega

/-- The state of a []byte that grows. -/
structure Bytes (W1 : World) (v : Value) (l : List UInt8) (wr : World) : Prop where
  nb : NewBytes W1.heap.size wr v l
  since : Since W1.heap.size W1 wr

theorem Bytes.app {W1 wr w2 w3 : World} {v v' : Value} {l m : List UInt8} (h : Bytes W1 v l wr) (k2 : Qt wr w2) (hg : w2.grownBy w3 v.ownBlock) (hl : Later w2 v.ownBlock v'.ownBlock) (hown : w3.ownsRow 0 5 1 v' (l.length + m.length) (Lib.byteCells l ++ Lib.byteCells m)) : Bytes W1 v' (l ++ m) w3 := by
  have h0 := h.since.size
  have h2 := k2.size
  refine ⟨h.nb.later (by omega) hl ?_, Keeps.grown (h.since.step k2 (fun _ h => h.elim)) hg (fun j hj e => h.nb.new j e.symm)⟩
  rw [List.length_append, Lib.byteCells_append]
  exact hown
theorem Bytes.own {W1 wr : World} {v : Value} {l : List UInt8} (h : Bytes W1 v l wr) {w2 : World} (k2 : Qt wr w2) : w2.ownsRow 0 5 1 v l.length (Lib.byteCells l) := (h.nb.qt k2).own

theorem formB_ne (p : K.PartD) : 1 ≤ (K.formB p).length := by obtain ⟨c, r, h⟩ := K.formB_cons p; rw [h]; simp

/-- The number's loop: k bytes are left. -/
def FNumAt (X : Nat) (W1 : World) (v i : Value) (wr : World) : Prop :=
  ∃ (k : Nat) (pre : List UInt8), k ≤ 8 ∧ i = .int .i64 (8 * (k : Int) - 8) ∧ Bytes W1 v ([1] ++ pre) wr ∧ pre ++ K.beB k (X % 256 ^ k) = K.beB 8 X

theorem FNumAt.more {X k : Nat} {pre : List UInt8} {W1 wr w2 w3 : World} {v v' : Value} (hk : k + 1 ≤ 8) (h : Bytes W1 v ([1] ++ pre) wr) (he : pre ++ K.beB (k + 1) (X % 256 ^ (k + 1)) = K.beB 8 X) {c : Int} (hc : c = ((X / 256 ^ k % 256 : Nat) : Int))
    (k2 : Qt wr w2) (hg : w2.grownBy w3 v.ownBlock) (hl : Later w2 v.ownBlock v'.ownBlock) (hown : w3.ownsRow 0 5 1 v' (([1] ++ pre).length + 1) (Lib.byteCells ([1] ++ pre) ++ [.int .u8 c])) : FNumAt X W1 v' (.int .i64 (8 * (k : Int) - 8)) w3 := by
  have hb : Lib.byteCells [(X / 256 ^ k % 256).toUInt8] = [.int .u8 c] := by
    simp only [Lib.byteCells, List.map_cons, List.map_nil, hc]
    rw [K.u8_toNat (by omega)]
  refine ⟨k, pre ++ [(X / 256 ^ k % 256).toUInt8], by omega, rfl, ?_, ?_⟩
  · rw [← List.append_assoc]
    exact h.app k2 hg hl (by rw [hb]; exact hown)
  · rw [← he, beB_step]
    simp

theorem FNumAt.done {X : Nat} {pre : List UInt8} {w W1 wr : World} {v : Value} (k1 : Qt w W1) (h : Bytes W1 v ([1] ++ pre) wr) (he : pre ++ K.beB 0 (X % 256 ^ 0) = K.beB 8 X) : NewBytes w.heap.size wr v ([1] ++ K.beB 8 X) ∧ Qt w wr := by
  rw [show K.beB 0 (X % 256 ^ 0) = [] from rfl, List.append_nil] at he
  have hs := k1.size
  exact ⟨he ▸ ⟨h.nb.own, fun g hg => by have := h.nb.new g hg; omega⟩, Qt.trans k1 (Since.qt h.since)⟩

set_option maxHeartbeats 3200000 in
theorem form_num (n : Int) (s : ByteArray) (w : World) (h0 : -9223372036854775808 ≤ n) (h1 : n ≤ 9223372036854775807) :
    Calls Tryd.prog 27 #[.agg #[.bool true, .int .i64 n, .string s]] w fun e w' => ∃ v, e = .returned v ∧ NewBytes w.heap.size w' v (K.formB (.num n)) ∧ Qt w w' := by
  obtain ⟨i0, hi, hz0, hz1, hz2⟩ := info_parts infoByte
  rw [formB_num]
  have hX : (n + 9223372036854775808).toNat < 18446744073709551616 := by omega
  have hadd : (0 ≤ n ∧ n + 9223372036854775808 = (((n + 9223372036854775808).toNat : Nat) : Int)) ∨ (n < 0 ∧ IntKind.u64.wrap (IntKind.u64.wrap n + 9223372036854775808) = (((n + 9223372036854775808).toNat : Nat) : Int)) := by
    by_cases hn : 0 ≤ n
    · exact .inl ⟨hn, by omega⟩
    · refine .inr ⟨by omega, ?_⟩
      rw [IntKind.wrap_u64, IntKind.wrap_u64]
      omega
  generalize hXe : (n + 9223372036854775808).toNat = X at *
  clear hXe
  have Hm := Lib.hid (fun W : World => NewBytes.made W [1] (by simp) (by simp))
  rcases hadd with ⟨hn, hx⟩ | ⟨hn, hx⟩
  all_goals
    go_enter Tryd.func27, Tryd.ntmps27
    go_wp2
    have k1 : ∀ o, Qt w (w.alloc o) := fun o => (Keeps.refl (fun _ => False) w).alloc o
    have s1 : ∀ o, (w.alloc o).heap.size = w.heap.size + 1 := fun o => by simp
    generalize hW : w.alloc _ = W1
    have K1 := Lib.hid (hW ▸ k1 _)
    have S1 := hW ▸ s1 (Obj.cells #[Value.bool true, Value.int IntKind.i64 n, Value.string s] 25)
    clear k1 s1 hW hx
    rw [← S1]
    clear S1
    have B1 := Lib.hid (show Bytes W1 (.slice (some ⟨W1.heap.size, 0, none⟩) 1 1) ([1] ++ []) (W1.alloc (.cells #[.int .u8 1] 5)) from ⟨Hm.out W1, (Keeps.refl _ _).alloc _⟩)
    go_loopw [3, 5] (fun v i wr => FNumAt X W1 v i wr) (fun _ i _ => (intOf i + 8).toNat)
    case atStart => exact ⟨8, [], by omega, rfl, B1.out, by rw [Nat.mod_eq_of_lt (by omega)]; rfl⟩
    case round =>
      obtain ⟨k, pre, hk, rfl, hb, he⟩ := hrel
      have hlen : ([1] ++ pre).length ≤ 9 := by
        have h := congrArg List.length he
        rw [List.length_append, K.beB_length, K.beB_length] at h
        simp; omega
      have Fin := Lib.hid (fun (j : Nat) (e : k = j + 1) (c : Int) (hc : c = ((X / 256 ^ j % 256 : Nat) : Int)) (v' : Value) (w2 w3 : World) (k2 : Qt wr w2) (hg : w2.grownBy w3 _) (hl : Later w2 _ v'.ownBlock) (hown : w3.ownsRow 0 5 1 v' (([1] ++ pre).length + 1) (Lib.byteCells ([1] ++ pre) ++ [.int .u8 c])) => show FNumAt X W1 v' (.int .i64 (8 * (j : Int) - 8)) w3 by subst e; exact FNumAt.more (by omega) hb he hc k2 hg hl hown)
      have HA := Lib.hid (fun o => (Keeps.refl (fun _ => False) wr).alloc o)
      have Own := Lib.hid (fun (W : World) (k2 : Qt wr W) => hb.own k2)
      have HB := Lib.hid hb
      have He := Lib.hid he
      have hcases : k = 0 ∨ k = 1 ∨ k = 2 ∨ k = 3 ∨ k = 4 ∨ k = 5 ∨ k = 6 ∨ k = 7 ∨ k = 8 := by omega
      clear hb he
      rcases hcases with rfl | rfl | rfl | rfl | rfl | rfl | rfl | rfl | rfl
      · have fin := Lib.hid (FNumAt.done K1.out HB.out He.out)
        clear Fin Own
        go_wp2
        go_ret
        exact ⟨_, rfl, fin.out⟩
      · generalize ([1] ++ pre).length = L at *
        generalize Lib.byteCells ([1] ++ pre) = C at *
        go_wp2_with (at_builtin; refine wpList_append_cells0 _ rfl _ _ 48 rfl 5 i0 (.int .u8 0) 1 1 Tryd.underlying48 hi hz0 hz1 hz2 rfl (by decide) _ L C rfl (Own.out _ (HA.out _)) ⟨wr.heap.size, 0, none⟩ 1 1 [.int .u8 ((X : Int) % 256)] rfl rfl (World.news_of_block (cs := #[.int .u8 ((X : Int) % 256)]) (heap_alloc_new wr _)) (by intro u hu; rw [List.mem_singleton.1 hu]; rfl) (by unfold maxLen; omega) (by omega) ?_)
        intro v' w3 hown hg hl _
        have fin := Lib.hid (Fin.out 0 rfl _ (by omega) v' _ w3 (HA.out _) hg hl hown)
        clear hown hg hl Fin Own HB He
        go_wp2
        go_roundw
        case rel => exact fin.out
        case measure => simp [intOf]
      · generalize ([1] ++ pre).length = L at *
        generalize Lib.byteCells ([1] ++ pre) = C at *
        go_wp2_with (at_builtin; refine wpList_append_cells0 _ rfl _ _ 48 rfl 5 i0 (.int .u8 0) 1 1 Tryd.underlying48 hi hz0 hz1 hz2 rfl (by decide) _ L C rfl (Own.out _ (HA.out _)) ⟨wr.heap.size, 0, none⟩ 1 1 [.int .u8 ((X : Int) / 256 % 256)] rfl rfl (World.news_of_block (cs := #[.int .u8 ((X : Int) / 256 % 256)]) (heap_alloc_new wr _)) (by intro u hu; rw [List.mem_singleton.1 hu]; rfl) (by unfold maxLen; omega) (by omega) ?_)
        intro v' w3 hown hg hl _
        have fin := Lib.hid (Fin.out 1 rfl _ (by omega) v' _ w3 (HA.out _) hg hl hown)
        clear hown hg hl Fin Own HB He
        go_wp2
        go_roundw
        case rel => exact fin.out
        case measure => simp [intOf]
      · generalize ([1] ++ pre).length = L at *
        generalize Lib.byteCells ([1] ++ pre) = C at *
        go_wp2_with (at_builtin; refine wpList_append_cells0 _ rfl _ _ 48 rfl 5 i0 (.int .u8 0) 1 1 Tryd.underlying48 hi hz0 hz1 hz2 rfl (by decide) _ L C rfl (Own.out _ (HA.out _)) ⟨wr.heap.size, 0, none⟩ 1 1 [.int .u8 ((X : Int) / 65536 % 256)] rfl rfl (World.news_of_block (cs := #[.int .u8 ((X : Int) / 65536 % 256)]) (heap_alloc_new wr _)) (by intro u hu; rw [List.mem_singleton.1 hu]; rfl) (by unfold maxLen; omega) (by omega) ?_)
        intro v' w3 hown hg hl _
        have fin := Lib.hid (Fin.out 2 rfl _ (by omega) v' _ w3 (HA.out _) hg hl hown)
        clear hown hg hl Fin Own HB He
        go_wp2
        go_roundw
        case rel => exact fin.out
        case measure => simp [intOf]
      · generalize ([1] ++ pre).length = L at *
        generalize Lib.byteCells ([1] ++ pre) = C at *
        go_wp2_with (at_builtin; refine wpList_append_cells0 _ rfl _ _ 48 rfl 5 i0 (.int .u8 0) 1 1 Tryd.underlying48 hi hz0 hz1 hz2 rfl (by decide) _ L C rfl (Own.out _ (HA.out _)) ⟨wr.heap.size, 0, none⟩ 1 1 [.int .u8 ((X : Int) / 16777216 % 256)] rfl rfl (World.news_of_block (cs := #[.int .u8 ((X : Int) / 16777216 % 256)]) (heap_alloc_new wr _)) (by intro u hu; rw [List.mem_singleton.1 hu]; rfl) (by unfold maxLen; omega) (by omega) ?_)
        intro v' w3 hown hg hl _
        have fin := Lib.hid (Fin.out 3 rfl _ (by omega) v' _ w3 (HA.out _) hg hl hown)
        clear hown hg hl Fin Own HB He
        go_wp2
        go_roundw
        case rel => exact fin.out
        case measure => simp [intOf]
      · generalize ([1] ++ pre).length = L at *
        generalize Lib.byteCells ([1] ++ pre) = C at *
        go_wp2_with (at_builtin; refine wpList_append_cells0 _ rfl _ _ 48 rfl 5 i0 (.int .u8 0) 1 1 Tryd.underlying48 hi hz0 hz1 hz2 rfl (by decide) _ L C rfl (Own.out _ (HA.out _)) ⟨wr.heap.size, 0, none⟩ 1 1 [.int .u8 ((X : Int) / 4294967296 % 256)] rfl rfl (World.news_of_block (cs := #[.int .u8 ((X : Int) / 4294967296 % 256)]) (heap_alloc_new wr _)) (by intro u hu; rw [List.mem_singleton.1 hu]; rfl) (by unfold maxLen; omega) (by omega) ?_)
        intro v' w3 hown hg hl _
        have fin := Lib.hid (Fin.out 4 rfl _ (by omega) v' _ w3 (HA.out _) hg hl hown)
        clear hown hg hl Fin Own HB He
        go_wp2
        go_roundw
        case rel => exact fin.out
        case measure => simp [intOf]
      · generalize ([1] ++ pre).length = L at *
        generalize Lib.byteCells ([1] ++ pre) = C at *
        go_wp2_with (at_builtin; refine wpList_append_cells0 _ rfl _ _ 48 rfl 5 i0 (.int .u8 0) 1 1 Tryd.underlying48 hi hz0 hz1 hz2 rfl (by decide) _ L C rfl (Own.out _ (HA.out _)) ⟨wr.heap.size, 0, none⟩ 1 1 [.int .u8 ((X : Int) / 1099511627776 % 256)] rfl rfl (World.news_of_block (cs := #[.int .u8 ((X : Int) / 1099511627776 % 256)]) (heap_alloc_new wr _)) (by intro u hu; rw [List.mem_singleton.1 hu]; rfl) (by unfold maxLen; omega) (by omega) ?_)
        intro v' w3 hown hg hl _
        have fin := Lib.hid (Fin.out 5 rfl _ (by omega) v' _ w3 (HA.out _) hg hl hown)
        clear hown hg hl Fin Own HB He
        go_wp2
        go_roundw
        case rel => exact fin.out
        case measure => simp [intOf]
      · generalize ([1] ++ pre).length = L at *
        generalize Lib.byteCells ([1] ++ pre) = C at *
        go_wp2_with (at_builtin; refine wpList_append_cells0 _ rfl _ _ 48 rfl 5 i0 (.int .u8 0) 1 1 Tryd.underlying48 hi hz0 hz1 hz2 rfl (by decide) _ L C rfl (Own.out _ (HA.out _)) ⟨wr.heap.size, 0, none⟩ 1 1 [.int .u8 ((X : Int) / 281474976710656 % 256)] rfl rfl (World.news_of_block (cs := #[.int .u8 ((X : Int) / 281474976710656 % 256)]) (heap_alloc_new wr _)) (by intro u hu; rw [List.mem_singleton.1 hu]; rfl) (by unfold maxLen; omega) (by omega) ?_)
        intro v' w3 hown hg hl _
        have fin := Lib.hid (Fin.out 6 rfl _ (by omega) v' _ w3 (HA.out _) hg hl hown)
        clear hown hg hl Fin Own HB He
        go_wp2
        go_roundw
        case rel => exact fin.out
        case measure => simp [intOf]
      · generalize ([1] ++ pre).length = L at *
        generalize Lib.byteCells ([1] ++ pre) = C at *
        go_wp2_with (at_builtin; refine wpList_append_cells0 _ rfl _ _ 48 rfl 5 i0 (.int .u8 0) 1 1 Tryd.underlying48 hi hz0 hz1 hz2 rfl (by decide) _ L C rfl (Own.out _ (HA.out _)) ⟨wr.heap.size, 0, none⟩ 1 1 [.int .u8 ((X : Int) / 72057594037927936)] rfl rfl (World.news_of_block (cs := #[.int .u8 ((X : Int) / 72057594037927936)]) (heap_alloc_new wr _)) (by intro u hu; rw [List.mem_singleton.1 hu]; rfl) (by unfold maxLen; omega) (by omega) ?_)
        intro v' w3 hown hg hl _
        have fin := Lib.hid (Fin.out 7 rfl _ (by omega) v' _ w3 (HA.out _) hg hl hown)
        clear hown hg hl Fin Own HB He
        go_wp2
        go_roundw
        case rel => exact fin.out
        case measure => simp [intOf]
end Go.Proofs.YtfhfbpjhjigbnaaDoor
