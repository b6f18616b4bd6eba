/-
  The contract of remitref10.pieces.
-/
import Derived.Test.YtggogaaooacooaaDoorP10
import Derived.Test.YtggogaaooacooaaDoorP06
import Derived.Test.YtggogaaooacooaaDoorP13
import Derived.Test.YtggogaaooacooaaDoorP24
import Derived.LoopTactic
namespace Go.Proofs.YtggogaaooacooaaDoor
open Go.RowKit Go.WideShapes
set_option maxRecDepth 100000

/-- The head of a record: five bytes converted. -/
theorem head_cells (n : Nat) : #[Value.int .u8 1, Value.int .u8 ((n : Int) % 256), Value.int .u8 ((n : Int) / 256 % 256), Value.int .u8 ((n : Int) / 65536 % 256), Value.int .u8 ((n : Int) / 16777216 % 256)] = (Lib.byteCells (1 :: E.low 4 n)).toArray := by
  have h1 : ((n.toUInt8.toNat : Nat) : Int) = (n : Int) % 256 := by rw [E.u8_mod]; omega
  have h2 : (((n / 256).toUInt8.toNat : Nat) : Int) = (n : Int) / 256 % 256 := by rw [E.u8_mod]; omega
  have h3 : (((n / 256 / 256).toUInt8.toNat : Nat) : Int) = (n : Int) / 65536 % 256 := by rw [E.u8_mod]; omega
  have h4 : (((n / 256 / 256 / 256).toUInt8.toNat : Nat) : Int) = (n : Int) / 16777216 % 256 := by rw [E.u8_mod]; omega
  rw [← h1, ← h2, ← h3, ← h4]
  rfl
theorem head_conv (W : World) (n : Nat) : (convert 75 9 (.slice (some ⟨W.heap.size, 0, none⟩) 5 5)).run Tryd.prog (W.alloc (.cells #[Value.int .u8 1, Value.int .u8 ((n : Int) % 256), Value.int .u8 ((n : Int) / 256 % 256), Value.int .u8 ((n : Int) / 65536 % 256), Value.int .u8 ((n : Int) / 16777216 % 256)] 5)) =
    .ok (.string ⟨(1 :: E.low 4 n).toArray⟩) (W.alloc (.cells #[Value.int .u8 1, Value.int .u8 ((n : Int) % 256), Value.int .u8 ((n : Int) / 256 % 256), Value.int .u8 ((n : Int) / 65536 % 256), Value.int .u8 ((n : Int) / 16777216 % 256)] 5)) := by
  rw [head_cells]
  refine conv_at ?_ 5 5 (by simp [E.low_length])
  intro j v hj
  rw [cell_of_row _ _ _ _ _ _ (heap_alloc_new W _), Nat.zero_add, List.getElem?_toArray]
  exact hj
namespace J
theorem ends_le {m n b : Nat} (h : m ≤ n) : ends m ≤ ends n ∨ b = b + 1 := by
  left
  cases m with
  | zero => exact Nat.zero_le _
  | succ m =>
    cases n with
    | zero => omega
    | succ n => show 229 + 233 * m ≤ 229 + 233 * n; omega
theorem lt_cost {m n : Nat} (h : ends m < n) : m < cost n := by
  rcases Nat.lt_or_ge m (cost n) with k | k
  · exact k
  · have h1 := cost_le n
    rcases ends_le (b := 0) k with h2 | h2 <;> omega
theorem at_cost {m n : Nat} (hm : 1 ≤ m) (h : m ≤ cost n) (he : n ≤ ends m) : m = cost n := Nat.le_antisymm h (cost_bound he hm)
theorem pay_first {s : ByteArray} {k : Nat} (hk : k = 229 ∨ (k = s.size ∧ s.size ≤ 229)) (H : ByteArray) (hH : H.data.toList = 1 :: E.low 4 s.size) : H ++ s.extract 0 k = ⟨(pay s.data.toList 0).toArray⟩ := by
  have hl : s.data.toList.length = s.size := by simp
  apply ByteArray.ext
  apply Array.toList_inj.1
  rw [ByteArray.data_append, Array.toList_append, hH, dslice]
  show _ = 1 :: (E.low 4 s.data.toList.length ++ s.data.toList.take 229)
  rw [hl, List.cons_append, List.drop_zero, Nat.sub_zero]
  rcases hk with rfl | ⟨rfl, h⟩
  · rfl
  · rw [← hl, List.take_length, List.take_of_length_le (by rw [hl]; exact h)]
theorem pay_next {s : ByteArray} {k e : Nat} (he : e = min (ends (k + 2)) s.size) (H : ByteArray) (hH : H.data.toList = [0]) : H ++ s.extract (ends (k + 1)) e = ⟨(pay s.data.toList (k + 1)).toArray⟩ := by
  have hl : s.data.toList.length = s.size := by simp
  apply ByteArray.ext
  apply Array.toList_inj.1
  rw [ByteArray.data_append, Array.toList_append, hH, dslice]
  show _ = 0 :: (s.data.toList.drop (229 + 233 * k)).take 233
  show 0 :: (s.data.toList.drop (229 + 233 * k)).take (e - (229 + 233 * k)) = _
  congr 1
  have h2 : ends (k + 2) = 229 + 233 * (k + 1) := rfl
  rw [h2] at he
  by_cases h : 229 + 233 * (k + 1) ≤ s.size
  · rw [show e - (229 + 233 * k) = 233 by omega]
  · rw [List.take_of_length_le (by rw [List.length_drop]; omega), List.take_of_length_le (by rw [List.length_drop]; omega)]
theorem seg_snoc (v : List UInt8) (m : Nat) : seg v 0 (m + 1) = seg v 0 m ++ [pay v m] := by
  unfold seg
  rw [List.range_succ, List.map_append]
  simp
end J

/-- What the loop keeps. -/
def RPAt (w : World) (s : ByteArray) (kv ov : Value) (wr : World) : Prop :=
  ∃ m, m < J.cost s.size ∧ kv = .int .i64 ((min (J.ends (m + 1)) s.size : Nat) : Int) ∧ NewT w wr ov (J.seg s.data.toList 0 (m + 1))
theorem RPAt.more {w wr w2 w3 : World} {s : ByteArray} {m e : Nat} {ov v' : Value} (hm : m + 1 < J.cost s.size) (he : e = min (J.ends (m + 2)) s.size) (h : NewT w wr ov (J.seg s.data.toList 0 (m + 1))) (k : Qt wr w2)
    (hown : w3.ownsRow 0 9 1 v' (m + 1 + 1) ((J.seg s.data.toList 0 (m + 1)).map strV ++ [strV (J.pay s.data.toList (m + 1))])) (hg : w2.grownBy w3 ov.ownBlock) (hl : Later w2 ov.ownBlock v'.ownBlock) : RPAt w s (.int .i64 (e : Int)) v' w3 :=
  ⟨m + 1, hm, by rw [he], by rw [J.seg_snoc]; exact h.later k (by rw [J.seg_length]; exact hown) hg hl⟩
theorem textSlice (s : ByteArray) (a e : Nat) (h1 : a ≤ e) (h2 : e ≤ s.size) (wx : World) : (Instr.slice 9 (.string s) (some (.int .i64 (a : Int))) (some (.int .i64 (e : Int))) none).run Tryd.prog wx = .ok (.string (s.extract a e)) wx := by
  have := run_slice_string (P := Tryd.prog) wx 9 s .i64 .i64 (a : Int) (e : Int) Tryd.underlying9 (by omega) (by omega) (by omega)
  rw [this, Int.toNat_natCast, Int.toNat_natCast]
theorem textSlice0 (s : ByteArray) (e : Nat) (h2 : e ≤ s.size) (wx : World) : (Instr.slice 9 (.string s) none (some (.int .i64 (e : Int))) none).run Tryd.prog wx = .ok (.string (s.extract 0 e)) wx := textSlice s 0 e (Nat.zero_le _) h2 wx
theorem newsT (W : World) (v : Value) : ∀ (j : Nat) u, [v][j]? = some u → (W.alloc (.cells #[v] 9)).cell? ((⟨W.heap.size, 0, none⟩ : Addr).add j) = some u := by
  intro j u hj
  match j, hj with
  | 0, hj => simp at hj; subst hj; simp [Addr.add]
theorem oneT (l : List UInt8) : ∀ u ∈ [strV l], u.oneCell' = true := by intro u hu; simp at hu; subst hu; rfl
theorem measJ {a e n : Nat} (h : a < e) (he : e ≤ n) : n - (intOf (.int .i64 (e : Int))).toNat < n - (intOf (.int .i64 (a : Int))).toNat := by simp [intOf]; omega
theorem J.cost_small {n : Nat} (h : n ≤ 1099511627776) : J.cost n ≤ 4719000000 := by unfold J.cost; split <;> omega

set_option maxHeartbeats 1600000 in
theorem pieces_any (s : ByteArray) (hs : s.size ≤ 1099511627776) (w : World) :
    Calls Tryd.prog 66 #[.string s] w fun e w' => ∃ v, e = .returned v ∧ NewT w w' v (J.seg s.data.toList 0 (J.cost s.size)) := by
  obtain ⟨i0, hi, hz0, hz1, hz2⟩ := info_parts infoStrT
  have HC := head_conv w s.size
  obtain ⟨H, hH⟩ : ∃ H : ByteArray, H = ⟨(1 :: E.low 4 s.size).toArray⟩ := ⟨_, rfl⟩
  have hHl : H.data.toList = 1 :: E.low 4 s.size := by rw [hH]
  have hHz : H.size = 5 := by rw [← dlen7, hHl, List.length_cons, E.low_length]
  rw [← hH] at HC
  obtain ⟨k, hk, hkz⟩ : ∃ k : Nat, (k = 229 ∨ (k = s.size ∧ s.size ≤ 229)) ∧ k ≤ s.size ∧ k = min 229 s.size := by
    by_cases h : 229 ≤ s.size
    · exact ⟨229, .inl rfl, h, by omega⟩
    · exact ⟨s.size, .inr ⟨rfl, by omega⟩, Nat.le_refl _, by omega⟩
  have PF := J.pay_first hk H hHl
  have START := Lib.hid (fun (o : Obj) => (show RPAt w s (.int .i64 (k : Int)) (.slice (some ⟨w.heap.size + 1, 0, none⟩) 1 1) ((w.alloc o).alloc (.cells #[.string (H ++ s.extract 0 k)] 9)) from
    ⟨0, J.cost_pos _, by rw [hkz.2]; rfl, by have h := NewT.one ((Qt.refl w).alloc o) (J.pay s.data.toList 0); rw [World.size_alloc] at h; rw [PF]; exact h⟩))
  have NX := Lib.hid (fun (m e : Nat) (wr w2 w3 : World) (ov v' : Value) => RPAt.more (w := w) (s := s) (m := m) (e := e) (wr := wr) (w2 := w2) (w3 := w3) (ov := ov) (v' := v'))
  have HS := Lib.hid hs
  clear hH hHl PF
  by_cases h : s.size < 229
  · obtain rfl : k = s.size := by omega
    have z0 : decide ((s.size : Int) < 229) = true := decide_eq_true (by omega)
    have z1 : decide (s.size < 229) = true := decide_eq_true h
    have zs : ¬ (9223372036854775807 < 5 + s.size) := by omega
    have ST := START.out
    rw [show s.extract 0 s.size = s by simp] at ST
    have START := Lib.hid ST
    clear hk hkz h hs ST
    go_enter Tryd.func66, Tryd.ntmps66
    go_wp2
    go_loopw [5, 6] (fun kv ov wr => RPAt w s kv ov wr) (fun kv _ _ => s.size - (intOf kv).toNat)
    case atStart => exact START.out _
    case round =>
      obtain ⟨m, hm, rfl, hN⟩ := hrel
      obtain ⟨oa, oc, rfl⟩ := hN.shape
      have OW := hN.own
      rw [J.seg_length] at *
      obtain ⟨a, ha⟩ : ∃ a, min (J.ends (m + 1)) s.size = a := ⟨_, rfl⟩
      have haz : a ≤ s.size := by omega
      have hcs := J.cost_small HS.out
      rw [ha]
      have HN := Lib.hid hN
      by_cases hlt : a < s.size
      · have hae : a = J.ends (m + 1) := by omega
        have hmc := J.lt_cost (show J.ends (m + 1) < s.size by omega)
        have zlt : decide ((a : Int) < (s.size : Int)) = true := decide_eq_true (by omega)
        have zlt' : decide (a < s.size) = true := decide_eq_true hlt
        have hab : (a : Int) ≤ 1099511627776 := by have := HS.out; omega
        have hes : J.ends (m + 2) = a + 233 := by rw [hae]; rfl
        have hb1 : m + 1 + 1 ≤ maxLen := by unfold maxLen; omega
        have hb2 : (m + 1 + 1) * 16 ≤ 140737488355328 := by omega
        have HMC := Lib.hid hmc
        have HOW := Lib.hid (fun o => ownsRow_kept OW ((Keeps.refl (fun _ => False) wr).alloc o) (fun _ _ h => h))
        have HQA := Lib.hid (fun o => (Keeps.refl (fun _ => False) wr).alloc o)
        by_cases h2 : s.size < a + 233
        · have z2 : decide ((s.size : Int) < (a : Int) + 233) = true := decide_eq_true (by omega)
          have SL := textSlice s a s.size haz (Nat.le_refl _)
          have PN := J.pay_next (s := s) (k := m) (e := s.size) (by omega) ⟨#[0]⟩ rfl
          have zs3 : ¬ (9223372036854775807 < 1 + (s.size - a)) := by have := HS.out; omega
          rw [← hae] at PN
          have HME := Lib.hid (measJ hlt (Nat.le_refl s.size))
          have HEE := Lib.hid (show s.size = min (J.ends (m + 2)) s.size by omega)
          clear hN hm hae hes ha hlt h2 hmc haz OW hcs
          go_wp2_with (at_builtin; refine wpList_append_cells0 _ rfl _ _ 66 rfl 9 i0 (.string ⟨#[]⟩) 1 16 Tryd.underlying66 hi hz0 hz1 hz2 rfl (by decide) _ (m + 1) _ rfl (HOW.out _) ⟨wr.heap.size, 0, none⟩ 1 1 [strV (J.pay s.data.toList (m + 1))] rfl rfl ?c1 ?c2 hb1 hb2 ?_)
          case c1 => exact newsT wr _
          case c2 => exact oneT _
          intro v' w3 own3 hg hl _
          have FN := Lib.hid (NX.out m s.size wr _ w3 _ v' HMC.out HEE.out HN.out (HQA.out _) own3 hg hl)
          clear own3 hg hl
          go_wp2
          exact ⟨FN.out, HME.out⟩
        · have z2 : decide ((s.size : Int) < (a : Int) + 233) = false := decide_eq_false (by omega)
          obtain ⟨e, he⟩ : ∃ e : Nat, a + 233 = e := ⟨_, rfl⟩
          have hei : (a : Int) + 233 = (e : Int) := by omega
          have SL := textSlice s a e (by omega) (by omega)
          have PN := J.pay_next (s := s) (k := m) (e := e) (by omega) ⟨#[0]⟩ rfl
          rw [← hae] at PN
          have HME := Lib.hid (measJ (show a < e by omega) (show e ≤ s.size by omega))
          have HEE := Lib.hid (show e = min (J.ends (m + 2)) s.size by omega)
          have hX3 : (s.extract a e).size ≤ 1099511627776 := by rw [← dlen7, dslice, List.length_take]; have := HS.out; omega
          obtain ⟨X3, hXe3⟩ : ∃ X, s.extract a e = X := ⟨_, rfl⟩
          rw [hXe3] at SL PN hX3
          have zs3 : ¬ (9223372036854775807 < 1 + X3.size) := by omega
          have z3 : decide ((s.size : Int) < (e : Int)) = false := decide_eq_false (by omega)
          have z4 : decide (s.size < e) = false := decide_eq_false (by omega)
          clear hN hm hae hes ha hlt h2 hmc haz he OW hcs hX3 hXe3
          go_wp2_with (at_builtin; refine wpList_append_cells0 _ rfl _ _ 66 rfl 9 i0 (.string ⟨#[]⟩) 1 16 Tryd.underlying66 hi hz0 hz1 hz2 rfl (by decide) _ (m + 1) _ rfl (HOW.out _) ⟨wr.heap.size, 0, none⟩ 1 1 [strV (J.pay s.data.toList (m + 1))] rfl rfl ?c1 ?c2 hb1 hb2 ?_)
          case c1 => exact newsT wr _
          case c2 => exact oneT _
          intro v' w3 own3 hg hl _
          have FN := Lib.hid (NX.out m e wr _ w3 _ v' HMC.out HEE.out HN.out (HQA.out _) own3 hg hl)
          clear own3 hg hl
          go_wp2
          exact ⟨FN.out, HME.out⟩
      · have hsz : a = s.size := by omega
        have hcm := J.at_cost (Nat.succ_le_succ (Nat.zero_le m)) (show m + 1 ≤ J.cost s.size from hm) (show s.size ≤ J.ends (m + 1) by omega)
        have zlt : decide ((a : Int) < (s.size : Int)) = false := decide_eq_false (by omega)
        have zlt' : decide (a < s.size) = false := decide_eq_false hlt
        have FN := Lib.hid (show NewT w wr (.slice oa (m + 1) oc) (J.seg s.data.toList 0 (J.cost s.size)) by rw [← hcm]; exact HN.out)
        clear hN hm ha hlt hsz haz hcm OW hcs
        go_wp2
        go_ret
        exact ⟨_, rfl, FN.out⟩
  · obtain rfl : k = 229 := by omega
    have z0 : decide ((s.size : Int) < 229) = false := decide_eq_false (by omega)
    have z1 : decide (s.size < 229) = false := decide_eq_false h
    have SL0 : ∀ wx, (Instr.slice 9 (.string s) none (some (.int .i64 229)) none).run Tryd.prog wx = .ok (.string (s.extract 0 229)) wx := fun wx => textSlice0 s 229 hkz.1 wx
    have h229 : (229 : Int) ≤ (s.size : Int) := by omega
    have h229' : 229 ≤ s.size := by omega
    have hX : (s.extract 0 229).size = 229 := by rw [← dlen7, dslice, List.length_take, List.length_drop, dlen7]; omega
    have zs : ¬ (9223372036854775807 < 5 + (s.extract 0 229).size) := by rw [hX]; decide
    have zs2 : ¬ (9223372036854775807 < H.size + (s.extract 0 229).size) := by rw [hX, hHz]; decide
    obtain ⟨X, hXe⟩ : ∃ X, s.extract 0 229 = X := ⟨_, rfl⟩
    rw [hXe] at START SL0 zs zs2 hX
    clear hk hkz h hs hXe
    go_enter Tryd.func66, Tryd.ntmps66
    go_wp2
    go_loopw [5, 6] (fun kv ov wr => RPAt w s kv ov wr) (fun kv _ _ => s.size - (intOf kv).toNat)
    case atStart => exact START.out _
    case round =>
      obtain ⟨m, hm, rfl, hN⟩ := hrel
      obtain ⟨oa, oc, rfl⟩ := hN.shape
      have OW := hN.own
      rw [J.seg_length] at *
      obtain ⟨a, ha⟩ : ∃ a, min (J.ends (m + 1)) s.size = a := ⟨_, rfl⟩
      have haz : a ≤ s.size := by omega
      have hcs := J.cost_small HS.out
      rw [ha]
      have HN := Lib.hid hN
      by_cases hlt : a < s.size
      · have hae : a = J.ends (m + 1) := by omega
        have hmc := J.lt_cost (show J.ends (m + 1) < s.size by omega)
        have zlt : decide ((a : Int) < (s.size : Int)) = true := decide_eq_true (by omega)
        have zlt' : decide (a < s.size) = true := decide_eq_true hlt
        have hab : (a : Int) ≤ 1099511627776 := by have := HS.out; omega
        have hes : J.ends (m + 2) = a + 233 := by rw [hae]; rfl
        have hb1 : m + 1 + 1 ≤ maxLen := by unfold maxLen; omega
        have hb2 : (m + 1 + 1) * 16 ≤ 140737488355328 := by omega
        have HMC := Lib.hid hmc
        have HOW := Lib.hid (fun o => ownsRow_kept OW ((Keeps.refl (fun _ => False) wr).alloc o) (fun _ _ h => h))
        have HQA := Lib.hid (fun o => (Keeps.refl (fun _ => False) wr).alloc o)
        by_cases h2 : s.size < a + 233
        · have z2 : decide ((s.size : Int) < (a : Int) + 233) = true := decide_eq_true (by omega)
          have SL := textSlice s a s.size haz (Nat.le_refl _)
          have PN := J.pay_next (s := s) (k := m) (e := s.size) (by omega) ⟨#[0]⟩ rfl
          have zs3 : ¬ (9223372036854775807 < 1 + (s.size - a)) := by have := HS.out; omega
          rw [← hae] at PN
          have HME := Lib.hid (measJ hlt (Nat.le_refl s.size))
          have HEE := Lib.hid (show s.size = min (J.ends (m + 2)) s.size by omega)
          clear hN hm hae hes ha hlt h2 hmc haz OW hcs
          go_wp2_with (at_builtin; refine wpList_append_cells0 _ rfl _ _ 66 rfl 9 i0 (.string ⟨#[]⟩) 1 16 Tryd.underlying66 hi hz0 hz1 hz2 rfl (by decide) _ (m + 1) _ rfl (HOW.out _) ⟨wr.heap.size, 0, none⟩ 1 1 [strV (J.pay s.data.toList (m + 1))] rfl rfl ?c1 ?c2 hb1 hb2 ?_)
          case c1 => exact newsT wr _
          case c2 => exact oneT _
          intro v' w3 own3 hg hl _
          have FN := Lib.hid (NX.out m s.size wr _ w3 _ v' HMC.out HEE.out HN.out (HQA.out _) own3 hg hl)
          clear own3 hg hl
          go_wp2
          exact ⟨FN.out, HME.out⟩
        · have z2 : decide ((s.size : Int) < (a : Int) + 233) = false := decide_eq_false (by omega)
          obtain ⟨e, he⟩ : ∃ e : Nat, a + 233 = e := ⟨_, rfl⟩
          have hei : (a : Int) + 233 = (e : Int) := by omega
          have SL := textSlice s a e (by omega) (by omega)
          have PN := J.pay_next (s := s) (k := m) (e := e) (by omega) ⟨#[0]⟩ rfl
          rw [← hae] at PN
          have HME := Lib.hid (measJ (show a < e by omega) (show e ≤ s.size by omega))
          have HEE := Lib.hid (show e = min (J.ends (m + 2)) s.size by omega)
          have hX3 : (s.extract a e).size ≤ 1099511627776 := by rw [← dlen7, dslice, List.length_take]; have := HS.out; omega
          obtain ⟨X3, hXe3⟩ : ∃ X, s.extract a e = X := ⟨_, rfl⟩
          rw [hXe3] at SL PN hX3
          have zs3 : ¬ (9223372036854775807 < 1 + X3.size) := by omega
          have z3 : decide ((s.size : Int) < (e : Int)) = false := decide_eq_false (by omega)
          have z4 : decide (s.size < e) = false := decide_eq_false (by omega)
          clear hN hm hae hes ha hlt h2 hmc haz he OW hcs hX3 hXe3
          go_wp2_with (at_builtin; refine wpList_append_cells0 _ rfl _ _ 66 rfl 9 i0 (.string ⟨#[]⟩) 1 16 Tryd.underlying66 hi hz0 hz1 hz2 rfl (by decide) _ (m + 1) _ rfl (HOW.out _) ⟨wr.heap.size, 0, none⟩ 1 1 [strV (J.pay s.data.toList (m + 1))] rfl rfl ?c1 ?c2 hb1 hb2 ?_)
          case c1 => exact newsT wr _
          case c2 => exact oneT _
          intro v' w3 own3 hg hl _
          have FN := Lib.hid (NX.out m e wr _ w3 _ v' HMC.out HEE.out HN.out (HQA.out _) own3 hg hl)
          clear own3 hg hl
          go_wp2
          exact ⟨FN.out, HME.out⟩
      · have hsz : a = s.size := by omega
        have hcm := J.at_cost (Nat.succ_le_succ (Nat.zero_le m)) (show m + 1 ≤ J.cost s.size from hm) (show s.size ≤ J.ends (m + 1) by omega)
        have zlt : decide ((a : Int) < (s.size : Int)) = false := decide_eq_false (by omega)
        have zlt' : decide (a < s.size) = false := decide_eq_false hlt
        have FN := Lib.hid (show NewT w wr (.slice oa (m + 1) oc) (J.seg s.data.toList 0 (J.cost s.size)) by rw [← hcm]; exact HN.out)
        clear hN hm ha hlt hsz haz hcm OW hcs
        go_wp2
        go_ret
        exact ⟨_, rfl, FN.out⟩
end Go.Proofs.YtggogaaooacooaaDoor
