/-
  The contracts of wire's Read and of a Reader's Fixed (cut out of layer 1's texts).
  The contracts of journal's head and sizeIn.
  The contract of journal's payload: what a log's sector holds.
-/
import Derived.Test.YtggogaaooacooaaDoorP29
import Derived.Test.YtggogaaooacooaaDoorP09
import Derived.Lib.Strings
import Derived.WalkLawsBesides
import Derived.WalkSpells
import Derived.Laws.BitsAllLaws
import Derived.Test.YtggogaaooacooaaDoorP27
import Derived.Test.YtggogaaooacooaaDoorP10
import Derived.Test.YtggogaaooacooaaDoorP28
import Derived.Test.YtggogaaooacooaaDoorP25
import Derived.Test.YtggogaaooacooaaDoorP24
namespace Go.Proofs.YtggogaaooacooaaDoor
open Go.RowKit
set_option maxRecDepth 100000

/-- The number of l's bytes, the low one first. -/
def lowN : List UInt8 → Nat
  | [] => 0
  | b :: r => b.toNat + 256 * lowN r
theorem lowN_lt : ∀ l : List UInt8, lowN l < 256 ^ l.length
  | [] => by simp [lowN]
  | b :: r => by
    have h1 := lowN_lt r
    have h2 := b.toNat_lt
    simp only [lowN, List.length_cons, Nat.pow_succ]
    omega
/-- A wire.Reader in block b over s, at the place p. -/
structure Rd (b : Nat) (s : ByteArray) (p : Nat) (w : World) : Prop where
  blk : w.heap[b]? = some (.cells #[.string s, .int .i64 p] 164 (0, 0))
  le : p ≤ s.size
  sz : s.size ≤ 140737488355328
/-- What is left. -/
def rest (s : ByteArray) (p : Nat) : List UInt8 := s.data.toList.drop p
theorem rest_length (s : ByteArray) (p : Nat) : (rest s p).length = s.size - p := by simp [rest]
theorem rest_drop (s : ByteArray) (p n : Nat) : (rest s p).drop n = rest s (p + n) := by simp [rest]
theorem Rd.cell0 {b : Nat} {s : ByteArray} {p : Nat} {w : World} (h : Rd b s p w) : w.cell? ⟨b, 0, none⟩ = some (.string s) := by rw [Lib.cell_of_heap h.blk]; rfl
theorem Rd.cell1 {b : Nat} {s : ByteArray} {p : Nat} {w : World} (h : Rd b s p w) : w.cell? ⟨b, 1, none⟩ = some (.int .i64 p) := by rw [Lib.cell_of_heap h.blk]; rfl
theorem Rd.lt {b : Nat} {s : ByteArray} {p : Nat} {w : World} (h : Rd b s p w) : b < w.heap.size := lt_of_block h.blk
theorem Rd.frozen1 {b : Nat} {s : ByteArray} {p : Nat} {w : World} (h : Rd b s p w) : w.frozen? ⟨b, 1, none⟩ = false := Lib.frozen_of_heap h.blk 1
theorem Rd.kept {S : Nat → Prop} {b : Nat} {s : ByteArray} {p : Nat} {w w' : World} (h : Rd b s p w) (hk : Keeps S w w') (hb : ¬ S b) : Rd b s p w' := ⟨(hk.block b h.lt hb).trans h.blk, h.le, h.sz⟩
theorem Rd.drewN {b : Nat} {s : ByteArray} {p : Nat} {w : World} (h : Rd b s p w) (n : Nat) : Rd b s p (w.drewN n) := ⟨h.blk, h.le, h.sz⟩
theorem Rd.alloc {b : Nat} {s : ByteArray} {p : Nat} {w : World} (h : Rd b s p w) (o : Obj) : Rd b s p (w.alloc o) := h.kept (S := fun _ => False) ((Keeps.refl _ _).alloc o) (fun h => h)
theorem Rd.put {b : Nat} {s : ByteArray} {p : Nat} {w : World} (h : Rd b s p w) {q : Nat} (hq : q ≤ s.size) : Rd b s q (w.setCell ⟨b, 1, none⟩ (.int .i64 q)) := by
  refine ⟨?_, hq, h.sz⟩
  simp [World.setCell, Array.getElem?_modify, h.blk]
/-- What a Reader's call leaves: the place moved on, nothing else turned. -/
structure Moved (b : Nat) (s : ByteArray) (q : Nat) (w w' : World) : Prop where
  rd : Rd b s q w'
  keeps : Keeps (fun k => k = b) w w'
theorem Moved.trans {b : Nat} {s : ByteArray} {p q : Nat} {w w1 w2 : World} (h : Moved b s p w w1) (k : Moved b s q w1 w2) : Moved b s q w w2 := ⟨k.rd, h.keeps.trans k.keeps (fun _ _ h => h)⟩
theorem Rd.stay {b : Nat} {s : ByteArray} {p : Nat} {w : World} (h : Rd b s p w) (n : Nat) : Moved b s p w (w.drewN n) := ⟨h.drewN n, (Keeps.refl _ _).drewN n⟩
theorem Rd.move {b : Nat} {s : ByteArray} {p : Nat} {w : World} (h : Rd b s p w) {q : Nat} (hq : q ≤ s.size) (n : Nat) : Moved b s q w ((w.drewN n).setCell ⟨b, 1, none⟩ (.int .i64 q)) :=
  ⟨(h.drewN n).put hq, Keeps.setCell (S := fun k => k = b) ((Keeps.refl _ _).drewN n) (p := ⟨b, 1, none⟩) (fun _ => rfl) _⟩
theorem extract_rest (s : ByteArray) (p : Nat) : (s.extract p s.size).data.toList = s.data.toList.drop p := by
  rw [Lib.extract_data, List.take_of_length_le]
  simp
theorem rread_any (s : ByteArray) (w : World) (hs : s.size ≤ 140737488355328) :
    Calls Tryd.prog 94 #[.string s] w fun e w' => e = .returned (.pointer (some ⟨w.heap.size, 0, none⟩)) ∧ Rd w.heap.size s 0 w' ∧ Keeps (fun _ => False) w w' := by
  go_enter Tryd.func94, Tryd.ntmps94
  go_wp2
  go_ret
  exact ⟨rfl, ⟨heap_alloc_new w _, Nat.zero_le _, hs⟩, (Keeps.refl _ _).alloc _⟩
set_option maxHeartbeats 400000 in
theorem rleft_any (b : Nat) (s : ByteArray) (p : Nat) (w : World) (h : Rd b s p w) :
    Calls Tryd.prog 107 #[.pointer (some ⟨b, 0, none⟩)] w fun e w' => e = .returned (.int .i64 ((s.size : Int) - p)) ∧ ∃ n, w' = w.drewN n := by
  have c0 := h.cell0
  have c1 := h.cell1
  have h1 := h.le
  have h2 := h.sz
  clear h
  go_enter Tryd.func107, Tryd.ntmps107
  go_wp2
  go_quiet (fail)
  go_wp2
  go_ret
  exact ⟨rfl, _, rfl⟩
set_option maxHeartbeats 400000 in
theorem rtake_ok (b : Nat) (s : ByteArray) (p n : Nat) (w : World) (h : Rd b s p w) (hn : p + n ≤ s.size) :
    Calls Tryd.prog 103 #[.pointer (some ⟨b, 0, none⟩), .int .i64 n] w fun y w' => y = .returned (.tuple #[.string (s.extract p (p + n)), .nilIface]) ∧ Moved b s (p + n) w w' := by
  have c0 := h.cell0
  have c1 := h.cell1
  have f1 := h.frozen1
  have fin := Lib.hid (fun m => h.move hn m)
  have hl := Lib.hid (rleft_any b s p w h)
  have h1 := h.le
  have h2 := h.sz
  clear h
  go_enter Tryd.func103, Tryd.ntmps103
  go_wp2_with fail
  refine hl.out.mono ?_
  rintro e w' ⟨rfl, m, rfl⟩
  go_wp2
  go_quiet (fail)
  go_wp2
  go_ret2
  exact ⟨rfl, fin.out _⟩
def NumAt (s : ByteArray) (v i : Value) : Prop := ∃ m : Nat, m ≤ s.size ∧ i = .int .i64 ((m : Int) - 1) ∧ v = .int .u64 ((lowN (s.data.toList.drop m) : Nat) : Int)
theorem num_step {x c : Nat} (hx : x < 72057594037927936) (hc : c < 256) : bits .or .u64 ((x : Int) * 256) (c : Int) = ((c + 256 * x : Nat) : Int) := by
  rw [show (x : Int) * 256 = ((256 * x : Nat) : Int) by omega, u64_or_nat _ _ (by omega) (by omega), nat_join 8 (256 * x) c (by omega) (by omega), Nat.add_comm]
theorem lowN_drop {s : ByteArray} {m : Nat} (h : m < s.size) : lowN (s.data.toList.drop m) = s[m].toNat + 256 * lowN (s.data.toList.drop (m + 1)) := by
  have h' : m < s.data.toList.length := by simpa using h
  rw [List.drop_eq_getElem_cons h', lowN]
  rfl
set_option maxHeartbeats 400000 in
theorem number_any (s : ByteArray) (w : World) (hs : s.size ≤ 8) :
    Calls Tryd.prog 104 #[.string s] w fun e w' => e = .returned (.int .u64 ((lowN s.data.toList : Nat) : Int)) ∧ w = w' := by
  go_enter Tryd.func104, Tryd.ntmps104
  go_wp2
  go_loop [3, 4] (fun v i => NumAt s v i) (fun _ i => (intOf i + 1).toNat)
  case atStart => exact ⟨s.size, Nat.le_refl _, rfl, by rw [List.drop_eq_nil_of_le (by simp)]; rfl⟩
  case round =>
    obtain ⟨m, hm, rfl, rfl⟩ := hrel
    cases m with
    | zero =>
      go_wp2
      go_ret
      exact ⟨by simp, rfl⟩
    | succ m =>
      have hlt : m < s.size := hm
      obtain ⟨x, hx⟩ : ∃ x, lowN (s.data.toList.drop (m + 1)) = x := ⟨_, rfl⟩
      have hx1 : x < 72057594037927936 := by
        have h1 := lowN_lt (s.data.toList.drop (m + 1))
        have h2 : 256 ^ (s.data.toList.drop (m + 1)).length ≤ 256 ^ 7 := Nat.pow_le_pow_right (by omega) (by simp; omega)
        rw [hx] at h1
        omega
      rw [hx]
      have hc := s[m].toNat_lt
      have fin : NumAt s (.int .u64 (bits .or .u64 ((x : Int) * 256) (s[m].toNat : Int))) (.int .i64 ((m : Int) - 1)) :=
        ⟨m, by omega, rfl, by rw [num_step hx1 hc, lowN_drop hlt, hx]⟩
      have fin' := Lib.hid fin; clear fin hx
      rw [show (((m + 1 : Nat) : Int) - 1) = (m : Int) by omega]
      go_wp2
      go_round
      case rel => exact fin'.out
      case measure => simp [intOf]
theorem extract_take (s : ByteArray) (p n : Nat) : (s.extract p (p + n)).data.toList = (rest s p).take n := by
  rw [Lib.extract_data, show p + n - p = n by omega]; rfl
theorem take_size {s : ByteArray} {p n : Nat} (h : p + n ≤ s.size) : (s.extract p (p + n)).size = n := by
  have e : (s.extract p (p + n)).size = (s.extract p (p + n)).data.toList.length := rfl
  rw [e, extract_take, List.length_take, rest_length]
  omega
theorem number_take (s : ByteArray) (p n : Nat) (w : World) (h : p + n ≤ s.size) (hn : n ≤ 8) :
    Calls Tryd.prog 104 #[.string (s.extract p (p + n))] w fun e w' => e = .returned (.int .u64 ((lowN ((rest s p).take n) : Nat) : Int)) ∧ w = w' := by
  have q := number_any (s.extract p (p + n)) w (by rw [take_size h]; exact hn)
  rw [extract_take] at q
  exact q
set_option maxHeartbeats 400000 in
theorem rfixed_ok (b : Nat) (s : ByteArray) (p : Nat) (w : World) (h : Rd b s p w) (hn : p + 8 ≤ s.size) :
    Calls Tryd.prog 95 #[.pointer (some ⟨b, 0, none⟩)] w fun y w' => y = .returned (.tuple #[.int .u64 ((lowN ((rest s p).take 8) : Nat) : Int), .nilIface]) ∧ Moved b s (p + 8) w w' := by
  have hv := Lib.hid (rtake_ok b s p 8 w h hn)
  have hq := Lib.hid (fun w => number_take s p 8 w hn (by omega))
  clear h
  generalize s.extract p (p + 8) = t at hv hq
  generalize lowN ((rest s p).take 8) = x at hq ⊢
  go_enter Tryd.func95, Tryd.ntmps95
  go_wp2_with fail
  refine hv.out.mono ?_
  rintro x w' ⟨rfl, hm⟩
  go_wp2_with fail
  refine (hq.out w').mono ?_
  rintro x w1 ⟨rfl, rfl⟩
  go_wp2
  go_ret2
  exact ⟨rfl, hm⟩
end Go.Proofs.YtggogaaooacooaaDoor
namespace Go.Proofs.YtggogaaooacooaaDoor
open Go.RowKit
set_option maxRecDepth 100000

theorem low_lowB : ∀ n x, lowB n x = E.low n x
  | 0, _ => rfl
  | n + 1, x => by
    rw [lowB, E.low, low_lowB n]
    congr 1
    apply UInt8.toNat_inj.1
    rw [toUInt8_toNat (by omega), E.u8_mod]
theorem lowN_num : ∀ l, lowN l = E.num l
  | [] => rfl
  | b :: r => by rw [lowN, E.num, lowN_num r]
theorem low_take : ∀ (m n x : Nat), m ≤ n → (E.low n x).take m = E.low m x
  | 0, n, x, _ => rfl
  | m + 1, 0, x, h => by omega
  | m + 1, n + 1, x, h => by rw [E.low, E.low, List.take_succ_cons, low_take m n _ (by omega)]
theorem slice_to (s : ByteArray) (n : Nat) (h : n ≤ s.size) (W : World) : (Instr.slice 9 (.string s) none (some (.int .i64 (n : Int))) none).run Tryd.prog W = .ok (.string (s.extract 0 n)) W := by
  have e := run_slice_string_to_if (P := Tryd.prog) (w := W) 9 s .i64 (n : Int) Tryd.underlying9
  rw [if_pos ⟨by omega, by omega⟩, Int.toNat_natCast] at e
  exact e
theorem slice_in (s : ByteArray) (a b : Nat) (h1 : a ≤ b) (h2 : b ≤ s.size) (W : World) : (Instr.slice 9 (.string s) (some (.int .i64 (a : Int))) (some (.int .i64 (b : Int))) none).run Tryd.prog W = .ok (.string (s.extract a b)) W := by
  have := run_slice_string (P := Tryd.prog) W 9 s .i64 .i64 (a : Int) (b : Int) Tryd.underlying9 (by omega) (by omega) (by omega)
  rw [this, Int.toNat_natCast, Int.toNat_natCast]
theorem jhead_any (z k : Nat) (hz : z < 18446744073709551616) (w : World) : Calls Tryd.prog 55 #[.int .i64 z, .int .i64 k] w fun e w' => e = .returned (.string ⟨(J.headZ z k).toArray⟩) ∧ Qt w w' := by
  cases k with
  | succ k =>
    have y : decide (0 < ((k + 1 : Nat) : Int)) = true := decide_eq_true (by omega)
    have y2 : decide (0 < (k : Int) + 1) = true := decide_eq_true (by omega)
    go_enter Tryd.func55, Tryd.ntmps55
    go_wp2
    go_ret
    exact ⟨rfl, Qt.refl _⟩
  | zero =>
    have wz : IntKind.u64.wrap (z : Int) = (z : Int) := by rw [IntKind.wrap_u64]; omega
    have NEW := wnew_any w
    go_enter Tryd.func55, Tryd.ntmps55
    go_wp2_with fail
    refine NEW.mono ?_
    rintro e w1 ⟨rfl, r1, k1, s1⟩
    have FX := wfixed_any w.heap.size none [] z w1 r1 (by decide) hz
    have K1 := Lib.hid k1
    have S1 := Lib.hid s1
    clear r1 k1 s1 NEW
    go_wp2_with fail
    refine FX.mono ?_
    rintro e w2 ⟨rfl, r, r2, k2⟩
    have OU := wout_any w.heap.size r _ w2 r2
    have HK2 := Lib.hid k2
    obtain ⟨X, hX, hXs, hX4⟩ : ∃ X : ByteArray, ByteArray.mk ([] ++ lowB 8 z).toArray = X ∧ 4 ≤ X.size ∧ X.extract 0 4 = ByteArray.mk (E.low 4 z).toArray := ⟨_, rfl, by simp [ByteArray.size, lowB_length], by
      apply ByteArray.ext
      rw [ByteArray.data_extract]
      apply Array.toList_inj.1
      simp [low_lowB, low_take 4 8 z (by decide)]⟩
    have SL : ∀ W : World, (Instr.slice 9 (.string X) none (some (.int .i64 4)) none).run Tryd.prog W = .ok (.string (X.extract 0 4)) W := slice_to X 4 hXs
    rw [hX4] at SL
    rw [hX] at OU
    clear hX4 hXs
    clear r2 k2 FX hX
    go_wp2_with fail
    refine OU.mono ?_
    rintro e w3 ⟨rfl, _, k3⟩
    have FIN := Lib.hid (show Qt w w3 from Keeps.trans (S := fun _ => False) (Keeps.trans (S := fun _ => False) K1.out HK2.out.keeps (fun i hi e => by
      rcases e with e | e
      · omega
      · cases e)) k3 (fun i hi e => by
        rcases HK2.out.later with q | ⟨g, q, hg⟩
        · rw [q] at e; cases e
        · rw [q] at e; injection e with e; have := S1.out; omega))
    obtain ⟨Y, hY⟩ : ∃ Y : ByteArray, ByteArray.mk (E.low 4 z).toArray = Y := ⟨_, rfl⟩
    have HY := Lib.hid (show (⟨(J.headZ z 0).toArray⟩ : ByteArray) = (⟨#[1]⟩ : ByteArray) ++ Y by
      rw [← hY]
      apply ByteArray.ext
      simp [J.headZ])
    rw [hY] at SL
    have hb : ¬ (9223372036854775807 < 1 + Y.size) := by rw [← hY]; simp [ByteArray.size, E.low_length]
    clear k3 OU hY
    go_wp2
    go_ret
    exact ⟨by rw [HY.out]; rfl, FIN.out⟩

/-- The number at a record's beginning. -/
theorem sizeIn_text (p : List UInt8) : lowN ((((p.drop 1).take 4) ++ [0, 0, 0, 0]).take 8) = J.sizeOf p := by
  unfold J.sizeOf
  have h : ((p.drop 1).take 4).length ≤ 4 := by rw [List.length_take]; omega
  rw [List.take_of_length_le (by simp; omega), lowN_num, E.num_append, show E.num [0, 0, 0, 0] = 0 from rfl]
  rfl
theorem jsizeIn_any (s : ByteArray) (w : World) : Calls Tryd.prog 81 #[.string s] w fun e w' => e = .returned (.tuple #[.int .i64 ((if s.size < 5 then 0 else J.sizeOf s.data.toList : Nat) : Int), .bool (decide (5 ≤ s.size))]) ∧ Qt w w' := by
  by_cases h5 : s.size < 5
  · have y : decide ((s.size : Int) < 5) = true := decide_eq_true (by omega)
    have F1 := Lib.hid (show decide (5 ≤ s.size) = false from decide_eq_false (by omega))
    rw [if_pos h5]
    clear h5
    go_enter Tryd.func81, Tryd.ntmps81
    go_wp2
    go_ret2
    exact ⟨by rw [F1.out]; rfl, Qt.refl _⟩
  · have y : decide ((s.size : Int) < 5) = false := decide_eq_false (by omega)
    have F1 := Lib.hid (show decide (5 ≤ s.size) = true from decide_eq_true (by omega))
    rw [if_neg h5]
    have SL : ∀ W : World, (Instr.slice 9 (.string s) (some (.int .i64 1)) (some (.int .i64 5)) none).run Tryd.prog W = .ok (.string (s.extract 1 5)) W := slice_in s 1 5 (by decide) (by omega)
    obtain ⟨T, hT, hTs, hTl⟩ : ∃ T : ByteArray, T = s.extract 1 5 ∧ T.size = 4 ∧ T.data.toList = (s.data.toList.drop 1).take 4 := ⟨_, rfl, by simp; omega, by
      rw [ByteArray.data_extract, Array.toList_extract]⟩
    rw [← hT] at SL
    obtain ⟨U, hU⟩ : ∃ U : ByteArray, U = T ++ (⟨#[0, 0, 0, 0]⟩ : ByteArray) := ⟨_, rfl⟩
    have hUl : U.data.toList = (s.data.toList.drop 1).take 4 ++ [0, 0, 0, 0] := by
      rw [hU, ← hTl]; simp
    have hUs : U.size = 8 := by rw [hU, ByteArray.size_append, hTs]; rfl
    have hb : ¬ (9223372036854775807 < T.size + 4) := by omega
    have hr : lowN ((rest U 0).take 8) = J.sizeOf s.data.toList := by
      unfold rest
      rw [List.drop_zero, hUl, sizeIn_text]
    have RD := rread_any U w (by omega)
    have HUS := Lib.hid hUs
    have HR := Lib.hid hr
    have HU := Lib.hid hU
    have hlt := J.size_lt s.data.toList
    have wx : IntKind.i64.wrap ((J.sizeOf s.data.toList : Nat) : Int) = ((J.sizeOf s.data.toList : Nat) : Int) := by rw [IntKind.wrap_i64]; omega
    have wx2 : wrap64 ((J.sizeOf s.data.toList : Nat) : Int) = ((J.sizeOf s.data.toList : Nat) : Int) := by unfold wrap64; omega
    generalize J.sizeOf s.data.toList = x at *
    clear hT hTl hU hUl hUs hr hlt h5
    go_enter Tryd.func81, Tryd.ntmps81
    go_wp2_with fail
    rw [← HU.out]
    refine RD.mono ?_
    rintro e w1 ⟨rfl, r1, k1⟩
    have FX := rfixed_ok w.heap.size U 0 w1 r1 (by rw [HUS.out]; decide)
    rw [HR.out] at FX
    have K1 := Lib.hid k1
    clear r1 k1 RD
    go_wp2_with fail
    refine FX.mono ?_
    rintro e w2 ⟨rfl, m2⟩
    have Q2 := Lib.hid (show Qt w w2 from Keeps.trans (S := fun _ => False) K1.out m2.keeps (fun i hi e => by omega))
    clear m2 FX
    go_wp2
    go_quiet (fail)
    go_wp2
    go_ret2
    exact ⟨by rw [F1.out]; rfl, Keeps.drewN Q2.out _⟩
end Go.Proofs.YtggogaaooacooaaDoor
namespace Go.Proofs.YtggogaaooacooaaDoor
open Go.RowKit Go.WideShapes
set_option maxRecDepth 100000

theorem jlog_in (ad : Nat → Addr) (v i : Nat) (h1 : 1 ≤ v) (h2 : v ≤ 1099511627776) (h3 : i < 65536) (w : World) (hE : Errs ad w) :
    Calls Tryd.prog 75 #[.int .i64 v, .int .i64 i] w fun e w' => e = .returned (.tuple #[.int .u64 (J.stamp v i : Nat), .nilIface]) ∧ Qt w w' := by
  have h := log_any (ad 6) (ad 3) (ad 7) (v : Int) (i : Int) w (by omega) (by omega) (by omega) (by omega) hE.e3
  rw [show E.logR (v : Int) (i : Int) = (((J.stamp v i : Nat) : Int), 0) by
    unfold E.logR J.stamp
    rw [if_pos ⟨by omega, by omega, by omega, by omega⟩]
    congr 1] at h
  exact h
theorem opened (o : Option (List UInt8)) : openV o = .tuple #[.string ⟨(o.getD []).toArray⟩, .bool o.isSome] := by cases o <;> rfl

set_option maxHeartbeats 800000 in
theorem jpayload_any (ad : Nat → Addr) {w : World} {b : Nat} {d : DS} {S : Nat → Prop} (hE : Errs ad w) (hT : Tab w) (h : DiskAt w b d S) (ho : d.off = false) (p n v i : Nat) (h1 : 1 ≤ v) (h2 : v ≤ 1099511627776) (hn : p + n ≤ d.dur.length) (hi : i < n) :
    Calls Tryd.prog 80 #[placeV b p n v, .int .i64 i] w fun e w' => e = .returned (.string ⟨(J.payN (J.secs d p v) i).toArray⟩) ∧ Qt w w' := by
  have hl : d.dur.length ≤ 65536 := by obtain ⟨gd, mb, uv, P, _⟩ := h; exact P.ok.le
  obtain ⟨WA, hWA, QA, hb⟩ := place_new w b p n v
  have HWA := Lib.hid hWA
  have HQA := Lib.hid QA
  have HB := Lib.hid hb
  obtain ⟨d0, d1, d2, d3⟩ := place_cells hb
  have hEA := hE.kept QA (OffErrs.none ad)
  have hTA := hT.qt QA
  have hst := J.stamp_big (v := v) (k := i) h2 (by omega)
  have LG := jlog_in ad v i h1 h2 (by omega) WA hEA
  have RD := Lib.hid (fun W (q : Qt WA W) => (show Calls Tryd.prog 92 #[.pointer (some ⟨b, 0, none⟩), .int .i64 ((p : Int) + (i : Int))] W fun e w' => e = .returned (.tuple #[.string ⟨(d.read (p + i)).toArray⟩, .nilIface]) ∧ W = w' from by
    have h1 := read_any ad (hEA.kept q (OffErrs.none ad)) (DiskAt.qt h (Qt.trans QA q)) ((p + i : Nat) : Int)
    have hr : d.reach ((p + i : Nat) : Int) = 0 := DS.reach_calm ho (by omega)
    have he : d.readE ((p + i : Nat) : Int) = d.read (p + i) := by unfold DS.readE; rw [if_pos hr, Int.toNat_natCast]
    rw [hr, he, Int.natCast_add, errV_zero] at h1
    exact h1))
  have OP := Lib.hid (fun W (q : Qt WA W) => (show Calls Tryd.prog 93 #[.int .u64 (J.stamp v i : Nat), .string ⟨(d.read (p + i)).toArray⟩] W fun e w' => e = .returned (.tuple #[.string ⟨(J.payN (J.secs d p v) i).toArray⟩, .bool (J.secs d p v i).isSome]) ∧ Qt W w' from by
    have h := open_any (ad 6) (ad 3) (ad 7) (J.stamp v i) ⟨(d.read (p + i)).toArray⟩ W hst (hEA.kept q (OffErrs.none ad)).e3 (hTA.qt q)
    rw [opened] at h
    exact h))
  have hw : wrap64 ((p : Int) + (i : Int)) = (p : Int) + (i : Int) := by unfold wrap64; omega
  generalize (⟨(d.read (p + i)).toArray⟩ : ByteArray) = X at *
  generalize (⟨(J.payN (J.secs d p v) i).toArray⟩ : ByteArray) = Y at *
  generalize (J.secs d p v i).isSome = z at *
  generalize J.stamp v i = st at *
  clear h hE hT hEA hTA hst hl hn hi h1 h2 ho hWA QA hb
  unfold placeV
  go_enter Tryd.func80, Tryd.ntmps80
  go_wp2_with fail
  rw [HWA.out]
  refine LG.mono ?_
  rintro e w1 ⟨rfl, q1⟩
  have Q1 := Lib.hid q1
  obtain ⟨x0, x1, x2, x3⟩ := place_cells (place_qt HB.out q1)
  clear q1 d0 d1 d2 d3 LG
  go_wp2_with fail
  refine (RD.out w1 Q1.out).mono ?_
  rintro e w2 ⟨rfl, rfl⟩
  go_wp2_with fail
  refine (OP.out _ Q1.out).mono ?_
  rintro e w3 ⟨rfl, q3⟩
  have FQ := Lib.hid (Qt.trans HQA.out (Qt.trans Q1.out q3))
  clear q3
  go_wp2
  go_ret
  exact ⟨rfl, FQ.out⟩
end Go.Proofs.YtggogaaooacooaaDoor
