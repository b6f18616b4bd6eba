/-
  The contract of remitref07.Log.
  The contracts of remitref10's Cost, Largest, may and open.
  Layer 10, plain: how a whole record is told.
-/
import Derived.Test.YtggogaaooacooaaDoorP25
import Derived.Test.YtggogaaooacooaaDoorP06
import Derived.Test.YtggogaaooacooaaDoorP21
namespace Go.Proofs.YtggogaaooacooaaDoor
open Go.RowKit Go.WideShapes
set_option maxRecDepth 100000

set_option maxHeartbeats 1600000 in
theorem refLog_any (v i : Int) (w : World) (hv0 : -9223372036854775808 ≤ v) (hv1 : v ≤ 9223372036854775807) (hi0 : -9223372036854775808 ≤ i) (hi1 : i ≤ 9223372036854775807) :
    Calls Tryd.prog 67 #[.int .i64 v, .int .i64 i] w fun e w' => e = .returned (.tuple #[.int .u64 (E.logR v i).1, .int .i64 (E.logR v i).2]) ∧ Qt w w' := by
  by_cases hk : E.logOk v i
  · have HV := Lib.hid (show E.logR v i = (v * 1048576 + i + 1, 0) from if_pos hk)
    obtain ⟨a1, a2, a3, a4⟩ := hk
    go_enter Tryd.func67, Tryd.ntmps67
    go_wp2
    go_ret2
    exact ⟨by rw [HV.out]; rfl, Qt.refl _⟩
  · have HV := Lib.hid (show E.logR v i = (0, 6) from if_neg hk)
    have hk2 : v < 1 ∨ 1099511627776 < v ∨ i < 0 ∨ 65536 ≤ i := by unfold E.logOk at hk; omega
    clear hk
    by_cases b1 : v < 1
    · clear hk2
      go_enter Tryd.func67, Tryd.ntmps67
      go_wp2
      go_ret2
      exact ⟨by rw [HV.out]; rfl, Qt.refl _⟩
    · by_cases b2 : 1099511627776 < v
      · clear hk2
        go_enter Tryd.func67, Tryd.ntmps67
        go_wp2
        go_ret2
        exact ⟨by rw [HV.out]; rfl, Qt.refl _⟩
      · by_cases b3 : i < 0
        · clear hk2
          go_enter Tryd.func67, Tryd.ntmps67
          go_wp2
          go_ret2
          exact ⟨by rw [HV.out]; rfl, Qt.refl _⟩
        · have b4 : 65536 ≤ i := by omega
          clear hk2
          go_enter Tryd.func67, Tryd.ntmps67
          go_wp2
          go_ret2
          exact ⟨by rw [HV.out]; rfl, Qt.refl _⟩
end Go.Proofs.YtggogaaooacooaaDoor
namespace Go.Proofs.YtggogaaooacooaaDoor
open Go.RowKit Go.WideShapes
set_option maxRecDepth 100000

/-- Cost and Largest of a number. -/
def costZ (z : Int) : Int := if z < 0 then 0 else (J.cost z.toNat : Nat)
def largestZ (n : Int) : Int := if n < 1 then -1 else wrap64 (229 + 233 * (n - 1))
theorem costZ_nat (n : Nat) : costZ (n : Int) = ((J.cost n : Nat) : Int) := by unfold costZ; rw [if_neg (by omega), Int.toNat_natCast]
theorem costZ_one {z : Int} (h0 : 0 ≤ z) (h1 : z ≤ 229) : costZ z = 1 := by
  unfold costZ J.cost; rw [if_neg (by omega), if_pos (by omega)]; rfl
theorem costZ_more {z : Int} (h1 : ¬ z ≤ 229) : costZ z = 2 + (z - 230) / 233 := by
  unfold costZ J.cost; rw [if_neg (by omega), if_neg (by omega)]; omega
theorem refCost_any (z : Int) (hz : z ≤ 9223372036854775807) (w : World) : Calls Tryd.prog 20 #[.int .i64 z] w fun e w' => e = .returned (.int .i64 (costZ z)) ∧ w' = w := by
  by_cases h0 : z < 0
  · have FIN := Lib.hid (show costZ z = 0 from if_pos h0)
    go_enter Tryd.func20, Tryd.ntmps20
    go_wp2
    go_ret
    exact ⟨by rw [FIN.out]; rfl, rfl⟩
  · have z0 : decide (z < 0) = false := decide_eq_false h0
    by_cases h1 : z ≤ 229
    · have FIN := Lib.hid (costZ_one (z := z) (by omega) h1)
      go_enter Tryd.func20, Tryd.ntmps20
      go_wp2
      go_ret
      exact ⟨by rw [FIN.out]; rfl, rfl⟩
    · have FIN := Lib.hid (costZ_more h1)
      have z1 : decide (z ≤ 229) = false := decide_eq_false h1
      have w1 : wrap64 (z - 230) = z - 230 := by unfold wrap64; omega
      have w2 : (z - 230).tdiv 233 = (z - 230) / 233 := Int.tdiv_eq_ediv_of_nonneg (by omega)
      have w3 : wrap64 (2 + (z - 230) / 233) = 2 + (z - 230) / 233 := by unfold wrap64; omega
      go_enter Tryd.func20, Tryd.ntmps20
      go_wp2
      go_ret
      exact ⟨by rw [FIN.out]; rfl, rfl⟩
theorem wrap_wrap (a b : Int) : wrap64 (a + wrap64 b) = wrap64 (a + b) := by unfold wrap64; omega
theorem wrap_mulw (a b : Int) : wrap64 (a * wrap64 b) = wrap64 (a * b) := by
  unfold wrap64
  have h : (b + 9223372036854775808) % 18446744073709551616 - 9223372036854775808 = b - 18446744073709551616 * ((b + 9223372036854775808) / 18446744073709551616) := by omega
  rw [h, Int.mul_sub, show a * (18446744073709551616 * ((b + 9223372036854775808) / 18446744073709551616)) = 18446744073709551616 * (a * ((b + 9223372036854775808) / 18446744073709551616)) by rw [Int.mul_left_comm]]
  generalize a * ((b + 9223372036854775808) / 18446744073709551616) = q
  generalize a * b = p
  omega
theorem refLargest_any (n : Int) (hn : n ≤ 9223372036854775807) (w : World) : Calls Tryd.prog 22 #[.int .i64 n] w fun e w' => e = .returned (.int .i64 (largestZ n)) ∧ w' = w := by
  by_cases h0 : n < 1
  · have FIN := Lib.hid (show largestZ n = -1 from if_pos h0)
    go_enter Tryd.func22, Tryd.ntmps22
    go_wp2
    go_ret
    exact ⟨by rw [FIN.out]; rfl, rfl⟩
  · have z0 : decide (n < 1) = false := decide_eq_false h0
    have w1 : wrap64 (n - 1) = n - 1 := by unfold wrap64; omega
    have w2 := wrap_wrap 229 (233 * (n - 1))
    have FIN := Lib.hid (show largestZ n = wrap64 (229 + 233 * (n - 1)) from if_neg h0)
    go_enter Tryd.func22, Tryd.ntmps22
    go_wp2
    go_ret
    exact ⟨by rw [FIN.out]; rfl, rfl⟩

theorem rmay_any {w0 w : World} {j b c : Nat} {d u : DS} (h : Pair j w0 w b c d u) (i n v : Int) :
    Calls Tryd.prog 61 #[.pointer (some ⟨c, 0, none⟩), .int .i64 i, .int .i64 n, .int .i64 v] w fun e w' => e = .returned (.bool (decide (J.may u i n v))) ∧ w' = w := by
  obtain ⟨sa, sc, c0, hl⟩ : ∃ sa sc, w.cell? ⟨c, 0, none⟩ = some (.slice sa u.dur.length sc) ∧ u.dur.length ≤ 65536 := by
    obtain ⟨S, T, h1, ⟨sv, wv, P, hT⟩, h3, h4, h5, h6⟩ := h
    obtain ⟨sa, sc, rfl, _⟩ := own_slice P.secs
    exact ⟨sa, sc, P.cell 0 _ rfl, P.ok.le⟩
  clear h
  by_cases c0' : 0 ≤ i
  · have y0 : decide (0 ≤ i) = true := decide_eq_true c0'
    by_cases c1' : 0 ≤ n
    · have y1 : decide (0 ≤ n) = true := decide_eq_true c1'
      by_cases c2' : i ≤ (u.dur.length : Int)
      · have y2 : decide (i ≤ (u.dur.length : Int)) = true := decide_eq_true c2'
        have wz : wrap64 ((u.dur.length : Int) - i) = (u.dur.length : Int) - i := by unfold wrap64; omega
        by_cases c3' : n ≤ (u.dur.length : Int) - i
        · have y3 : decide (n ≤ (u.dur.length : Int) - i) = true := decide_eq_true c3'
          by_cases c4' : n ≤ 65536
          · have y4 : decide (n ≤ 65536) = true := decide_eq_true c4'
            by_cases c5' : 1 ≤ v
            · have y5 : decide (1 ≤ v) = true := decide_eq_true c5'
              by_cases c6' : v ≤ 1099511627776
              · have y6 : decide (v ≤ 1099511627776) = true := decide_eq_true c6'
                have FIN := Lib.hid (show decide (J.may u i n v) = true from decide_eq_true ⟨c0', c1', c2', c3', c4', c5', c6'⟩)
                generalize u.dur.length = L at *
                go_enter Tryd.func61, Tryd.ntmps61
                go_wp2
                go_ret
                exact ⟨by rw [FIN.out]; rfl, rfl⟩
              · have y6 : decide (v ≤ 1099511627776) = false := decide_eq_false c6'
                have FIN := Lib.hid (show decide (J.may u i n v) = false from decide_eq_false (fun k => c6' k.2.2.2.2.2.2))
                generalize u.dur.length = L at *
                go_enter Tryd.func61, Tryd.ntmps61
                go_wp2
                go_ret
                exact ⟨by rw [FIN.out]; rfl, rfl⟩
            · have y5 : decide (1 ≤ v) = false := decide_eq_false c5'
              have FIN := Lib.hid (show decide (J.may u i n v) = false from decide_eq_false (fun k => c5' k.2.2.2.2.2.1))
              generalize u.dur.length = L at *
              go_enter Tryd.func61, Tryd.ntmps61
              go_wp2
              go_ret
              exact ⟨by rw [FIN.out]; rfl, rfl⟩
          · have y4 : decide (n ≤ 65536) = false := decide_eq_false c4'
            have FIN := Lib.hid (show decide (J.may u i n v) = false from decide_eq_false (fun k => c4' k.2.2.2.2.1))
            exfalso
            omega
        · have y3 : decide (n ≤ (u.dur.length : Int) - i) = false := decide_eq_false c3'
          have FIN := Lib.hid (show decide (J.may u i n v) = false from decide_eq_false (fun k => c3' k.2.2.2.1))
          generalize u.dur.length = L at *
          go_enter Tryd.func61, Tryd.ntmps61
          go_wp2
          go_ret
          exact ⟨by rw [FIN.out]; rfl, rfl⟩
      · have y2 : decide (i ≤ (u.dur.length : Int)) = false := decide_eq_false c2'
        have FIN := Lib.hid (show decide (J.may u i n v) = false from decide_eq_false (fun k => c2' k.2.2.1))
        generalize u.dur.length = L at *
        go_enter Tryd.func61, Tryd.ntmps61
        go_wp2
        go_ret
        exact ⟨by rw [FIN.out]; rfl, rfl⟩
    · have y1 : decide (0 ≤ n) = false := decide_eq_false c1'
      have FIN := Lib.hid (show decide (J.may u i n v) = false from decide_eq_false (fun k => c1' k.2.1))
      generalize u.dur.length = L at *
      go_enter Tryd.func61, Tryd.ntmps61
      go_wp2
      go_ret
      exact ⟨by rw [FIN.out]; rfl, rfl⟩
  · have y0 : decide (0 ≤ i) = false := decide_eq_false c0'
    have FIN := Lib.hid (show decide (J.may u i n v) = false from decide_eq_false (fun k => c0' k.1))
    generalize u.dur.length = L at *
    go_enter Tryd.func61, Tryd.ntmps61
    go_wp2
    go_ret
    exact ⟨by rw [FIN.out]; rfl, rfl⟩

/-- The stamp of a log's sector, where its numbers are of range. -/
theorem log_stamp {v i : Nat} (h1 : 1 ≤ v) (h2 : v ≤ 1099511627776) (h3 : i < 65536) : E.logR (v : Int) (i : Int) = (((J.stamp v i : Nat) : Int), 0) := by
  unfold E.logR J.stamp
  rw [if_pos ⟨by omega, by omega, by omega, by omega⟩]
  congr 1
theorem rsec_any {w0 w : World} {j b c : Nat} {d u : DS} (h : Pair j w0 w b c d u) (hf : u.Few) (ho : u.off = false) (i v k : Nat) (h1 : 1 ≤ v) (h2 : v ≤ 1099511627776) (h3 : k < 65536) (hi : i + k < u.dur.length) :
    Calls Tryd.prog 88 #[.pointer (some ⟨c, 0, none⟩), .int .i64 i, .int .i64 k, .int .i64 v] w fun e w' => e = .returned (openV (J.secs u i v k)) ∧ Qt w w' := by
  have RD := pairR_read h hf ((i + k : Nat) : Int)
  have hr : u.reach ((i + k : Nat) : Int) = 0 := DS.reach_calm ho hi
  have he : u.readE ((i + k : Nat) : Int) = u.read (i + k) := by unfold DS.readE; rw [if_pos hr, Int.toNat_natCast]
  have hl : i + k < 65536 := by
    obtain ⟨S, T, h1, ⟨sv, wv, P, hT⟩, h3, h4, h5, h6⟩ := h
    have := P.ok.le
    omega
  rw [hr, he, Int.natCast_add] at RD
  have LG := fun W => refLog_any (v : Int) (k : Int) W (by omega) (by omega) (by omega) (by omega)
  rw [log_stamp h1 h2 h3] at LG
  have OP := fun (W : World) => refOpen_any (J.stamp v k) ⟨(u.read (i + k)).toArray⟩ W (J.stamp_big h2 h3)
  have FIN := Lib.hid (show E.openS (J.stamp v k) (⟨(u.read (i + k)).toArray⟩ : ByteArray).data.toList = J.secs u i v k from rfl)
  have zik : wrap64 ((i : Int) + (k : Int)) = (i : Int) + (k : Int) := by unfold wrap64; omega
  rw [FIN.out] at OP
  clear h hf ho hr he hi h1 h2
  generalize (⟨(u.read (i + k)).toArray⟩ : ByteArray) = X at *
  generalize J.stamp v k = st at *
  go_enter Tryd.func88, Tryd.ntmps88
  go_wp2_with fail
  refine RD.mono ?_
  rintro e w1 ⟨rfl, q1⟩
  have Q1 := Lib.hid q1; clear q1
  go_wp2_with fail
  refine (LG _).mono ?_
  rintro e w2 ⟨rfl, q2⟩
  have Q2 := Lib.hid (Qt.trans Q1.out q2); clear q2
  cases hq : J.secs u i v k with
  | none =>
    rw [hq] at OP
    have O2 := Lib.hid (show ∀ W, Calls Tryd.prog 99 #[.int .u64 st, .string X] W fun e w' => e = .returned (.tuple #[.string ⟨#[]⟩, .bool false]) ∧ Qt W w' from OP)
    clear OP
    go_wp2_with fail
    refine (O2.out _).mono ?_
    rintro e w3 ⟨rfl, q3⟩
    have Q3 := Lib.hid (Qt.trans Q2.out q3); clear q3
    go_wp2
    go_ret2
    exact ⟨by rw [hq]; rfl, Q3.out⟩
  | some p =>
    rw [hq] at OP
    have O2 := Lib.hid (show ∀ W, Calls Tryd.prog 99 #[.int .u64 st, .string X] W fun e w' => e = .returned (.tuple #[.string ⟨p.toArray⟩, .bool true]) ∧ Qt W w' from OP)
    clear OP
    go_wp2_with fail
    refine (O2.out _).mono ?_
    rintro e w3 ⟨rfl, q3⟩
    have Q3 := Lib.hid (Qt.trans Q2.out q3); clear q3
    go_wp2
    go_ret2
    exact ⟨by rw [hq]; rfl, Q3.out⟩
end Go.Proofs.YtggogaaooacooaaDoor
namespace Go.Proofs.YtggogaaooacooaaDoor.J
set_option maxRecDepth 100000

theorem rec_no1 {s : Nat → Option (List UInt8)} {n p : Nat} (h : s p = none) : rec s n p = none := rec_none fun v k => by
  have := k.each 0 (cost_pos _)
  rw [Nat.add_zero, h] at this
  cases this
theorem rec_no2 {s : Nat → Option (List UInt8)} {n p : Nat} {q : List UInt8} (h : s p = some q) (h2 : ∀ v : List UInt8, q ≠ pay v 0) : rec s n p = none := rec_none fun v k => by
  have := k.each 0 (cost_pos _)
  rw [Nat.add_zero, h] at this
  injection this with this
  exact h2 v this
theorem pay0_five {v q : List UInt8} (h : q = pay v 0) : 5 ≤ q.length ∧ q[0]? = some 1 := by
  subst h
  exact ⟨by rw [pay0_length]; omega, rfl⟩
/-- The pieces read are those of one text. -/
structure Read (s : Nat → Option (List UInt8)) (p : Nat) (P : Nat → List UInt8) (k : Nat) : Prop where
  each : ∀ j, j < k → s (p + j) = some (P j)
theorem rec_room {s : Nat → Option (List UInt8)} {n p : Nat} {q : List UInt8} (h : s p = some q) (hn : n < p + cost (sizeOf q)) : rec s n p = none := rec_none fun v k => by
  have e := k.each 0 (cost_pos _)
  rw [Nat.add_zero, h] at e
  injection e with e
  rw [e, size_pay k.small] at hn
  have := k.room
  omega
theorem rec_miss {s : Nat → Option (List UInt8)} {n p k : Nat} {q : List UInt8} (h : s p = some q) (hk : k < cost (sizeOf q)) (hm : s (p + k) = none) : rec s n p = none := rec_none fun v w => by
  have e := w.each 0 (cost_pos _)
  rw [Nat.add_zero, h] at e
  injection e with e
  rw [e, size_pay w.small] at hk
  have := w.each k hk
  rw [hm] at this
  cases this
theorem rec_short {s : Nat → Option (List UInt8)} {n p k : Nat} {q r : List UInt8} (h : s p = some q) (hk : k + 1 < cost (sizeOf q)) (hm : s (p + (k + 1)) = some r) (hr : r.length < 1) : rec s n p = none := rec_none fun v w => by
  have e := w.each 0 (cost_pos _)
  rw [Nat.add_zero, h] at e
  injection e with e
  rw [e, size_pay w.small] at hk
  have := w.each (k + 1) hk
  rw [hm] at this
  injection this with this
  rw [this, payS_length] at hr
  omega
/-- All pieces counted: it is this text, or none. -/
theorem rec_text {s : Nat → Option (List UInt8)} {n p : Nat} {P : Nat → List UInt8} (h : ∀ j, j < cost (sizeOf (P 0)) → s (p + j) = some (P j)) {v : List UInt8} (w : Whole s n p v) :
    v = textTo P (cost (sizeOf (P 0))) ∧ v.length = sizeOf (P 0) ∧ ∀ j, j < cost (sizeOf (P 0)) → P j = pay v j := by
  have e := w.each 0 (cost_pos _)
  rw [h 0 (cost_pos _)] at e
  injection e with e
  have es : sizeOf (P 0) = v.length := by rw [e, size_pay w.small]
  have ep : ∀ j, j < cost (sizeOf (P 0)) → P j = pay v j := fun j hj => by
    have := w.each j (by rw [← es]; exact hj)
    rw [h j hj] at this
    injection this
  refine ⟨?_, es.symm, ep⟩
  rw [text_congr _ ep, es, text_all]
theorem rec_size {s : Nat → Option (List UInt8)} {n p : Nat} {P : Nat → List UInt8} (h : ∀ j, j < cost (sizeOf (P 0)) → s (p + j) = some (P j)) (hs : (textTo P (cost (sizeOf (P 0)))).length ≠ sizeOf (P 0)) : rec s n p = none := rec_none fun v w => by
  obtain ⟨h1, h2, _⟩ := rec_text h w
  rw [← h1] at hs
  exact hs h2
theorem rec_unlike {s : Nat → Option (List UInt8)} {n p k : Nat} {P : Nat → List UInt8} (h : ∀ j, j < cost (sizeOf (P 0)) → s (p + j) = some (P j)) (hk : k < cost (sizeOf (P 0))) (hs : P k ≠ pay (textTo P (cost (sizeOf (P 0)))) k) : rec s n p = none := rec_none fun v w => by
  obtain ⟨h1, _, h3⟩ := rec_text h w
  rw [← h1] at hs
  exact hs (h3 k hk)
theorem rec_yes {s : Nat → Option (List UInt8)} {n p : Nat} {P : Nat → List UInt8} (h : ∀ j, j < cost (sizeOf (P 0)) → s (p + j) = some (P j)) (hn : p + cost (sizeOf (P 0)) ≤ n) (hs : (textTo P (cost (sizeOf (P 0)))).length = sizeOf (P 0))
    (hp : ∀ k, k < cost (sizeOf (P 0)) → P k = pay (textTo P (cost (sizeOf (P 0)))) k) : rec s n p = some (textTo P (cost (sizeOf (P 0)))) :=
  rec_some ⟨by rw [hs]; exact size_lt _, by rw [hs]; exact hn, fun k hk => by rw [hs] at hk; rw [h k hk, hp k hk]⟩
theorem text_le {P : Nat → List UInt8} (h : ∀ j, (P j).length ≤ 234) : ∀ k, (textTo P k).length ≤ 234 * k
  | 0 => Nat.zero_le _
  | 1 => by rw [textTo, List.length_drop]; have := h 0; omega
  | k + 2 => by rw [textTo, List.length_append, List.length_drop]; have := h (k + 1); have := text_le h (k + 1); omega
end Go.Proofs.YtggogaaooacooaaDoor.J
