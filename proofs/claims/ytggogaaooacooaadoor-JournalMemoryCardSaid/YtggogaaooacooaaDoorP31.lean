/-
  A Builder of the call's own: a text written to it.
  Small facts on numbers, out of a walk's wide context.
  The contract of journal's record: the whole record that begins in a sector.
-/
import Derived.Test.YtggogaaooacooaaDoorP17
import Derived.Test.YtggogaaooacooaaDoorP27
import Derived.IntWalk
import Derived.Test.YtggogaaooacooaaDoorP30
namespace Go.Proofs.YtggogaaooacooaaDoor
open Go.RowKit Go.WideShapes
set_option maxRecDepth 100000

theorem builder_qt {T e : TypeId} {B b : Nat} {p : Value} {bs : List Value} {w w' : World} (h : Lib.BuilderAt T e B b p bs w) (q : Qt w w') : Lib.BuilderAt T e B b p bs w' := by
  obtain ⟨hB, v, hbk, hown, hne⟩ := h
  exact ⟨hB, v, (q.block b (lt_of_block hbk) (fun e => e)).trans hbk, ownsRow_kept hown q (fun _ _ e => e), hne⟩
theorem bwriteS_any (B b : Nat) (bs : List Value) (s : ByteArray) (w : World) (h : Lib.BuilderAt 98 5 B b (.pointer (some ⟨b, 0, none⟩)) bs w) (hlen : bs.length + s.size ≤ 140737488355328) (hBw : B ≤ w.heap.size) :
    Calls Tryd.prog 83 #[.pointer (some ⟨b, 0, none⟩), .string s] w fun e w' => e = .returned (.tuple #[.int .i64 s.size, .nilIface]) ∧ Lib.BuilderAt 98 5 B b (.pointer (some ⟨b, 0, none⟩)) (bs ++ Lib.strCells s) w' ∧ Below B w w' := by
  obtain ⟨i0, hi, hz0, hz1, hz2⟩ := info_parts infoByte3
  obtain ⟨hB, v, hbk, hown, hne⟩ := h
  have c0 : w.cell? ⟨b, 0, none⟩ = some (.pointer (some ⟨b, 0, none⟩)) := by rw [Lib.cell_of_heap hbk]; rfl
  have c1 : w.cell? ⟨b, 1, none⟩ = some v := by rw [Lib.cell_of_heap hbk]; rfl
  go_enter Tryd.func83, Tryd.ntmps83
  go_wp2_with fail
  refine (bcheck_used b w c0).mono ?_
  rintro e w1 ⟨rfl, rfl⟩
  go_wp2_with (at_builtin; refine Lib.wpList_append_own_string _ rfl _ _ 75 9 rfl B 5 i0 Tryd.underlying75 Tryd.underlying9 hi hz0 hz1 hz2 _ _ _ rfl hown s rfl ?c3 ?c4 ?c5 ?_)
  case c3 => unfold maxLen; omega
  case c4 => omega
  case c5 => omega
  intro v' w2 hown' hgrow _
  have hlt := lt_of_block hbk
  have hb2 : w2.heap[b]? = some (.cells #[.pointer (some ⟨b, 0, none⟩), v] 98 (0, 0)) := by
    rw [hgrow.block b hlt (fun e => hne e.symm)]
    exact hbk
  have d0 : w2.cell? ⟨b, 0, none⟩ = some (.pointer (some ⟨b, 0, none⟩)) := by rw [Lib.cell_of_heap hb2]; rfl
  have d1 : w2.cell? ⟨b, 1, none⟩ = some v := by rw [Lib.cell_of_heap hb2]; rfl
  have f1 : w2.frozen? ⟨b, 1, none⟩ = false := Lib.frozen_of_heap hb2 1
  obtain ⟨ao, n', cap, rfl⟩ : ∃ ao n' cap, v' = .slice ao n' cap := by
    rcases hown'.2 with ⟨hv, _⟩ | ⟨g, cap, cur, hv, _⟩
    · exact ⟨_, _, _, hv⟩
    · exact ⟨_, _, _, hv⟩
  go_wp2
  go_ret2
  refine ⟨rfl, ?_, ?_⟩
  · exact Lib.BuilderAt.put (T := 98) (e := 5) hB hb2 (bs' := bs ++ Lib.strCells s) (by simpa [Lib.strCells_length] using hown') neBuilder
  · exact ((Below.refl B w).grown hgrow hBw (fun k hk => (hown.lt k hk).1)).setCell (p := ⟨b, 1, none⟩) hB _
end Go.Proofs.YtggogaaooacooaaDoor
namespace Go.Proofs.YtggogaaooacooaaDoor
open Go.RowKit
set_option maxRecDepth 100000

theorem sj_room {k C i n : Nat} (h : k < C) (h2 : i + C ≤ n) : i + k < n := by omega
theorem sj_kb {k C i n : Nat} (h : k < C) (h2 : i + C ≤ n) (h3 : n ≤ 65536) : k ≤ 65536 := by omega
theorem sj_lt {k C : Nat} (h : k < C) : decide ((k : Int) < (C : Int)) = true := decide_eq_true (by omega)
theorem sj_ge {k C : Nat} (h : C ≤ k) : decide ((k : Int) < (C : Int)) = false := decide_eq_false (by omega)
theorem sj_w1 {k : Nat} (h : k ≤ 65536) : wrap64 ((k : Int) + 1) = (k : Int) + 1 := by unfold wrap64; omega
theorem sj_w1b {k : Nat} (h : k ≤ 140737488355328) : wrap64 ((k : Int) + 1) = (k : Int) + 1 := by unfold wrap64; omega
theorem sj_in {k n : Nat} (h : k < n) : (0 : Int) ≤ (k : Int) ∧ (k : Int) < (n : Int) := by omega
theorem sj_w2 {i k : Nat} (h : i ≤ 65536) (h2 : k ≤ 65536) : wrap64 ((i : Int) + (k : Int)) = (i : Int) + (k : Int) := by unfold wrap64; omega
theorem sj_w2i {i k : Nat} (h : i ≤ 65536) (h2 : k ≤ 65536) : IntKind.i64.wrap ((i : Int) + (k : Int)) = (i : Int) + (k : Int) := by rw [IntKind.wrap_i64]; omega
theorem sj_w2b {i k : Nat} (h : i ≤ 65536) (h2 : k ≤ 140737488355328) : wrap64 ((i : Int) + (k : Int)) = (i : Int) + (k : Int) := by unfold wrap64; omega
theorem sj_sub {u e z : Nat} (h : e ≤ u) (h2 : u ≤ z) (h3 : z ≤ 1099511627776) : wrap64 ((u : Int) - (e : Int)) = ((u - e : Nat) : Int) := by unfold wrap64; omega
theorem sj_ib {i C n : Nat} (h : i + C ≤ n) (h3 : n ≤ 65536) : i ≤ 65536 := by omega
theorem sj_meas {k n : Nat} (h : k < n) : n - (intOf (.int .i64 ((k : Int) + 1))).toNat < n - (intOf (.int .i64 (k : Int))).toNat := by simp [intOf]; omega
theorem sj_meas2 {k m n : Nat} (h : k < n) (hm : k < m) : n - (intOf (.int .i64 ((m : Nat) : Int))).toNat < n - (intOf (.int .i64 (k : Int))).toNat := by simp [intOf]; omega
theorem sj_pos0 {k : Nat} (h : k = 0) : decide (0 < (k : Int)) = false ∧ decide (0 < k) = false := ⟨decide_eq_false (by omega), decide_eq_false (by omega)⟩
theorem sj_pos1 {k : Nat} (h : ¬ k = 0) : decide (0 < (k : Int)) = true ∧ decide (0 < k) = true := ⟨decide_eq_true (by omega), decide_eq_true (by omega)⟩
theorem sj_bd {o y z u e : Nat} (h : o ≤ z) (hy : y = u - e) (hu : u ≤ z) (hz : z ≤ 1099511627776) : o + y ≤ 140737488355328 := by omega
theorem sj_eq {k C : Nat} (h : k ≤ C) (h2 : ¬ k < C) : k = C := by omega
theorem sj_u64 {z : Nat} (h : z ≤ 1099511627776) : z < 18446744073709551616 := by omega
theorem sj_ol {z k o : Nat} (h : o = min k z) : o ≤ z := by omega
theorem sj_ne {a b : Nat} (h : a = b) : ((a : Int) != (b : Int)) = false := by rw [bne_eq_false_iff_eq, h]
theorem sj_ne' {a b : Nat} (h : a ≠ b) : ((a : Int) != (b : Int)) = true := by rw [bne_iff_ne]; omega
theorem sj_succ {k : Nat} : (k : Int) + 1 = ((k + 1 : Nat) : Int) := by omega
end Go.Proofs.YtggogaaooacooaaDoor
namespace Go.Proofs.YtggogaaooacooaaDoor
open Go.RowKit Go.WideShapes
set_option maxRecDepth 100000

def recJV : Option (List UInt8) → Value
  | none => .tuple #[.string ⟨#[]⟩, .bool false]
  | some t => .tuple #[.string ⟨t.toArray⟩, .bool true]
/-- A text's beginning cut off. -/
theorem prefix_yes {s p : List UInt8} (h : Lib.hasPrefix s p = true) : s = p ++ s.drop p.length := by
  obtain ⟨t, rfl⟩ := List.isPrefixOf_iff_prefix.1 h
  rw [List.drop_left]
theorem prefix_no {s p : List UInt8} (h : Lib.hasPrefix s p = false) (t : List UInt8) : s ≠ p ++ t := fun e => by
  have : Lib.hasPrefix s p = true := List.isPrefixOf_iff_prefix.2 ⟨t, e.symm⟩
  rw [h] at this; cases this
theorem cut_yes (P H : ByteArray) (w : World) (h : Lib.hasPrefix P.data.toList H.data.toList = true) :
    Calls Tryd.prog 82 #[.string P, .string H] w fun e w' => e = .returned (.tuple #[.string ⟨(P.data.toList.drop H.data.toList.length).toArray⟩, .bool true]) ∧ w' = w := by
  have c := Tryd.strings_CutPrefix P H w
  unfold Lib.trimPrefix at c
  rw [if_pos h, h] at c
  exact c
theorem cut_no (P H : ByteArray) (w : World) (h : Lib.hasPrefix P.data.toList H.data.toList = false) :
    Calls Tryd.prog 82 #[.string P, .string H] w fun e w' => e = .returned (.tuple #[.string P, .bool false]) ∧ w' = w := by
  have c := Tryd.strings_CutPrefix P H w
  unfold Lib.trimPrefix at c
  rw [if_neg (by rw [h]; simp), h] at c
  exact c

/-- What the loop keeps. -/
def RCAt (w : World) (s : Nat → Option (List UInt8)) (i z : Nat) (pv iv : Value) (wr : World) : Prop :=
  ∃ (k : Nat) (o : List UInt8) (T : ByteArray), k ≤ J.cost z ∧ iv = .int .i64 k ∧ pv = .string T ∧ (k = 0 → T = ⟨(J.payN s i).toArray⟩) ∧ J.Got s i z k o ∧ Lib.BuilderAt 98 5 w.heap.size w.heap.size (.pointer (some ⟨w.heap.size, 0, none⟩)) (Lib.byteCells o) wr ∧ Below w.heap.size w wr
theorem costJ_bound {z n i : Nat} (h : J.cost z ≤ n - i) (hn : n ≤ 65536) : z ≤ 15270118 := by
  have := J.cost_le z
  have h1 := J.cost_pos z
  obtain ⟨c, hc⟩ : ∃ c, J.cost z = c + 1 := ⟨J.cost z - 1, by omega⟩
  rw [hc] at this h
  have : z ≤ 229 + 233 * c := this
  omega

set_option maxHeartbeats 3200000 in
theorem jrecord_any (ad : Nat → Addr) {w : World} {b : Nat} {d : DS} {S : Nat → Prop} (hE : Errs ad w) (hT : Tab w) (h : DiskAt w b d S) (ho : d.off = false) (p n v i : Nat) (h1 : 1 ≤ v) (h2 : v ≤ 1099511627776) (hn : p + n ≤ d.dur.length) (hi : i < n) :
    Calls Tryd.prog 57 #[placeV b p n v, .int .i64 i] w fun e w' => e = .returned (recJV (J.rec (J.secs d p v) n i)) ∧ Qt w w' := by
  have hl : d.dur.length ≤ 65536 := by obtain ⟨gd, mb, uv, P, _⟩ := h; exact P.ok.le
  have PL := Lib.hid (fun (k : Nat) (hk : i + k < n) (W : World) (q : Qt w W) => (show Calls Tryd.prog 80 #[.agg #[.pointer (some ⟨b, 0, none⟩), .int .i64 (p : Int), .int .i64 (n : Int), .int .i64 (v : Int)], .int .i64 ((i : Int) + (k : Int))] W fun e w' => e = .returned (.string ⟨(J.payN (J.secs d p v) (i + k)).toArray⟩) ∧ Qt W w' from by
    have h := jpayload_any ad (hE.kept q (OffErrs.none ad)) (hT.qt q) (DiskAt.qt h q) ho p n v (i + k) h1 h2 hn hk
    rw [Int.natCast_add] at h
    exact h))
  have hnb : n ≤ 65536 := by omega
  clear h hE hT ho h1 h2 hn hl
  obtain ⟨WA, hWA, QA, hb⟩ := place_new w b p n v
  have HWA := Lib.hid hWA
  have HQA := Lib.hid QA
  have HB := Lib.hid hb
  obtain ⟨d0, d1, d2, d3⟩ := place_cells hb
  generalize J.secs d p v = s at *
  have P0 := PL.out 0 hi WA QA
  rw [Nat.add_zero, Int.natCast_zero, Int.add_zero] at P0
  obtain ⟨X, hX, hXl⟩ : ∃ X : ByteArray, X = ⟨(J.payN s i).toArray⟩ ∧ X.data.toList = J.payN s i := ⟨_, rfl, rfl⟩
  have hXs : X.size = (J.payN s i).length := by rw [← hXl]; simp
  rw [← hX] at P0
  have SZ := Lib.hid (fun W => jsizeIn_any X W)
  rw [hXl] at SZ
  have wni : wrap64 ((n : Int) - (i : Int)) = (n : Int) - (i : Int) := by unfold wrap64; omega
  have HNB := Lib.hid hnb
  have HIN := Lib.hid hi
  by_cases h5 : X.size < 5
  · have FIN := Lib.hid (show recJV (J.rec s n i) = .tuple #[.string ⟨#[]⟩, .bool false] by rw [J.rec_few (by rw [← hXs]; exact h5)]; rfl)
    rw [if_pos h5, decide_eq_false (show ¬ 5 ≤ X.size by omega)] at SZ
    clear hX hXl hXs h5 hWA QA hb hi hnb
    unfold placeV
    go_enter Tryd.func57, Tryd.ntmps57
    go_wp2_with fail
    rw [HWA.out]
    go_wp2_with fail
    refine P0.mono ?_
    rintro e w1 ⟨rfl, q1⟩
    have Q1 := Lib.hid q1
    clear q1 P0 d0 d1 d2 d3
    go_wp2_with fail
    refine (SZ.out _).mono ?_
    rintro e w2 ⟨rfl, q2⟩
    have Q2 := Lib.hid (Qt.trans HQA.out (Qt.trans Q1.out q2))
    clear q2
    go_wp2
    go_quiet (fail)
    go_wp2
    go_ret2
    exact ⟨FIN.out ▸ rfl, Keeps.drewN Q2.out _⟩
  · rw [if_neg h5, decide_eq_true (show 5 ≤ X.size by omega)] at SZ
    obtain ⟨z, hz⟩ : ∃ z, J.sizeOf (J.payN s i) = z := ⟨_, rfl⟩
    have hzl : z < 4294967296 := by rw [← hz]; exact J.size_lt _
    rw [hz] at SZ
    have CO := Lib.hid (fun W => jcost_nat z (by omega) W)
    have hcp := J.cost_pos z
    have hcb : J.cost z ≤ 4294967297 := by unfold J.cost; split <;> omega
    by_cases hw : n < i + J.cost z
    · have FIN := Lib.hid (show recJV (J.rec s n i) = .tuple #[.string ⟨#[]⟩, .bool false] by rw [J.rec_wide (by rw [hz]; exact hw)]; rfl)
      have zw : decide ((n : Int) - (i : Int) < ((J.cost z : Nat) : Int)) = true := decide_eq_true (by omega)
      generalize J.cost z = C at *
      clear hX hXl hXs h5 hWA QA hb hi hnb hz hzl hcp hcb hw
      unfold placeV
      go_enter Tryd.func57, Tryd.ntmps57
      go_wp2_with fail
      rw [HWA.out]
      go_wp2_with fail
      refine P0.mono ?_
      rintro e w1 ⟨rfl, q1⟩
      have Q1 := Lib.hid q1
      clear q1 P0 d0 d1 d2 d3
      go_wp2_with fail
      refine (SZ.out _).mono ?_
      rintro e w2 ⟨rfl, q2⟩
      have Q12 := Qt.trans Q1.out q2
      obtain ⟨x0, x1, x2, x3⟩ := place_cells (place_qt HB.out Q12)
      have Q2 := Lib.hid (Qt.trans HQA.out Q12)
      clear q2 Q12
      go_wp2
      go_quiet ((go_at_call 19; with_reducible exact Calls.quiet_of_same (CO.out _)))
      go_wp2
      go_ret2
      exact ⟨FIN.out ▸ rfl, Keeps.drewN Q2.out _⟩
    · have zw : decide ((n : Int) - (i : Int) < ((J.cost z : Nat) : Int)) = false := decide_eq_false (by omega)
      have hzb := costJ_bound (z := z) (n := n) (i := i) (by omega) hnb
      obtain ⟨C, hC⟩ : ∃ C, J.cost z = C := ⟨_, rfl⟩
      have HC := Lib.hid hC
      have HCN := Lib.hid (show i + C ≤ n by omega)
      have HZB := Lib.hid hzb
      have HZ := Lib.hid hz
      have HZL := Lib.hid hzl
      have HX := Lib.hid hX
      have FAL := Lib.hid (fun (k : Nat) (hk : k < C) (hbad : ∀ t, t.length = J.upto z k - J.ends k → J.payN s (i + k) ≠ J.headZ z k ++ t) => (show recJV (J.rec s n i) = .tuple #[.string ⟨#[]⟩, .bool false] by rw [J.rec_other hz (by rw [hC]; exact hk) hbad]; rfl))
      rw [hC] at CO zw
      clear hX hXl hXs h5 hWA QA hb hi hnb hz hzl hcp hcb hw hC hzb
      unfold placeV
      go_enter Tryd.func57, Tryd.ntmps57
      go_wp2_with fail
      rw [HWA.out]
      go_wp2_with fail
      refine P0.mono ?_
      rintro e w1 ⟨rfl, q1⟩
      have Q1 := Lib.hid q1
      clear q1 P0 d0 d1 d2 d3
      go_wp2_with fail
      refine (SZ.out _).mono ?_
      rintro e w2 ⟨rfl, q2⟩
      have Q12 := Qt.trans Q1.out q2
      obtain ⟨x0, x1, x2, x3⟩ := place_cells (place_qt HB.out Q12)
      have Q2 := Lib.hid Q12
      clear q2 Q12
      go_wp2
      go_quiet ((go_at_call 19; with_reducible exact Calls.quiet_of_same (CO.out _)))
      clear x0 x1 x2 x3 zw wni
      obtain ⟨w3, hw3⟩ : ∃ W, w2.drewN nq = W := ⟨_, rfl⟩
      rw [hw3]
      have Q3 := Lib.hid (show Qt WA w3 from hw3 ▸ Keeps.drewN Q2.out nq)
      clear hw3
      have HBK := Lib.hid (heap_alloc_new w3 (.cells #[.pointer none, .slice none 0 0] 98))
      have BB0 := Lib.hid ((Below.refl w3.heap.size w3).alloc (Nat.le_refl _) (.cells #[.pointer none, .slice none 0 0] 98))
      go_wp2_with fail
      refine (Tryd.Builder_Grow_fresh w3.heap.size w3.heap.size z _ (Nat.le_refl _) HBK.out (by simp) (Nat.le_trans HZB.out (by decide))).mono ?_
      rintro e w4 ⟨rfl, hb1, hB1⟩
      have HB1 := Lib.hid hb1
      have HB2 := Lib.hid (BB0.out.trans hB1)
      clear hb1 hB1
      go_wp2_with fail
      refine (CO.out _).mono ?_
      rintro e w5 ⟨rfl, rfl⟩
      go_wp2
      go_loopw [6, 38] (fun pv iv wr => RCAt w3 s i z pv iv wr) (fun _ iv _ => C - (intOf iv).toNat)
      case atStart => exact ⟨0, [], X, Nat.zero_le _, rfl, rfl, fun _ => HX.out, J.Got.none s i z, HB1.out, HB2.out⟩
      case round =>
        obtain ⟨k, o, T, hk, rfl, rfl, hT0, hgot, hbr, hBr⟩ := hrel
        have hQ := Qt.of_below hBr
        have HQ := Lib.hid (Qt.trans Q3.out hQ)
        rw [HC.out] at hk
        by_cases hlt : k < C
        · have hkb : k ≤ 65536 := sj_kb hlt HCN.out HNB.out
          have BN := Lib.hid (jbounds_any z k hkb)
          have HD := Lib.hid (fun W => jhead_any z k (sj_u64 (Nat.le_trans HZB.out (by decide))) W)
          have hue := J.upto_ge (z := z) (k := k) (by rw [HC.out]; exact hlt)
          have hul := J.upto_le z k
          obtain ⟨P, hP, hPl⟩ : ∃ P : ByteArray, P = ⟨(J.payN s (i + k)).toArray⟩ ∧ P.data.toList = J.payN s (i + k) := ⟨_, rfl, rfl⟩
          obtain ⟨H, hH, hHl⟩ : ∃ H : ByteArray, H = ⟨(J.headZ z k).toArray⟩ ∧ H.data.toList = J.headZ z k := ⟨_, rfl, rfl⟩
          have zlt := sj_lt hlt
          have zlt' : decide (k < C) = true := decide_eq_true hlt
          have hk1 := sj_w1 hkb
          have hki := sj_w2 (sj_ib HCN.out HNB.out) hkb
          have wue := sj_sub hue hul (Nat.le_trans HZB.out (by decide))
          have PK := PL.out k (sj_room hlt HCN.out) wr (Qt.trans HQA.out HQ.out)
          rw [← hP] at PK
          rw [← hH] at HD
          have hol := sj_ol hgot.len
          have MORE := Lib.hid (fun (t : List UInt8) (ht : J.payN s (i + k) = J.headZ z k ++ t) (hl : t.length = J.upto z k - J.ends k) => hgot.more (by rw [HC.out]; exact hlt) (J.got_first ht) hl)
          have HLT := Lib.hid hlt
          have HBR := Lib.hid hbr
          have HBW := Lib.hid hBr
          have HT0 := Lib.hid hT0
          have HPP := Lib.hid hP
          have HXX := Lib.hid (show ∀ k0 : k = 0, T = P from fun k0 => by rw [hT0 k0, hP, k0, Nat.add_zero])
          obtain ⟨x0, x1, x2, x3⟩ := place_cells (place_qt HB.out HQ.out)
          have FALk := Lib.hid (FAL.out k hlt)
          by_cases hk0 : k = 0
          · have e0 := (HXX.out hk0).symm
            subst e0
            obtain ⟨zk0, zk0'⟩ := sj_pos0 hk0
            clear hk0
            cases hp : Lib.hasPrefix P.data.toList H.data.toList with
            | false =>
              have CU := Lib.hid (fun W => cut_no P H W hp)
              have FN := Lib.hid (FALk.out (fun t _ => by rw [hPl, hHl] at hp; exact prefix_no hp t))
              clear hp
              clear hPl hHl hH hol hue hul hkb hlt hk hT0 hgot hbr hBr hQ hP
              have Q6 := Lib.hid (Qt.refl wr)
              clear x0 x1 x2 x3 PK
              go_wp2_with fail
              refine (BN.out _).mono ?_
              rintro e5 w7 ⟨rfl, rfl⟩
              go_wp2_with fail
              refine (HD.out _).mono ?_
              rintro e6 w8 ⟨rfl, q8⟩
              have Q8 := Lib.hid (Qt.trans Q6.out q8)
              clear q8
              go_wp2_with fail
              refine (CU.out _).mono ?_
              rintro e7 w9 ⟨rfl, rfl⟩
              have FQ := Lib.hid (Qt.trans HQA.out (Qt.trans HQ.out Q8.out))
              go_wp2
              go_ret2
              exact ⟨FN.out ▸ rfl, FQ.out⟩
            | true =>
              have CU := Lib.hid (fun W => cut_yes P H W hp)
              have hpt := prefix_yes hp
              rw [hPl, hHl] at hpt
              rw [hHl, hPl] at CU
              obtain ⟨t, ht⟩ : ∃ t, (J.payN s (i + k)).drop (J.headZ z k).length = t := ⟨_, rfl⟩
              rw [ht] at hpt CU
              obtain ⟨Y, hY, hYl⟩ : ∃ Y : ByteArray, Y = ⟨t.toArray⟩ ∧ Y.data.toList = t := ⟨_, rfl, rfl⟩
              have hYs : Y.size = t.length := by rw [← hYl]; simp
              rw [← hY] at CU
              by_cases hlen : t.length = J.upto z k - J.ends k
              · have zp := sj_ne (hYs.trans hlen)
                have GOT := Lib.hid (MORE.out t hpt hlen)
                have hbd : (Lib.byteCells o).length + Y.size ≤ 140737488355328 := by rw [Lib.byteCells_length]; exact sj_bd hol (hYs.trans hlen) hul (Nat.le_trans HZB.out (by decide))
                have HY := Lib.hid (show Lib.byteCells o ++ Lib.strCells Y = Lib.byteCells (o ++ t) by rw [Lib.byteCells_append, ← hYl]; rfl)
                clear hp hpt ht hY hYl hYs hlen
                clear hPl hHl hH hol hue hul hkb hlt hk hT0 hgot hbr hBr hQ hP
                have Q6 := Lib.hid (Qt.refl wr)
                clear x0 x1 x2 x3 PK
                go_wp2_with fail
                refine (BN.out _).mono ?_
                rintro e5 w7 ⟨rfl, rfl⟩
                go_wp2_with fail
                refine (HD.out _).mono ?_
                rintro e6 w8 ⟨rfl, q8⟩
                have Q8 := Lib.hid (Qt.trans Q6.out q8)
                clear q8
                go_wp2_with fail
                refine (CU.out _).mono ?_
                rintro e7 w9 ⟨rfl, rfl⟩
                have BD := Lib.hid (HBW.out.trans (Keeps.below Q8.out HBW.out.size (fun _ _ e => e.elim)))
                have TD := Lib.hid (builder_qt HBR.out Q8.out)
                go_wp2_with fail
                refine (bwriteS_any w3.heap.size w3.heap.size (Lib.byteCells o) Y _ TD.out hbd BD.out.size).mono ?_
                rintro e8 wz ⟨rfl, hb8, hB8⟩
                rw [HY.out] at hb8
                have FN := Lib.hid (show RCAt w3 s i z (.string P) (.int .i64 ((k : Int) + 1)) wz from ⟨k + 1, _, _, by rw [HC.out]; exact HLT.out, rfl, rfl, fun e => absurd e (Nat.succ_ne_zero k), GOT.out, hb8, BD.out.trans hB8⟩)
                clear hb8 hB8
                go_wp2
                rw [hk1]
                exact ⟨FN.out, sj_meas HLT.out⟩
              · have zp := sj_ne' (fun e => hlen (hYs.symm.trans e))
                have FN := Lib.hid (FALk.out (fun t2 ht2 e => hlen (by rw [hpt] at e; rw [List.append_cancel_left e]; exact ht2)))
                clear hp hpt ht hY hYl hYs hlen
                clear hPl hHl hH hol hue hul hkb hlt hk hT0 hgot hbr hBr hQ hP
                have Q6 := Lib.hid (Qt.refl wr)
                clear x0 x1 x2 x3 PK
                go_wp2_with fail
                refine (BN.out _).mono ?_
                rintro e5 w7 ⟨rfl, rfl⟩
                go_wp2_with fail
                refine (HD.out _).mono ?_
                rintro e6 w8 ⟨rfl, q8⟩
                have Q8 := Lib.hid (Qt.trans Q6.out q8)
                clear q8
                go_wp2_with fail
                refine (CU.out _).mono ?_
                rintro e7 w9 ⟨rfl, rfl⟩
                have FQ := Lib.hid (Qt.trans HQA.out (Qt.trans HQ.out Q8.out))
                go_wp2
                go_ret2
                exact ⟨FN.out ▸ rfl, FQ.out⟩
          · obtain ⟨zk0, zk0'⟩ := sj_pos1 hk0
            clear hk0
            cases hp : Lib.hasPrefix P.data.toList H.data.toList with
            | false =>
              have CU := Lib.hid (fun W => cut_no P H W hp)
              have FN := Lib.hid (FALk.out (fun t _ => by rw [hPl, hHl] at hp; exact prefix_no hp t))
              clear hp
              clear hPl hHl hH hol hue hul hkb hlt hk hT0 hgot hbr hBr hQ hP
              go_wp2_with fail
              refine PK.mono ?_
              rintro e4 w6 ⟨rfl, q6⟩
              have Q6 := Lib.hid q6
              clear q6 PK x0 x1 x2 x3
              go_wp2_with fail
              refine (BN.out _).mono ?_
              rintro e5 w7 ⟨rfl, rfl⟩
              go_wp2_with fail
              refine (HD.out _).mono ?_
              rintro e6 w8 ⟨rfl, q8⟩
              have Q8 := Lib.hid (Qt.trans Q6.out q8)
              clear q8
              go_wp2_with fail
              refine (CU.out _).mono ?_
              rintro e7 w9 ⟨rfl, rfl⟩
              have FQ := Lib.hid (Qt.trans HQA.out (Qt.trans HQ.out Q8.out))
              go_wp2
              go_ret2
              exact ⟨FN.out ▸ rfl, FQ.out⟩
            | true =>
              have CU := Lib.hid (fun W => cut_yes P H W hp)
              have hpt := prefix_yes hp
              rw [hPl, hHl] at hpt
              rw [hHl, hPl] at CU
              obtain ⟨t, ht⟩ : ∃ t, (J.payN s (i + k)).drop (J.headZ z k).length = t := ⟨_, rfl⟩
              rw [ht] at hpt CU
              obtain ⟨Y, hY, hYl⟩ : ∃ Y : ByteArray, Y = ⟨t.toArray⟩ ∧ Y.data.toList = t := ⟨_, rfl, rfl⟩
              have hYs : Y.size = t.length := by rw [← hYl]; simp
              rw [← hY] at CU
              by_cases hlen : t.length = J.upto z k - J.ends k
              · have zp := sj_ne (hYs.trans hlen)
                have GOT := Lib.hid (MORE.out t hpt hlen)
                have hbd : (Lib.byteCells o).length + Y.size ≤ 140737488355328 := by rw [Lib.byteCells_length]; exact sj_bd hol (hYs.trans hlen) hul (Nat.le_trans HZB.out (by decide))
                have HY := Lib.hid (show Lib.byteCells o ++ Lib.strCells Y = Lib.byteCells (o ++ t) by rw [Lib.byteCells_append, ← hYl]; rfl)
                clear hp hpt ht hY hYl hYs hlen
                clear hPl hHl hH hol hue hul hkb hlt hk hT0 hgot hbr hBr hQ hP
                go_wp2_with fail
                refine PK.mono ?_
                rintro e4 w6 ⟨rfl, q6⟩
                have Q6 := Lib.hid q6
                clear q6 PK x0 x1 x2 x3
                go_wp2_with fail
                refine (BN.out _).mono ?_
                rintro e5 w7 ⟨rfl, rfl⟩
                go_wp2_with fail
                refine (HD.out _).mono ?_
                rintro e6 w8 ⟨rfl, q8⟩
                have Q8 := Lib.hid (Qt.trans Q6.out q8)
                clear q8
                go_wp2_with fail
                refine (CU.out _).mono ?_
                rintro e7 w9 ⟨rfl, rfl⟩
                have BD := Lib.hid (HBW.out.trans (Keeps.below Q8.out HBW.out.size (fun _ _ e => e.elim)))
                have TD := Lib.hid (builder_qt HBR.out Q8.out)
                go_wp2_with fail
                refine (bwriteS_any w3.heap.size w3.heap.size (Lib.byteCells o) Y _ TD.out hbd BD.out.size).mono ?_
                rintro e8 wz ⟨rfl, hb8, hB8⟩
                rw [HY.out] at hb8
                have FN := Lib.hid (show RCAt w3 s i z (.string P) (.int .i64 ((k : Int) + 1)) wz from ⟨k + 1, _, _, by rw [HC.out]; exact HLT.out, rfl, rfl, fun e => absurd e (Nat.succ_ne_zero k), GOT.out, hb8, BD.out.trans hB8⟩)
                clear hb8 hB8
                go_wp2
                rw [hk1]
                exact ⟨FN.out, sj_meas HLT.out⟩
              · have zp := sj_ne' (fun e => hlen (hYs.symm.trans e))
                have FN := Lib.hid (FALk.out (fun t2 ht2 e => hlen (by rw [hpt] at e; rw [List.append_cancel_left e]; exact ht2)))
                clear hp hpt ht hY hYl hYs hlen
                clear hPl hHl hH hol hue hul hkb hlt hk hT0 hgot hbr hBr hQ hP
                go_wp2_with fail
                refine PK.mono ?_
                rintro e4 w6 ⟨rfl, q6⟩
                have Q6 := Lib.hid q6
                clear q6 PK x0 x1 x2 x3
                go_wp2_with fail
                refine (BN.out _).mono ?_
                rintro e5 w7 ⟨rfl, rfl⟩
                go_wp2_with fail
                refine (HD.out _).mono ?_
                rintro e6 w8 ⟨rfl, q8⟩
                have Q8 := Lib.hid (Qt.trans Q6.out q8)
                clear q8
                go_wp2_with fail
                refine (CU.out _).mono ?_
                rintro e7 w9 ⟨rfl, rfl⟩
                have FQ := Lib.hid (Qt.trans HQA.out (Qt.trans HQ.out Q8.out))
                go_wp2
                go_ret2
                exact ⟨FN.out ▸ rfl, FQ.out⟩
        · obtain rfl := sj_eq hk hlt
          have zlt := sj_ge (Nat.le_refl k)
          have FN := Lib.hid (show recJV (J.rec s n i) = .tuple #[.string ⟨o.toArray⟩, .bool true] by
            have := (J.Got.all (n := n) (HC.out ▸ hgot) HZL.out (by rw [HC.out]; exact HCN.out)).2
            rw [this]; rfl)
          have HS := Lib.hid (Tryd.Builder_String_any w3.heap.size w3.heap.size _ wr (.inr hbr) hBr.size)
          have HBR := Lib.hid hBr
          clear hbr hBr hlt hgot hk hQ hT0
          go_wp2_with fail
          refine HS.out.mono ?_
          rintro e wz ⟨rfl, hB2⟩
          have Q2' := Lib.hid (Qt.trans HQA.out (Qt.trans Q3.out (Qt.of_below (HBR.out.trans hB2))))
          clear hB2
          go_wp2
          go_ret2
          exact ⟨FN.out ▸ rfl, Q2'.out⟩
end Go.Proofs.YtggogaaooacooaaDoor
