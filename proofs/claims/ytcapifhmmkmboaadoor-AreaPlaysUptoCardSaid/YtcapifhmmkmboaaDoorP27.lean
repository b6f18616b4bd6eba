/-
  The contracts of area's pieceSize, Room, Sectors and refuse.
  The contract of remitref09.Write.
-/
import Derived.Test.YtcapifhmmkmboaaDoorP24
import Derived.Test.YtcapifhmmkmboaaDoorP10
import Derived.Test.YtcapifhmmkmboaaDoorP21
import Derived.Test.YtcapifhmmkmboaaDoorP26
import Derived.Test.YtcapifhmmkmboaaDoorP18
namespace Go.Proofs.YtcapifhmmkmboaaDoor
open Go.RowKit Go.WideShapes
set_option maxRecDepth 100000

theorem apiece_any (z k : Nat) (h : k * 234 < z) (hz : z ≤ 15335424) (w : World) : Calls Tryd.prog 39 #[.int .i64 z, .int .i64 k] w fun e w' => e = .returned (.int .i64 ((min 234 (z - k * 234) : Nat) : Int)) ∧ w' = w := by
  have z1 : wrap64 ((k : Int) * 234) = (k : Int) * 234 := by unfold wrap64; omega
  have z2 : wrap64 ((z : Int) - (k : Int) * 234) = (z : Int) - (k : Int) * 234 := by unfold wrap64; omega
  have z3 : min 234 ((z : Int) - (k : Int) * 234) = ((min 234 (z - k * 234) : Nat) : Int) := by omega
  clear h hz
  generalize min 234 (z - k * 234) = m at *
  go_enter Tryd.func39, Tryd.ntmps39
  go_wp2
  go_ret
  exact ⟨rfl, rfl⟩
theorem aroom_any : ARoomH := by
  intro n w
  have z1 : wrap64 (234 * min (max n 0) 65536) = 234 * min (max n 0) 65536 := by unfold wrap64; omega
  have FIN := Lib.hid (show 234 * min (max n 0) 65536 = roomZ n from rfl)
  go_enter Tryd.func9, Tryd.ntmps9
  go_wp2
  go_ret
  exact ⟨by rw [← FIN.out]; rfl, rfl⟩
theorem asecs_any : ASecsH := by
  intro x w hx
  by_cases h0 : x ≤ 0
  · have FIN := Lib.hid (show secsZ x = 0 from if_pos h0)
    go_enter Tryd.func8, Tryd.ntmps8
    go_wp2
    go_ret
    exact ⟨by rw [FIN.out]; rfl, rfl⟩
  · have FIN := Lib.hid (show secsZ x = (x - 1) / 234 + 1 from if_neg h0)
    have z0 : decide (x ≤ 0) = false := decide_eq_false h0
    have z1 : wrap64 (x - 1) = x - 1 := by unfold wrap64; omega
    have z2 : (x - 1).tdiv 234 = (x - 1) / 234 := Int.tdiv_eq_ediv_of_nonneg (by omega)
    have z3 : wrap64 ((x - 1) / 234 + 1) = (x - 1) / 234 + 1 := by unfold wrap64; omega
    go_enter Tryd.func8, Tryd.ntmps8
    go_wp2
    go_ret
    exact ⟨by rw [FIN.out]; rfl, rfl⟩

/-- What refuse tells: an error's number. -/
def DS.refN (d : DS) (i n : Int) (st : Nat) (z : Int) : Nat := if ¬ d.mayA i n st ∨ z < 0 then 6 else if 234 * min n.toNat 65536 < z.toNat then 3 else if d.off = true then 12 else 0
theorem arefuse_any (ad : Nat → Addr) {w : World} {b : Nat} {d : DS} {S : Nat → Prop} (hE : Errs ad w) (h : DiskAt w b d S) (i n : Int) (st : Nat) (z : Int) (hn : n ≤ 9223372036854775807) :
    Calls Tryd.prog 37 #[.pointer (some ⟨b, 0, none⟩), .int .i64 i, .int .i64 n, .int .u64 st, .int .i64 z] w fun e w' => e = .returned (errV ad (d.refN i n st z)) ∧ w' = w := by
  have SZ := size_any h
  have OF := off_any h
  have hl : d.dur.length ≤ 65536 := by obtain ⟨gd, mb, uv, h, _⟩ := h; exact h.ok.le
  have e6 : w.cell? ⟨0, 0, none⟩ = some (.iface 111 (.pointer (some (ad 6)))) := hE.cells 5 _ rfl
  have e3 : w.cell? ⟨4, 0, none⟩ = some (.iface 111 (.pointer (some (ad 3)))) := hE.cells 2 _ rfl
  have e12 : w.cell? ⟨3, 0, none⟩ = some (.iface 111 (.pointer (some (ad 12)))) := hE.cells 11 _ rfl
  clear hE h
  have RM := aroom_any n
  rw [roomZ_nat] at RM
  by_cases c0 : i < 0
  · have FIN := Lib.hid (show d.refN i n st z = 6 from if_pos (.inl (fun k => by have q := k.1; omega)))
    have y0 : decide (i < 0) = true := decide_eq_true c0
    clear hl hn
    generalize 234 * min n.toNat 65536 = R at *
    generalize d.dur.length = L at *
    go_enter Tryd.func37, Tryd.ntmps37
    go_wp2
    go_ret
    exact ⟨by rw [FIN.out]; rfl, rfl⟩
  · skip
    by_cases c1 : n < 0
    · have FIN := Lib.hid (show d.refN i n st z = 6 from if_pos (.inl (fun k => by have q := k.2.1; omega)))
      have y0 : decide (i < 0) = false := decide_eq_false c0
      have y1 : decide (n < 0) = true := decide_eq_true c1
      clear hl hn
      generalize 234 * min n.toNat 65536 = R at *
      generalize d.dur.length = L at *
      go_enter Tryd.func37, Tryd.ntmps37
      go_wp2
      go_ret
      exact ⟨by rw [FIN.out]; rfl, rfl⟩
    · skip
      by_cases c2 : (d.dur.length : Int) - n < i
      · have FIN := Lib.hid (show d.refN i n st z = 6 from if_pos (.inl (fun k => by have q := k.2.2.2.1; omega)))
        have y0 : decide (i < 0) = false := decide_eq_false c0
        have y1 : decide (n < 0) = false := decide_eq_false c1
        have w2 : wrap64 ((d.dur.length : Int) - n) = (d.dur.length : Int) - n := by unfold wrap64; omega
        have y2 : decide ((d.dur.length : Int) - n < i) = true := decide_eq_true c2
        clear hl hn
        generalize 234 * min n.toNat 65536 = R at *
        generalize d.dur.length = L at *
        go_enter Tryd.func37, Tryd.ntmps37
        go_wp2_with fail
        refine SZ.mono ?_
        rintro e w1 ⟨rfl, rfl⟩
        go_wp2
        go_ret
        exact ⟨by rw [FIN.out]; rfl, rfl⟩
      · skip
        by_cases c3 : st = 0
        · have FIN := Lib.hid (show d.refN i n st z = 6 from if_pos (.inl (fun k => by have q := k.2.2.2.2; omega)))
          subst c3
          have y0 : decide (i < 0) = false := decide_eq_false c0
          have y1 : decide (n < 0) = false := decide_eq_false c1
          have w2 : wrap64 ((d.dur.length : Int) - n) = (d.dur.length : Int) - n := by unfold wrap64; omega
          have y2 : decide ((d.dur.length : Int) - n < i) = false := decide_eq_false c2
          clear hl hn
          generalize 234 * min n.toNat 65536 = R at *
          generalize d.dur.length = L at *
          go_enter Tryd.func37, Tryd.ntmps37
          go_wp2_with fail
          refine SZ.mono ?_
          rintro e w1 ⟨rfl, rfl⟩
          go_wp2
          go_ret
          exact ⟨by rw [FIN.out]; rfl, rfl⟩
        · skip
          by_cases c4 : z < 0
          · have FIN := Lib.hid (show d.refN i n st z = 6 from if_pos (.inr c4))
            have y0 : decide (i < 0) = false := decide_eq_false c0
            have y1 : decide (n < 0) = false := decide_eq_false c1
            have w2 : wrap64 ((d.dur.length : Int) - n) = (d.dur.length : Int) - n := by unfold wrap64; omega
            have y2 : decide ((d.dur.length : Int) - n < i) = false := decide_eq_false c2
            have y3 : ((st : Int) == 0) = false := by rw [beq_eq_false_iff_ne]; omega
            have y4 : decide (z < 0) = true := decide_eq_true c4
            clear hl hn
            generalize 234 * min n.toNat 65536 = R at *
            generalize d.dur.length = L at *
            go_enter Tryd.func37, Tryd.ntmps37
            go_wp2_with fail
            refine SZ.mono ?_
            rintro e w1 ⟨rfl, rfl⟩
            go_wp2
            go_ret
            exact ⟨by rw [FIN.out]; rfl, rfl⟩
          · skip
            have hnot : ¬ (¬ d.mayA i n st ∨ z < 0) := (fun k => by rcases k with k | k; exact k ⟨by omega, by omega, by omega, by omega, c3⟩; omega)
            obtain ⟨z, rfl⟩ := Int.eq_ofNat_of_zero_le (show 0 ≤ z by omega)
            have y0 : decide (i < 0) = false := decide_eq_false c0
            have y1 : decide (n < 0) = false := decide_eq_false c1
            have w2 : wrap64 ((d.dur.length : Int) - n) = (d.dur.length : Int) - n := by unfold wrap64; omega
            have y2 : decide ((d.dur.length : Int) - n < i) = false := decide_eq_false c2
            have y3 : ((st : Int) == 0) = false := by rw [beq_eq_false_iff_ne]; omega
            have y4 : decide ((z : Int) < 0) = false := decide_eq_false c4
            by_cases c5 : 234 * min n.toNat 65536 < z
            · have FIN := Lib.hid (show d.refN i n st z = 3 from (if_neg hnot).trans (if_pos (by rw [Int.toNat_natCast]; exact c5)))
              have y5 : decide (((234 * min n.toNat 65536 : Nat) : Int) < (z : Int)) = true := decide_eq_true (by omega)
              have y6 : decide (234 * min n.toNat 65536 < z) = true := decide_eq_true c5
              clear hnot c0 c1 c2 c3 c4 c5
              clear hl hn
              generalize 234 * min n.toNat 65536 = R at *
              generalize d.dur.length = L at *
              go_enter Tryd.func37, Tryd.ntmps37
              go_wp2_with fail
              refine SZ.mono ?_
              rintro e w1 ⟨rfl, rfl⟩
              go_wp2_with fail
              refine (RM _).mono ?_
              rintro e w1 ⟨rfl, rfl⟩
              go_wp2
              go_ret
              exact ⟨by rw [FIN.out]; rfl, rfl⟩
            · have y5 : decide (((234 * min n.toNat 65536 : Nat) : Int) < (z : Int)) = false := decide_eq_false (by omega)
              have y6 : decide (234 * min n.toNat 65536 < z) = false := decide_eq_false c5
              cases c6 : d.off with
              | true =>
                rw [c6] at OF
                have FIN := Lib.hid (show d.refN i n st z = 12 from (if_neg hnot).trans ((if_neg (by rw [Int.toNat_natCast]; exact c5)).trans (if_pos c6)))
                clear hnot c0 c1 c2 c3 c4 c5 c6
                clear hl hn
                generalize 234 * min n.toNat 65536 = R at *
                generalize d.dur.length = L at *
                go_enter Tryd.func37, Tryd.ntmps37
                go_wp2_with fail
                refine SZ.mono ?_
                rintro e w1 ⟨rfl, rfl⟩
                go_wp2_with fail
                refine (RM _).mono ?_
                rintro e w1 ⟨rfl, rfl⟩
                go_wp2_with fail
                refine OF.mono ?_
                rintro e w1 ⟨rfl, rfl⟩
                go_wp2
                go_ret
                exact ⟨by rw [FIN.out]; rfl, rfl⟩
              | false =>
                rw [c6] at OF
                have FIN := Lib.hid (show d.refN i n st z = 0 from (if_neg hnot).trans ((if_neg (by rw [Int.toNat_natCast]; exact c5)).trans (if_neg (by rw [c6]; simp))))
                clear hnot c0 c1 c2 c3 c4 c5 c6
                clear hl hn
                generalize 234 * min n.toNat 65536 = R at *
                generalize d.dur.length = L at *
                go_enter Tryd.func37, Tryd.ntmps37
                go_wp2_with fail
                refine SZ.mono ?_
                rintro e w1 ⟨rfl, rfl⟩
                go_wp2_with fail
                refine (RM _).mono ?_
                rintro e w1 ⟨rfl, rfl⟩
                go_wp2_with fail
                refine OF.mono ?_
                rintro e w1 ⟨rfl, rfl⟩
                go_wp2
                go_ret
                exact ⟨by rw [FIN.out]; rfl, rfl⟩
end Go.Proofs.YtcapifhmmkmboaaDoor
namespace Go.Proofs.YtcapifhmmkmboaaDoor
open Go.RowKit Go.WideShapes
set_option maxRecDepth 100000

/-- No count is above m. -/
structure DS.FewN (m : Nat) (d : DS) : Prop where
  ways : d.ways.length ≤ m
  wr : d.wr ≤ m
  fl : d.fl ≤ m
  cr : d.cr ≤ m
theorem DS.FewN.few {m : Nat} {d : DS} (h : d.FewN m) (hm : m ≤ 1073741824) : d.Few := ⟨Nat.le_trans h.ways hm, Nat.le_trans h.wr (Nat.le_trans hm (by decide)), Nat.le_trans h.fl (Nat.le_trans hm (by decide)), Nat.le_trans h.cr (Nat.le_trans hm (by decide))⟩
theorem DS.FewN.mono {m n : Nat} {d : DS} (h : d.FewN m) (hm : m ≤ n) : d.FewN n := ⟨Nat.le_trans h.ways hm, Nat.le_trans h.wr hm, Nat.le_trans h.fl hm, Nat.le_trans h.cr hm⟩
theorem DS.FewN.write {m : Nat} {d : DS} (h : d.FewN m) (i : Int) (s : List UInt8) : (d.writeD i s).FewN (m + 1) := by
  have h1 := h.ways; have h2 := h.wr; have h3 := h.fl; have h4 := h.cr
  unfold DS.writeD
  split
  · exact h.mono (by omega)
  · split
    · exact h.mono (by omega)
    · split
      · exact ⟨by simp; omega, by simp only; omega, by simp only; omega, by simp only; omega⟩
      · exact ⟨by simp; omega, by simp only; omega, by simp only; omega, by simp only; omega⟩
theorem DS.FewN.flush {m : Nat} {d : DS} (h : d.FewN m) : d.flushD.FewN (m + 1) := by
  have h1 := h.ways; have h2 := h.wr; have h3 := h.fl; have h4 := h.cr
  unfold DS.flushD
  split
  · exact h.mono (by omega)
  · split
    · exact ⟨by simp only; omega, by simp only; omega, by simp only; omega, by simp only; omega⟩
    · exact ⟨by simp, by simp only; omega, by simp only; omega, by simp only; omega⟩
theorem DS.FewN.go {st i : Nat} {v : List UInt8} : ∀ (m k : Nat) {f : Nat} {d : DS}, d.FewN f → (DS.areaGo i st v m k d).2.FewN (f + m + 1)
  | 0, k, f, d, h => h.flush
  | m + 1, k, f, d, h => by
    rw [DS.areaGo]
    split
    · exact (h.write _ _).mono (by omega)
    · exact (DS.FewN.go m (k + 1) (h.write _ _)).mono (by omega)

/-- A piece, as the text's part. -/
theorem piece_text (s : ByteArray) (k : Nat) (hk : k < V.nsec s.size) : (s.extract (k * 234) (min ((k + 1) * 234) s.size)).data.toList = V.piece s.data.toList k := by
  have hlt := V.nsec_lt hk
  have hl : s.data.toList.length = s.size := by simp
  rw [dslice]
  unfold V.piece
  by_cases h : (k + 1) * 234 ≤ s.size
  · rw [show min ((k + 1) * 234) s.size - k * 234 = 234 by omega]
  · rw [List.take_of_length_le (by rw [List.length_drop]; omega), List.take_of_length_le (by rw [List.length_drop]; omega)]
theorem slicePiece (s : ByteArray) (a e : Nat) (h1 : a ≤ e) (h2 : e ≤ s.size) (wx : World) : (Instr.slice 9 (.string s) (some (.int .i64 (a : Int))) (some (.int .i64 (e : Int))) none).run Tryd.prog wx = .ok (.string (s.extract a e)) wx := by
  have := run_slice_string (P := Tryd.prog) wx 9 s .i64 .i64 (a : Int) (e : Int) Tryd.underlying9 (by omega) (by omega) (by omega)
  rw [this, Int.toNat_natCast, Int.toNat_natCast]

/-- What the loop keeps. -/
def RefWAt (j : Nat) (w0 w : World) (b c : Nat) (d u : DS) (i st : Nat) (v : List UInt8) (f : Nat) (iv : Value) (wr : World) : Prop :=
  ∃ (k : Nat) (uk : DS), k ≤ V.nsec v.length ∧ iv = .int .i64 k ∧ Pair j w0 wr b c d uk ∧ DS.areaGo i st v (V.nsec v.length - k) k uk = DS.areaGo i st v (V.nsec v.length) 0 u ∧ uk.FewN (f + k) ∧ Keeps (fun k => k ≠ j) w wr ∧ uk.dur.length = u.dur.length

set_option maxHeartbeats 3200000 in
theorem refWrite9_any {w0 w : World} {j b c f : Nat} {d u : DS} (hj : j < w.heap.size) (h : Pair j w0 w b c d u) (hf : u.FewN f) (hf2 : f ≤ 1073000000) (i n : Int) (st : Nat) (hst : st < 18446744073709551616) (s : ByteArray) :
    Calls Tryd.prog 27 #[.pointer (some ⟨c, 0, none⟩), .int .i64 i, .int .i64 n, .int .u64 st, .string s] w fun e w' => e = .returned (.int .i64 (u.areaW i n st s.data.toList).1) ∧ Pair j w0 w' b c d (u.areaW i n st s.data.toList).2 ∧ Keeps (fun k => k ≠ j) w w' := by
  have PL := place_any h i n st
  have hl : s.data.toList.length = s.size := by simp
  by_cases hm : u.mayA i n st
  · rw [decide_eq_true hm] at PL
    have RM := refRoom_any n
    rw [roomZ_nat] at RM
    by_cases hr : 234 * min n.toNat 65536 < s.size
    · have FIN := Lib.hid (show u.areaW i n st s.data.toList = (3, u) by unfold DS.areaW; rw [if_neg (fun k => k hm), if_pos (by omega)])
      have HH := Lib.hid h
      have z0 : decide (((234 * min n.toNat 65536 : Nat) : Int) < (s.size : Int)) = true := decide_eq_true (by omega)
      have z0' : decide (234 * min n.toNat 65536 < s.size) = true := decide_eq_true (by omega)
      clear hm h hl
      generalize 234 * min n.toNat 65536 = R at *
      go_enter Tryd.func27, Tryd.ntmps27
      go_wp2_with fail
      refine PL.mono ?_
      rintro e w1 ⟨rfl, rfl⟩
      go_wp2_with fail
      refine (RM _).mono ?_
      rintro e w2 ⟨rfl, rfl⟩
      go_wp2
      go_ret
      exact ⟨by rw [FIN.out]; rfl, by rw [FIN.out]; exact HH.out, Keeps.refl _ _⟩
    · obtain ⟨i, rfl⟩ := Int.eq_ofNat_of_zero_le hm.1
      have FIN := Lib.hid (show u.areaW i n st s.data.toList = DS.areaGo i st s.data.toList (V.nsec s.data.toList.length) 0 u by unfold DS.areaW; rw [if_neg (fun k => k hm), if_neg (by omega), Int.toNat_natCast])
      have hz : s.size ≤ 15335424 := by omega
      have hK : V.nsec s.data.toList.length ≤ 65536 := by rw [hl]; unfold V.nsec; omega
      have hi : i ≤ 65536 := by
        have h1 := hm.2.2.1
        obtain ⟨S, T, _, ⟨sv, wv, P, _⟩, _⟩ := h
        have := P.ok.le
        omega
      have h0 := hm.2.2.2.2
      have START := Lib.hid (show RefWAt j w0 w b c d u i st s.data.toList f (.int .i64 0) w from ⟨0, u, Nat.zero_le _, rfl, h, rfl, hf, Keeps.refl _ _, rfl⟩)
      have SE := Lib.hid (refSeal_any st)
      have z0 : decide (((234 * min n.toNat 65536 : Nat) : Int) < (s.size : Int)) = false := decide_eq_false (by omega)
      have z0' : decide (234 * min n.toNat 65536 < s.size) = false := decide_eq_false (by omega)
      have HL := Lib.hid hl
      have HS := Lib.hid (show st ≠ 0 ∧ st < 18446744073709551616 from ⟨h0, hst⟩)
      clear hm h hf hr hst h0
      generalize 234 * min n.toNat 65536 = R at *
      go_enter Tryd.func27, Tryd.ntmps27
      go_wp2_with fail
      refine PL.mono ?_
      rintro e w1 ⟨rfl, rfl⟩
      go_wp2_with fail
      refine (RM _).mono ?_
      rintro e w2 ⟨rfl, rfl⟩
      go_wp2
      clear hl
      go_loopw [12] (fun iv wr => RefWAt j w0 w2 b c d u i st s.data.toList f iv wr) (fun iv _ => V.nsec s.data.toList.length - (intOf iv).toNat)
      case atStart => exact START.out
      case round =>
        obtain ⟨k, uk, hk, rfl, hP, hgo, hfk, hkeep, hdl⟩ := hrel
        have HP := Lib.hid hP
        have HK := Lib.hid hkeep
        have HF := Lib.hid hfk
        have HD := Lib.hid hdl
        have hjr : j < wr.heap.size := Nat.lt_of_lt_of_le hj hkeep.size
        by_cases hlt : k < V.nsec s.size
        · obtain ⟨m, hmm⟩ : ∃ m, V.nsec s.data.toList.length - k = m + 1 := ⟨V.nsec s.data.toList.length - k - 1, by rw [HL.out] at hk ⊢; omega⟩
          rw [hmm, DS.areaGo] at hgo
          have hm1 : V.nsec s.data.toList.length - (k + 1) = m := by omega
          have h234 := V.nsec_lt hlt
          obtain ⟨a, ha⟩ : ∃ a, k * 234 = a := ⟨_, rfl⟩
          obtain ⟨e, he⟩ : ∃ e, min ((k + 1) * 234) s.size = e := ⟨_, rfl⟩
          have hae : a ≤ e ∧ e ≤ s.size := by omega
          have PT := piece_text s k hlt
          have SL := slicePiece s a e hae.1 hae.2
          rw [ha, he] at PT
          obtain ⟨P, hP2⟩ : ∃ P, s.extract a e = P := ⟨_, rfl⟩
          rw [hP2] at PT SL
          have hpz : P.size ≤ 234 := by rw [← dlen7, PT]; exact V.piece_le _ _
          have S1 := SE.out P
          rw [show E.sealR st P.data.toList = (E.sct st (V.piece s.data.toList k), 0) by unfold E.sealR; rw [if_neg HS.out.1, if_neg (by rw [dlen7]; omega), PT]] at S1
          obtain ⟨Z, hZ⟩ : ∃ Z : ByteArray, Z = ⟨(E.sct st (V.piece s.data.toList k)).toArray⟩ := ⟨_, rfl⟩
          have hZl : strL Z = E.sct st (V.piece s.data.toList k) := by rw [hZ]; rfl
          have S2 := Lib.hid (show ∀ W, Calls Tryd.prog 49 #[.int .u64 st, .string P] W fun e w' => e = .returned (.tuple #[.string Z, .int .i64 0]) ∧ Qt W w' from fun W => by rw [hZ]; exact S1 W HS.out.2)
          have WR0 := fun W (q : Pair j w0 W b c d uk) (hj : j < W.heap.size) => pairR_write hj q (HF.out.few (by omega)) ((i + k : Nat) : Int) Z
          rw [hZl] at WR0
          have WR := Lib.hid (fun W (q : Pair j w0 W b c d uk) (hj : j < W.heap.size) => (show Calls Tryd.prog 33 #[.pointer (some ⟨c, 0, none⟩), .int .i64 ((i : Int) + (k : Int)), .string Z] W fun e w' => e = .returned (.int .i64 (uk.writeE ((i + k : Nat) : Int) (E.sct st (V.piece s.data.toList k)))) ∧ Pair j w0 w' b c d (uk.writeD ((i + k : Nat) : Int) (E.sct st (V.piece s.data.toList k))) ∧ Keeps (fun k => k ≠ j) W w' from by
            have h := WR0 W q hj
            rw [Int.natCast_add] at h ⊢
            exact h))
          have hai : ((k : Int)) * 234 = (a : Int) := by rw [← ha]; push_cast; rfl
          have hei : min (((k : Int) + 1) * 234) (s.size : Int) = (e : Int) := by rw [← he]; omega
          have hkb : (k : Int) ≤ 65536 := by omega
          have hib : (i : Int) ≤ 65536 := by omega
          have zlt : decide ((a : Int) < (s.size : Int)) = true := decide_eq_true (by omega)
          have zlt' : decide (a < s.size) = true := decide_eq_true (by omega)
          have HJ := Lib.hid hjr
          have HLT := Lib.hid hlt
          have HM := Lib.hid hm1
          have HGO := Lib.hid hgo
          clear WR0 hP hkeep hfk hdl hgo hmm hm1 PT S1 hZ hZl hP2 ha he h234 hpz hjr hlt
          go_wp2_with fail
          refine (S2.out wr).mono ?_
          rintro e3 w5 ⟨rfl, q5⟩
          have P5 := Lib.hid (HP.out.qt q5)
          have J5 := Lib.hid (Nat.lt_of_lt_of_le HJ.out q5.size)
          have K5 := Lib.hid (Keeps.trans HK.out q5 (fun _ _ e => e.elim))
          clear q5
          by_cases hE : uk.writeE ((i + k : Nat) : Int) (E.sct st (V.piece s.data.toList k)) = 0
          · have GO := HGO.out
            rw [if_neg (fun h => h hE)] at GO
            rw [hE] at WR
            have NXT := Lib.hid (fun W (q : Pair j w0 W b c d (uk.writeD ((i + k : Nat) : Int) (E.sct st (V.piece s.data.toList k)))) (kk : Keeps (fun k => k ≠ j) w2 W) => (show RefWAt j w0 w2 b c d u i st s.data.toList f (.int .i64 ((k : Int) + 1)) W from
              ⟨k + 1, _, by rw [HL.out]; exact HLT.out, by push_cast; rfl, q, by rw [HM.out]; exact GO, (HF.out.write _ _).mono (by omega), kk, (writeD_size _ _ _).trans HD.out⟩))
            have W5 := WR.out w5 P5.out J5.out
            clear GO hE
            go_wp2_with fail
            refine W5.mono ?_
            rintro e4 w6 ⟨rfl, p6, k6⟩
            have FN := Lib.hid (NXT.out w6 p6 (Keeps.trans K5.out k6 (fun _ _ e => e)))
            clear p6 k6 W5
            go_wp2
            exact ⟨FN.out, by have := HLT.out; rw [HL.out]; simp [intOf]; omega⟩
          · have GO := HGO.out
            rw [if_pos hE] at GO
            have W5 := WR.out w5 P5.out J5.out
            have ze : ((uk.writeE ((i + k : Nat) : Int) (E.sct st (V.piece s.data.toList k)) : Int) == 0) = false := by rw [beq_eq_false_iff_ne]; omega
            have FN := Lib.hid (fun W (q : Pair j w0 W b c d (uk.writeD ((i + k : Nat) : Int) (E.sct st (V.piece s.data.toList k)))) (kk : Keeps (fun k => k ≠ j) w2 W) => (show Pair j w0 W b c d (u.areaW (i : Int) n st s.data.toList).2 ∧ Keeps (fun k => k ≠ j) w2 W ∧ (u.areaW (i : Int) n st s.data.toList).1 = uk.writeE ((i + k : Nat) : Int) (E.sct st (V.piece s.data.toList k)) from by
              rw [FIN.out, ← GO]; exact ⟨q, kk, rfl⟩))
            clear GO hE
            generalize uk.writeE ((i + k : Nat) : Int) (E.sct st (V.piece s.data.toList k)) = x at *
            go_wp2_with fail
            refine W5.mono ?_
            rintro e4 w6 ⟨rfl, p6, k6⟩
            have FM := Lib.hid (FN.out w6 p6 (Keeps.trans K5.out k6 (fun _ _ e => e)))
            clear p6 k6 W5
            go_wp2
            go_ret
            exact ⟨by rw [FM.out.2.2]; rfl, FM.out.1, FM.out.2.1⟩
        · obtain rfl : k = V.nsec s.data.toList.length := by rw [HL.out] at hk ⊢; omega
          rw [Nat.sub_self, DS.areaGo] at hgo
          have zlt : decide (((V.nsec s.data.toList.length : Nat) : Int) * 234 < (s.size : Int)) = false := decide_eq_false (by have := V.nsec_end s.size; rw [HL.out]; omega)
          have FL := Lib.hid (pairR_flush hjr hP (hfk.few (by omega)))
          have FN := Lib.hid (show uk.flushE = (u.areaW (i : Int) n st s.data.toList).1 ∧ uk.flushD = (u.areaW (i : Int) n st s.data.toList).2 from by rw [FIN.out, ← hgo]; exact ⟨rfl, rfl⟩)
          clear hP hkeep hfk hdl hgo hjr hlt
          generalize V.nsec s.data.toList.length = K at *
          go_wp2_with fail
          refine FL.out.mono ?_
          rintro e4 w6 ⟨rfl, p6, k6⟩
          have P6 := Lib.hid p6
          have K6 := Lib.hid (Keeps.trans HK.out k6 (fun _ _ e => e))
          clear p6 k6
          go_wp2
          go_ret
          exact ⟨by rw [← FN.out.1]; rfl, by rw [← FN.out.2]; exact P6.out, K6.out⟩
  · rw [decide_eq_false hm] at PL
    have FIN := Lib.hid (show u.areaW i n st s.data.toList = (6, u) by unfold DS.areaW; rw [if_pos hm])
    have HH := Lib.hid h
    clear hm h hl
    go_enter Tryd.func27, Tryd.ntmps27
    go_wp2_with fail
    refine PL.mono ?_
    rintro e w1 ⟨rfl, rfl⟩
    go_wp2
    go_ret
    exact ⟨by rw [FIN.out]; rfl, by rw [FIN.out]; exact HH.out, Keeps.refl _ _⟩
end Go.Proofs.YtcapifhmmkmboaaDoor
