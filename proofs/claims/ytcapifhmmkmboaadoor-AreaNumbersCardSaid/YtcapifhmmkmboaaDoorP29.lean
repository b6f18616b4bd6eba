/-
  The contract of remitref09.Read.
-/
import Derived.Test.YtcapifhmmkmboaaDoorP27
import Derived.Test.YtcapifhmmkmboaaDoorP28
import Derived.Deep.DeepCutAuto
import Derived.Outline
import Derived.WalkLawsBesides
namespace Go.Proofs.YtcapifhmmkmboaaDoor
open Go.RowKit Go.WideShapes
set_option maxRecDepth 100000

/-- What the loop keeps. -/
def RefRAt (w : World) (s : Nat → List UInt8) (st n : Nat) (ov iv : Value) (wr : World) : Prop :=
  ∃ (k : Nat) (out : List UInt8), k ≤ V.nsec n ∧ iv = .int .i64 k ∧ V.readTo s st n k = some out ∧ wr.ownsRowF 0 5 1 ov out.length (Lib.byteCells out) ∧ (∀ q, ov.ownBlock = some q → w.heap.size ≤ q) ∧ Qt w wr
theorem strCells_list (s : ByteArray) : Lib.strCells s = Lib.byteCells s.data.toList := rfl
theorem RefRAt.more {w wr w2 w3 : World} {s : Nat → List UInt8} {st n k : Nat} {ov v' : Value} {out p : List UInt8} (hk : k < V.nsec n) (hr : V.readTo s st n (k + 1) = some (out ++ p)) (hn : ∀ q, ov.ownBlock = some q → w.heap.size ≤ q) (q : Qt w wr) (q2 : Qt wr w2)
    (hown : w3.ownsRowF 0 5 1 v' (out.length + p.length) (Lib.byteCells out ++ Lib.byteCells p)) (hg : w2.grownBy w3 ov.ownBlock) (hl : Later w2 ov.ownBlock v'.ownBlock) : RefRAt w s st n v' (.int .i64 ((k : Int) + 1)) w3 := by
  have q3 := Qt.trans q q2
  refine ⟨k + 1, out ++ p, hk, by push_cast; rfl, hr, ?_, ?_, ?_⟩
  · rw [List.length_append, Lib.byteCells_append]; exact hown
  · intro j hj
    rcases hl with e | ⟨g, e, hg'⟩
    · exact hn j (e ▸ hj)
    · rw [hj] at e
      injection e with e
      subst e
      exact Nat.le_trans q3.size hg'
  · exact Keeps.grown q3 hg (fun j hj e => by have := hn j e.symm; omega)
def readV9 (r : List UInt8 × Nat) : Value := .tuple #[.string ⟨r.1.toArray⟩, .int .i64 r.2]
theorem nsec_bound {n : Nat} (h : n ≤ 15335424) : V.nsec n ≤ 65536 := by unfold V.nsec; omega

set_option maxHeartbeats 3200000 in
theorem refRead9_any {w0 w : World} {j b c f : Nat} {d u : DS} (h : Pair j w0 w b c d u) (hf : u.FewN f) (hf2 : f ≤ 1073000000) (i n : Int) (st : Nat) (hst : st < 18446744073709551616) (z : Int) :
    Calls Tryd.prog 28 #[.pointer (some ⟨c, 0, none⟩), .int .i64 i, .int .i64 n, .int .u64 st, .int .i64 z] w fun e w' => e = .returned (readV9 (u.areaR i n st z)) ∧ Qt w w' := by
  have PL := place_any h i n st
  by_cases hm : u.mayA i n st
  · rw [decide_eq_true hm] at PL
    by_cases hz0 : z < 0
    · have FIN := Lib.hid (show u.areaR i n st z = ([], 6) by unfold DS.areaR; rw [if_pos (.inr hz0)])
      have y0 : decide (z < 0) = true := decide_eq_true hz0
      clear hm h
      go_enter Tryd.func28, Tryd.ntmps28
      go_wp2_with fail
      refine PL.mono ?_
      rintro e w1 ⟨rfl, rfl⟩
      go_wp2
      go_ret2
      exact ⟨by rw [FIN.out]; rfl, Qt.refl _⟩
    · obtain ⟨z, rfl⟩ := Int.eq_ofNat_of_zero_le (show 0 ≤ z by omega)
      have RM := refRoom_any n
      rw [roomZ_nat] at RM
      have y0 : decide ((z : Int) < 0) = false := decide_eq_false hz0
      by_cases hr : 234 * min n.toNat 65536 < z
      · have FIN := Lib.hid (show u.areaR i n st z = ([], 3) by unfold DS.areaR; rw [if_neg (by rintro (k | k); exact k hm; exact hz0 k), if_pos (by rw [Int.toNat_natCast]; exact hr)])
        have y1 : decide (((234 * min n.toNat 65536 : Nat) : Int) < (z : Int)) = true := decide_eq_true (by omega)
        have y2 : decide (234 * min n.toNat 65536 < z) = true := decide_eq_true hr
        clear hm h
        generalize 234 * min n.toNat 65536 = R at *
        go_enter Tryd.func28, Tryd.ntmps28
        go_wp2_with fail
        refine PL.mono ?_
        rintro e w1 ⟨rfl, rfl⟩
        go_wp2_with fail
        refine (RM _).mono ?_
        rintro e w2 ⟨rfl, rfl⟩
        go_wp2
        go_ret2
        exact ⟨by rw [FIN.out]; rfl, Qt.refl _⟩
      · have y1 : decide (((234 * min n.toNat 65536 : Nat) : Int) < (z : Int)) = false := decide_eq_false (by omega)
        have y2 : decide (234 * min n.toNat 65536 < z) = false := decide_eq_false hr
        have c2 : w.cell? ⟨c, 2, none⟩ = some (.bool u.off) := by
          obtain ⟨S, T, h1, ⟨sv, wv, P, hT⟩, h3, h4, h5, h6⟩ := h
          exact P.cell 2 _ rfl
        cases ho : u.off with
        | true =>
          rw [ho] at c2
          have FIN := Lib.hid (show u.areaR i n st z = ([], 12) by unfold DS.areaR; rw [if_neg (by rintro (k | k); exact k hm; exact hz0 k), if_neg (by rw [Int.toNat_natCast]; exact hr), if_pos ho])
          clear hm h ho
          generalize 234 * min n.toNat 65536 = R at *
          go_enter Tryd.func28, Tryd.ntmps28
          go_wp2_with fail
          refine PL.mono ?_
          rintro e w1 ⟨rfl, rfl⟩
          go_wp2_with fail
          refine (RM _).mono ?_
          rintro e w2 ⟨rfl, rfl⟩
          go_wp2
          go_ret2
          exact ⟨by rw [FIN.out]; rfl, Qt.refl _⟩
        | false =>
          rw [ho] at c2
          obtain ⟨i, rfl⟩ := Int.eq_ofNat_of_zero_le hm.1
          have hz : z ≤ 15335424 := by omega
          have hK := nsec_bound hz
          have h0 := hm.2.2.2.2
          have hi : (i : Int) + (V.nsec z : Int) ≤ (u.dur.length : Int) := by
            have h1 := hm.2.2.2.1
            have h3 := hm.2.1
            have h2 : V.nsec z ≤ n.toNat := V.nsec_le.1 (by omega)
            omega
          have hdl : u.dur.length ≤ 65536 := by
            obtain ⟨S, T, _, ⟨sv, wv, P, _⟩, _⟩ := h
            exact P.ok.le
          have FIN := Lib.hid (show u.areaR i n st z = match V.readA (fun k => u.read (i + k)) st z with | some out => (out, 0) | none => ([], 15) by unfold DS.areaR; rw [if_neg (by rintro (k | k); exact k hm; exact hz0 k), if_neg (by rw [Int.toNat_natCast]; exact hr), if_neg (by rw [ho]; simp), Int.toNat_natCast, Int.toNat_natCast]; rfl)
          have RD := Lib.hid (fun (k : Nat) (hk : k < V.nsec z) (W : World) (q : Qt w W) => (show Calls Tryd.prog 32 #[.pointer (some ⟨c, 0, none⟩), .int .i64 ((i : Int) + (k : Int))] W fun e w' => e = .returned (.tuple #[.string ⟨(u.read (i + k)).toArray⟩, .int .i64 0]) ∧ Qt W w' from by
            have h1 := pairR_read (h.qt q) (hf.few (by omega)) ((i + k : Nat) : Int)
            have hr : u.reach ((i + k : Nat) : Int) = 0 := DS.reach_calm ho (by omega)
            have he : u.readE ((i + k : Nat) : Int) = u.read (i + k) := by unfold DS.readE; rw [if_pos hr, Int.toNat_natCast]
            rw [hr, he, Int.natCast_add] at h1
            exact h1))
          have OP := Lib.hid (fun (s : ByteArray) (W : World) => refOpen_any st s W hst)
          clear hm h ho
          generalize 234 * min n.toNat 65536 = R at *
          have A0 := Lib.hid (show RefRAt w (fun k => u.read (i + k)) st z (.slice (some ⟨w.heap.size, 0, none⟩) 0 0) (.int .i64 0) (w.alloc (.cells #[] 5)) from ⟨0, [], Nat.zero_le _, rfl, rfl, World.ownsRowF_of (World.ownsRow_made (base := 0) (e := 5) (size := 1) w #[] 0 (Nat.zero_le _) (Nat.zero_le _) rfl), fun q e => by have : w.heap.size = q := by { simpa [Value.ownBlock] using e }; omega, (Qt.refl w).alloc _⟩)
          go_enter Tryd.func28, Tryd.ntmps28
          go_wp2_with fail
          refine PL.mono ?_
          rintro e w1 ⟨rfl, rfl⟩
          go_wp2_with fail
          refine (RM _).mono ?_
          rintro e w2 ⟨rfl, rfl⟩
          go_wp2
          obtain ⟨i0, hi0, hzz0, hzz1, hzz2⟩ := info_parts infoU8
          have HKK := Lib.hid hK
          have HI := Lib.hid hi
          have HDL := Lib.hid hdl
          have HZ := Lib.hid hz
          clear hf hf2 hst y0 y1 y2 hr hz0 c2 PL RM hK hi hdl hz
          go_loopw [13, 14] (fun ov iv wr => RefRAt w2 (fun k => u.read (i + k)) st z ov iv wr) (fun _ iv _ => V.nsec z - (intOf iv).toNat)
          case atStart => exact A0.out
          case round =>
            obtain ⟨k, out, hk, rfl, hrd, hown, hnew, q⟩ := hrel
            have hol := V.readTo_length k hk out hrd
            obtain ⟨oa, oc, hov⟩ : ∃ a c, u13 = .slice a out.length c := by
              rcases hown.2 with ⟨e, h0⟩ | ⟨g, cap, cur, fz, e, _⟩
              · exact ⟨none, 0, by rw [e, h0]⟩
              · exact ⟨_, _, e⟩
            subst hov
            by_cases hlt : k < V.nsec z
            · have h234 := V.nsec_lt hlt
              have R1 := RD.out k hlt wr q
              have zlt : decide ((out.length : Int) < (z : Int)) = true := decide_eq_true (by omega)
              have zlt' : decide (out.length < z) = true := decide_eq_true (by omega)
              have hkb : (k : Int) ≤ 65536 := by have := HKK.out; omega
              have hib : (i : Int) ≤ 65536 := by have := HI.out; have := HDL.out; omega
              have RT : V.readTo (fun k => u.read (i + k)) st z (k + 1) = (E.openS st (u.read (i + k))).bind fun p => if p.length = min 234 (z - out.length) then some (out ++ p) else none := by rw [V.readTo, hrd]; rfl
              have O1 := OP.out ⟨(u.read (i + k)).toArray⟩
              rw [show (⟨(u.read (i + k)).toArray⟩ : ByteArray).data.toList = u.read (i + k) from rfl] at O1
              have HQ := Lib.hid q
              have HLT := Lib.hid hlt
              have FNO := Lib.hid (fun (hn : V.readTo (fun k => u.read (i + k)) st z (k + 1) = none) => (show u.areaR (i : Int) n st (z : Int) = ([], 15) from by
                have : V.readA (fun k => u.read (i + k)) st z = none := V.readTo_none hn _ hlt
                rw [FIN.out, this]))
              cases hq : E.openS st (u.read (i + k)) with
              | none =>
                rw [hq] at RT O1
                have FN := Lib.hid (FNO.out RT)
                have O2 := Lib.hid (show ∀ W, Calls Tryd.prog 50 #[.int .u64 st, .string ⟨(u.read (i + k)).toArray⟩] W fun e w' => e = .returned (.tuple #[.string ⟨#[]⟩, .bool false]) ∧ Qt W w' from O1)
                clear RT O1 hq hown hnew hrd q hol h234 hlt
                generalize (⟨(u.read (i + k)).toArray⟩ : ByteArray) = X at *
                go_wp2_with fail
                refine R1.mono ?_
                rintro e3 w5 ⟨rfl, q5⟩
                have Q5 := Lib.hid (Qt.trans HQ.out q5)
                clear q5
                go_wp2_with fail
                refine (O2.out _).mono ?_
                rintro e4 w6 ⟨rfl, q6⟩
                have Q6 := Lib.hid (Qt.trans Q5.out q6)
                clear q6
                go_wp2
                go_ret2
                exact ⟨by rw [FN.out]; rfl, Q6.out⟩
              | some p =>
                rw [hq] at RT O1
                have O2 := Lib.hid (show ∀ W, Calls Tryd.prog 50 #[.int .u64 st, .string ⟨(u.read (i + k)).toArray⟩] W fun e w' => e = .returned (.tuple #[.string ⟨p.toArray⟩, .bool true]) ∧ Qt W w' from O1)
                obtain ⟨M, hM⟩ : ∃ M, min 234 (z - out.length) = M := ⟨_, rfl⟩
                have hwz : wrap64 ((z : Int) - (out.length : Int)) = (z : Int) - (out.length : Int) := by have := HZ.out; unfold wrap64; omega
                have hMi : min 234 (wrap64 ((z : Int) - (out.length : Int))) = (M : Int) := by rw [hwz]; omega
                obtain ⟨Y, hY⟩ : ∃ Y : ByteArray, Y = ⟨p.toArray⟩ := ⟨_, rfl⟩
                have hYl : Y.data.toList = p := by rw [hY]
                have hYz : Y.size = p.length := by rw [← dlen7, hYl]
                rw [← hY] at O2
                rw [hM, Option.bind_some] at RT
                by_cases hp : p.length = M
                · rw [if_pos hp] at RT
                  have hMy : min 234 (wrap64 ((z : Int) - (out.length : Int))) = (Y.size : Int) := by rw [hMi, hYz, hp]
                  have HM := Lib.hid (fun (w6 : World) (v' : Value) (w7 : World) (q2 : Qt wr w6) => RefRAt.more (w := w2) (w2 := w6) (w3 := w7) (v' := v') hlt RT hnew q q2)
                  have HOW := Lib.hid hown
                  have HYL := Lib.hid hYl
                  have HYZ := Lib.hid hYz
                  have hbd : out.length + Y.size ≤ 140737488355328 := by have := HZ.out; omega
                  have hbd2 : out.length + Y.size ≤ maxLen := by unfold maxLen; have := HZ.out; omega
                  clear hMi hwz RT O1 hq hown hnew hrd q hol h234 hlt hY hYl hYz hp hM
                  generalize (⟨(u.read (i + k)).toArray⟩ : ByteArray) = X at *
                  go_wp2_with fail
                  refine R1.mono ?_
                  rintro e3 w5 ⟨rfl, q5⟩
                  have Q5 := Lib.hid q5
                  clear q5
                  go_wp2_with fail
                  refine (O2.out _).mono ?_
                  rintro e4 w6 ⟨rfl, q6⟩
                  have Q6 := Lib.hid (Qt.trans Q5.out q6)
                  have HOW6 := Lib.hid (ownsRowF_kept HOW.out Q6.out (fun _ _ e => e))
                  clear q6
                  go_wp2_with (at_builtin; refine wpList_append_strF _ rfl _ _ 70 9 rfl 5 i0 Tryd.underlying70 Tryd.underlying9 hi0 hzz0 hzz1 hzz2 (.slice oa out.length oc) out.length (Lib.byteCells out) rfl HOW6.out Y rfl hbd2 hbd ?_)
                  intro v' w7 hown7 hg hl _
                  go_wp2
                  rw [strCells_list, HYL.out, HYZ.out] at hown7
                  exact ⟨HM.out w6 v' w7 Q6.out hown7 hg hl, by have := HLT.out; simp [intOf]; omega⟩
                · rw [if_neg hp] at RT
                  have FN := Lib.hid (FNO.out RT)
                  have zp : ((Y.size : Int) == (M : Int)) = false := by rw [beq_eq_false_iff_ne, hYz]; omega
                  have zp' : ¬ Y.size = M := by rw [hYz]; exact hp
                  have zp2 : ((Y.size : Int) != min 234 (wrap64 ((z : Int) - (out.length : Int)))) = true := by rw [hMi, bne_iff_ne, hYz]; omega
                  clear hMi hwz zp zp' RT O1 hq hown hnew hrd q hol h234 hlt hY hYl hYz hp hM
                  generalize (⟨(u.read (i + k)).toArray⟩ : ByteArray) = X at *
                  go_wp2_with fail
                  refine R1.mono ?_
                  rintro e3 w5 ⟨rfl, q5⟩
                  have Q5 := Lib.hid (Qt.trans HQ.out q5)
                  clear q5
                  go_wp2_with fail
                  refine (O2.out _).mono ?_
                  rintro e4 w6 ⟨rfl, q6⟩
                  have Q6 := Lib.hid (Qt.trans Q5.out q6)
                  clear q6
                  go_wp2
                  go_ret2
                  exact ⟨by rw [FN.out]; rfl, Q6.out⟩
            · obtain rfl : k = V.nsec z := by omega
              have hfull : out.length = z := by rw [hol]; have := V.nsec_end z; omega
              have zlt : decide ((out.length : Int) < (z : Int)) = false := decide_eq_false (by omega)
              have zlt' : decide (out.length < z) = false := decide_eq_false (by omega)
              have FN := Lib.hid (show u.areaR (i : Int) n st (z : Int) = (out, 0) from by
                have : V.readA (fun k => u.read (i + k)) st z = some out := hrd
                rw [FIN.out, this])
              have hcv := own_conv hown
              obtain ⟨X, hX⟩ : ∃ X : ByteArray, ⟨out.toArray⟩ = X := ⟨_, rfl⟩
              have FN2 := Lib.hid (show readV9 (u.areaR (i : Int) n st (z : Int)) = .tuple #[.string X, .int .i64 0] by rw [FN.out]; unfold readV9; rw [← hX]; rfl)
              rw [hX] at hcv
              have HQ := Lib.hid q
              clear hown hnew hrd q hol hlt hfull hX
              go_wp2_with fail
              go_ret2
              exact ⟨by rw [FN2.out]; rfl, HQ.out⟩
  · rw [decide_eq_false hm] at PL
    have FIN := Lib.hid (show u.areaR i n st z = ([], 6) by unfold DS.areaR; rw [if_pos (.inl hm)])
    clear hm h
    go_enter Tryd.func28, Tryd.ntmps28
    go_wp2_with fail
    refine PL.mono ?_
    rintro e w1 ⟨rfl, rfl⟩
    go_wp2
    go_ret2
    exact ⟨by rw [FIN.out]; rfl, Qt.refl _⟩
end Go.Proofs.YtcapifhmmkmboaaDoor
