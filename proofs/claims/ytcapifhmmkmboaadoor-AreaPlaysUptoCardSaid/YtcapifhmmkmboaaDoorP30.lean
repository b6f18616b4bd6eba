/-
  The contract of area.Read.
  What layer 9's listed variables give: the errors, the table of package checks; the witness's start; all four of area's contracts.
  AreaCrashes, plain: what a round leaves.
-/
import Derived.Test.YtcapifhmmkmboaaDoorP28
import Derived.Test.YtcapifhmmkmboaaDoorP29
import Derived.Test.YtcapifhmmkmboaaDoorP10
import Derived.Test.YtcapifhmmkmboaaDoorP21
import Derived.BigQuiet
import Derived.Test.YtcapifhmmkmboaaDoorP25
import Derived.Test.YtcapifhmmkmboaaDoorP26
import Derived.OpenShut
import Derived.Test.YtcapifhmmkmboaaDoorP22
namespace Go.Proofs.YtcapifhmmkmboaaDoor
open Go.RowKit Go.WideShapes
set_option maxRecDepth 100000

theorem builder_qt {T e : TypeId} {B b : Nat} {p : Value} {bs : List Value} {w w' : World} (h : Lib.BuilderAt T e B b p bs w) (q : Qt w w') : Lib.BuilderAt T e B b p bs w' := by
  obtain ⟨hB, v, hbk, hown, hne⟩ := h
  exact ⟨hB, v, (q.block b (lt_of_block hbk) (fun e => e)).trans hbk, ownsRow_kept hown q (fun _ _ e => e), hne⟩
theorem bwriteS_any (B b : Nat) (bs : List Value) (s : ByteArray) (w : World) (h : Lib.BuilderAt 78 5 B b (.pointer (some ⟨b, 0, none⟩)) bs w) (hlen : bs.length + s.size ≤ 140737488355328) (hBw : B ≤ w.heap.size) :
    Calls Tryd.prog 45 #[.pointer (some ⟨b, 0, none⟩), .string s] w fun e w' => e = .returned (.tuple #[.int .i64 s.size, .nilIface]) ∧ Lib.BuilderAt 78 5 B b (.pointer (some ⟨b, 0, none⟩)) (bs ++ Lib.strCells s) w' ∧ Below B w w' := by
  obtain ⟨i0, hi, hz0, hz1, hz2⟩ := info_parts infoByte3
  obtain ⟨hB, v, hbk, hown, hne⟩ := h
  have c0 : w.cell? ⟨b, 0, none⟩ = some (.pointer (some ⟨b, 0, none⟩)) := by rw [Lib.cell_of_heap hbk]; rfl
  have c1 : w.cell? ⟨b, 1, none⟩ = some v := by rw [Lib.cell_of_heap hbk]; rfl
  go_enter Tryd.func45, Tryd.ntmps45
  go_wp2_with fail
  refine (bcheck_used b w c0).mono ?_
  rintro e w1 ⟨rfl, rfl⟩
  go_wp2_with (at_builtin; refine Lib.wpList_append_own_string _ rfl _ _ 70 9 rfl B 5 i0 Tryd.underlying70 Tryd.underlying9 hi hz0 hz1 hz2 _ _ _ rfl hown s rfl ?c3 ?c4 ?c5 ?_)
  case c3 => unfold maxLen; omega
  case c4 => omega
  case c5 => omega
  intro v' w2 hown' hgrow _
  have hlt := lt_of_block hbk
  have hb2 : w2.heap[b]? = some (.cells #[.pointer (some ⟨b, 0, none⟩), v] 78 (0, 0)) := by
    rw [hgrow.block b hlt (fun e => hne e.symm)]
    exact hbk
  have d0 : w2.cell? ⟨b, 0, none⟩ = some (.pointer (some ⟨b, 0, none⟩)) := by rw [Lib.cell_of_heap hb2]; rfl
  have d1 : w2.cell? ⟨b, 1, none⟩ = some v := by rw [Lib.cell_of_heap hb2]; rfl
  have f1 : w2.frozen? ⟨b, 1, none⟩ = false := Lib.frozen_of_heap hb2 1
  obtain ⟨ao, n', cap, rfl⟩ : ∃ ao n' cap, v' = .slice ao n' cap := by
    rcases hown'.2 with ⟨hv, _⟩ | ⟨g, cap, cur, hv, _⟩
    · exact ⟨_, _, _, hv⟩
    · exact ⟨_, _, _, hv⟩
  go_wp2
  go_ret2
  refine ⟨rfl, ?_, ?_⟩
  · exact Lib.BuilderAt.put (T := 78) (e := 5) hB hb2 (bs' := bs ++ Lib.strCells s) (by simpa [Lib.strCells_length] using hown') neBuilder
  · exact ((Below.refl B w).grown hgrow hBw (fun k hk => (hown.lt k hk).1)).setCell (p := ⟨b, 1, none⟩) hB _

/-- What the loop keeps. -/
def ARAt (w : World) (D : Nat → List UInt8) (st z : Nat) (iv : Value) (wr : World) : Prop :=
  ∃ (k : Nat) (out : List UInt8), k ≤ V.nsec z ∧ iv = .int .i64 k ∧ V.readTo D st z k = some out ∧ Lib.BuilderAt 78 5 w.heap.size w.heap.size (.pointer (some ⟨w.heap.size, 0, none⟩)) (Lib.byteCells out) wr ∧ Below w.heap.size w wr
def ReadP9 (ad : Nat → Addr) (S : Nat → Prop) (w0 : World) (b : Nat) (d : DS) (r : List UInt8 × Nat) (e : Ending) (w' : World) : Prop := e = .returned (readE9 ad r) ∧ DiskAt w' b d S ∧ Keeps S w0 w'

theorem area_noR {d : DS} {i n : Int} {st : Nat} {z : Int} (h : d.refN i n st z ≠ 0) : d.areaR i n st z = ([], d.refN i n st z) := by
  unfold DS.refN at h ⊢
  unfold DS.areaR
  split
  · rfl
  · rename_i h1
    rw [if_neg h1] at h
    split
    · rfl
    · rename_i h2
      rw [if_neg h2] at h
      split
      · rfl
      · rename_i h3
        rw [if_neg h3] at h
        exact absurd rfl h

set_option maxHeartbeats 3200000 in
theorem aread_any (ad : Nat → Addr) : AReadH ad := by
  intro S w0 w b d R hS h i n st z hst hn
  have RF := arefuse_any ad (R.errs' hS) h i n st z hn
  have PST := Lib.hid (fun W (q : Qt w W) (r : List UInt8 × Nat) => (show ReadP9 ad S w0 b d r (.returned (readE9 ad r)) W from ⟨rfl, DiskAt.qt h q, keeps_qt hS q⟩))
  show Calls _ _ _ w (ReadP9 ad S w0 b d (d.areaR i n st z))
  by_cases hz : d.refN i n st z = 0
  · obtain ⟨hm, hz0, hr, ho⟩ := area_yes hz
    rw [hz, errV_zero] at RF
    obtain ⟨z, rfl⟩ := Int.eq_ofNat_of_zero_le hz0
    rw [Int.toNat_natCast] at hr
    obtain ⟨i, rfl⟩ := Int.eq_ofNat_of_zero_le hm.1
    have FIN := Lib.hid (show d.areaR (i : Int) n st (z : Int) = match V.readA (fun k => d.read (i + k)) st z with | some out => (out, 0) | none => ([], 15) by
      unfold DS.areaR
      rw [if_neg (by rintro (k | k); exact k hm; omega), if_neg (by rw [Int.toNat_natCast]; omega), if_neg (by rw [ho]; simp), Int.toNat_natCast, Int.toNat_natCast]
      rfl)
    have hz2 : z ≤ 15335424 := by omega
    have hK := nsec_bound hz2
    have hdl : d.dur.length ≤ 65536 := by obtain ⟨gd, mb, uv, P, _⟩ := h; exact P.ok.le
    have hik : i + V.nsec z ≤ d.dur.length := by
      have h1 := hm.2.2.2.1
      have h3 := hm.2.1
      have h4 := hm.2.2.1
      have h2 : V.nsec z ≤ n.toNat := V.nsec_le.1 (by omega)
      omega
    have h0 := hm.2.2.2.2
    have SC := asecs_any (z : Int)
    rw [secsZ_nat] at SC
    have RD := Lib.hid (fun (k : Nat) (hk : k < V.nsec z) (W : World) (q : Qt w W) => (show Calls Tryd.prog 43 #[.pointer (some ⟨b, 0, none⟩), .int .i64 ((i : Int) + (k : Int))] W fun e w' => e = .returned (.tuple #[.string ⟨(d.read (i + k)).toArray⟩, .nilIface]) ∧ W = w' from by
      have h1 := room_read R (keeps_qt hS q) (DiskAt.qt h q) ((i + k : Nat) : Int)
      have hr : d.reach ((i + k : Nat) : Int) = 0 := DS.reach_calm ho (by omega)
      have he : d.readE ((i + k : Nat) : Int) = d.read (i + k) := by unfold DS.readE; rw [if_pos hr, Int.toNat_natCast]
      rw [hr, he, Int.natCast_add, errV_zero] at h1
      exact h1))
    have OP := Lib.hid (fun (s : ByteArray) (W : World) (q : Qt w W) => open_any (ad 6) (ad 3) (ad 7) st s W hst (R.errs' (keeps_qt hS q)).e3 (R.tab' (keeps_qt hS q)))
    have EC := Lib.hid (fun (W : World) (q : Qt w W) => (show W.cell? ⟨1, 0, none⟩ = some (.iface 111 (.pointer (some (ad 15)))) from (R.errs' (keeps_qt hS q)).cells 14 _ rfl))
    have HZ := Lib.hid hz2
    have HKB := Lib.hid hK
    have HI := Lib.hid (show i ≤ 65536 by omega)
    have HBK := Lib.hid (heap_alloc_new w (.cells #[.pointer none, .slice none 0 0] 78))
    have B0 := Lib.hid ((Below.refl w.heap.size w).alloc (Nat.le_refl _) (.cells #[.pointer none, .slice none 0 0] 78))
    have SC2 := Lib.hid (fun W => SC W (by have := HZ.out; omega))
    clear hm h hr hst h0 hz R hS ho hn hz0 hz2 hdl hik hK SC
    go_enter Tryd.func24, Tryd.ntmps24
    go_wp2_with fail
    refine RF.mono ?_
    rintro e w1 ⟨rfl, rfl⟩
    go_wp2_with fail
    refine (Tryd.Builder_Grow_fresh w1.heap.size w1.heap.size z _ (Nat.le_refl _) HBK.out (by simp) (by have := HZ.out; omega)).mono ?_
    rintro e w2 ⟨rfl, hb1, hB1⟩
    have HB1 := Lib.hid hb1
    have HB2 := Lib.hid (B0.out.trans hB1)
    clear hb1 hB1
    go_wp2_with fail
    refine (SC2.out _).mono ?_
    rintro e w3 ⟨rfl, rfl⟩
    go_wp2
    go_loopw [32] (fun iv wr => ARAt w1 (fun k => d.read (i + k)) st z iv wr) (fun iv _ => V.nsec z - (intOf iv).toNat)
    case atStart => exact ⟨0, [], Nat.zero_le _, rfl, rfl, HB1.out, HB2.out⟩
    case round =>
      obtain ⟨k, out, hk, rfl, hrd, hbr, hBr⟩ := hrel
      have hol := V.readTo_length k hk out hrd
      have HQ := Lib.hid (Qt.of_below hBr)
      by_cases hlt : k < V.nsec z
      · have h234 := V.nsec_lt hlt
        have R1 := RD.out k hlt wr HQ.out
        have RT : V.readTo (fun k => d.read (i + k)) st z (k + 1) = (E.openS st (d.read (i + k))).bind fun p => if p.length = min 234 (z - out.length) then some (out ++ p) else none := by rw [V.readTo, hrd]; rfl
        have hk65 : k ≤ 65536 := by have := HKB.out; omega
        have hki : wrap64 ((i : Int) + (k : Int)) = (i : Int) + (k : Int) := by have := HI.out; unfold wrap64; omega
        have hk1 : wrap64 ((k : Int) + 1) = (k : Int) + 1 := by unfold wrap64; omega
        have zlt : decide ((k : Int) < (V.nsec z : Int)) = true := decide_eq_true (by omega)
        have zlt' : decide (k < V.nsec z) = true := decide_eq_true hlt
        have PS := Lib.hid (apiece_any z k h234 HZ.out)
        have O1 := OP.out ⟨(d.read (i + k)).toArray⟩ wr HQ.out
        rw [show (⟨(d.read (i + k)).toArray⟩ : ByteArray).data.toList = d.read (i + k) from rfl] at O1
        have FNO := Lib.hid (fun (hn : V.readTo (fun k => d.read (i + k)) st z (k + 1) = none) => (show d.areaR (i : Int) n st (z : Int) = ([], 15) from by
          have : V.readA (fun k => d.read (i + k)) st z = none := V.readTo_none hn _ hlt
          rw [FIN.out, this]))
        have HLT := Lib.hid hlt
        obtain ⟨m, hm⟩ : ∃ m, min 234 (z - k * 234) = m := ⟨_, rfl⟩
        have hm2 : min 234 (z - out.length) = m := by rw [hol, ← hm]; omega
        rw [hm] at PS
        rw [hm2] at RT
        cases hq : E.openS st (d.read (i + k)) with
        | none =>
          rw [hq] at RT O1
          have FN := Lib.hid (FNO.out RT)
          have O2 := Lib.hid (show Calls Tryd.prog 44 #[.int .u64 st, .string ⟨(d.read (i + k)).toArray⟩] wr fun e w' => e = .returned (.tuple #[.string ⟨#[]⟩, .bool false]) ∧ Qt wr w' from O1)
          clear RT O1 hq hrd hol h234 hlt hbr hBr PS hm hm2 hk
          generalize (⟨(d.read (i + k)).toArray⟩ : ByteArray) = X at *
          go_wp2_with fail
          refine R1.mono ?_
          rintro e3 w5 ⟨rfl, rfl⟩
          go_wp2_with fail
          refine O2.out.mono ?_
          rintro e4 w6 ⟨rfl, q6⟩
          have Q6 := Lib.hid (Qt.trans HQ.out q6)
          have e15 := EC.out _ Q6.out
          clear q6
          go_wp2
          go_quiet (fail)
          go_wp2
          go_ret2
          rw [FN.out]
          exact PST.out _ (Keeps.drewN Q6.out _) ([], 15)
        | some p =>
          rw [hq] at RT O1
          rw [Option.bind_some] at RT
          have O2 := Lib.hid (show Calls Tryd.prog 44 #[.int .u64 st, .string ⟨(d.read (i + k)).toArray⟩] wr fun e w' => e = .returned (.tuple #[.string ⟨p.toArray⟩, .bool true]) ∧ Qt wr w' from O1)
          obtain ⟨Y, hY⟩ : ∃ Y : ByteArray, Y = ⟨p.toArray⟩ := ⟨_, rfl⟩
          have hYl : Y.data.toList = p := by rw [hY]
          have hYz : Y.size = p.length := by rw [← dlen7, hYl]
          rw [← hY] at O2
          by_cases hp : p.length = m
          · rw [if_pos hp] at RT
            have zp : ((Y.size : Int) != (m : Int)) = false := by rw [bne_eq_false_iff_eq, hYz, hp]
            have hbd : out.length + Y.size ≤ 140737488355328 := by have := HZ.out; omega
            have hol2 : (Lib.byteCells out).length + Y.size ≤ 140737488355328 := by rw [Lib.byteCells_length]; exact hbd
            have HBT := Lib.hid hbr
            have HBW := Lib.hid hBr
            have HY := Lib.hid (show Lib.byteCells out ++ Lib.strCells Y = Lib.byteCells (out ++ p) by rw [Lib.byteCells_append, ← hYl]; rfl)
            have HRT := Lib.hid RT
            clear RT O1 hq hrd hol h234 hlt hbr hBr hm hm2 hk hYl hYz hY hp hbd
            generalize (⟨(d.read (i + k)).toArray⟩ : ByteArray) = X at *
            go_wp2_with fail
            refine R1.mono ?_
            rintro e3 w5 ⟨rfl, rfl⟩
            go_wp2_with fail
            refine O2.out.mono ?_
            rintro e4 w6 ⟨rfl, q6⟩
            have B6 := Lib.hid (HBW.out.trans (Keeps.below q6 HBW.out.size (fun _ _ e => e.elim)))
            have T6 := Lib.hid (builder_qt HBT.out q6)
            clear q6
            go_wp2_with fail
            refine (PS.out _).mono ?_
            rintro e5 w7 ⟨rfl, rfl⟩
            go_wp2_with fail
            refine (bwriteS_any w1.heap.size w1.heap.size (Lib.byteCells out) Y _ T6.out hol2 B6.out.size).mono ?_
            rintro e6 w8 ⟨rfl, hb8, hB8⟩
            rw [HY.out] at hb8
            have FN := Lib.hid (show ARAt w1 (fun k => d.read (i + k)) st z (.int .i64 ((k : Int) + 1)) w8 from ⟨k + 1, _, HLT.out, by push_cast; rfl, HRT.out, hb8, B6.out.trans hB8⟩)
            clear hb8 hB8
            go_wp2
            exact ⟨FN.out, by have := HLT.out; simp [intOf]; omega⟩
          · rw [if_neg hp] at RT
            have FN := Lib.hid (FNO.out RT)
            have zp : ((Y.size : Int) != (m : Int)) = true := by rw [bne_iff_ne, hYz]; omega
            clear RT O1 hq hrd hol h234 hlt hbr hBr hm hm2 hk hYl hYz hY hp
            generalize (⟨(d.read (i + k)).toArray⟩ : ByteArray) = X at *
            go_wp2_with fail
            refine R1.mono ?_
            rintro e3 w5 ⟨rfl, rfl⟩
            go_wp2_with fail
            refine O2.out.mono ?_
            rintro e4 w6 ⟨rfl, q6⟩
            have Q6 := Lib.hid (Qt.trans HQ.out q6)
            have e15 := EC.out _ Q6.out
            clear q6
            go_wp2_with fail
            refine (PS.out _).mono ?_
            rintro e5 w7 ⟨rfl, rfl⟩
            go_wp2
            go_quiet (fail)
            go_wp2
            go_ret2
            rw [FN.out]
            exact PST.out _ (Keeps.drewN Q6.out _) ([], 15)
      · obtain rfl : k = V.nsec z := by omega
        have hfull : out.length = z := by rw [hol]; have := V.nsec_end z; omega
        have zlt : decide ((V.nsec z : Int) < (V.nsec z : Int)) = false := decide_eq_false (by omega)
        have FN := Lib.hid (show d.areaR (i : Int) n st (z : Int) = (out, 0) from by
          have : V.readA (fun k => d.read (i + k)) st z = some out := hrd
          rw [FIN.out, this])
        have HS := Lib.hid (Tryd.Builder_String_any w1.heap.size w1.heap.size _ wr (.inr hbr) hBr.size)
        have HBR := Lib.hid hBr
        clear hbr hBr hlt hrd hol hfull hk
        go_wp2_with fail
        refine HS.out.mono ?_
        rintro e w2 ⟨rfl, hB2⟩
        have Q2 := Lib.hid (Qt.of_below (HBR.out.trans hB2))
        clear hB2
        go_wp2
        go_ret2
        rw [FN.out]
        exact PST.out _ Q2.out (out, 0)
  · have FIN := Lib.hid (area_noR hz)
    have hp := Nat.pos_of_ne_zero hz
    have FM := Lib.hid (PST.out w (Qt.refl w) (d.areaR i n st z))
    have HV := Lib.hid (show readE9 ad (d.areaR i n st z) = .tuple #[.string ⟨#[]⟩, .iface 111 (.pointer (some (ad (d.refN i n st z))))] by rw [FIN.out]; unfold readE9; rw [errV_pos ad hp])
    rw [errV_pos ad hp] at RF
    rw [HV.out] at FM
    clear hz h hS hp HV FIN PST
    generalize d.refN i n st z = x at *
    generalize d.areaR i n st z = y at *
    go_enter Tryd.func24, Tryd.ntmps24
    go_wp2_with fail
    refine RF.mono ?_
    rintro e w1 ⟨rfl, rfl⟩
    go_wp2
    go_ret2
    exact FM.out
end Go.Proofs.YtcapifhmmkmboaaDoor
namespace Go.Proofs.YtcapifhmmkmboaaDoor
open Go.ChangeShapes Go.WideShapes Go.ChangeAt Go.RowKit
set_option maxRecDepth 100000

theorem areaH (ad : Nat → Addr) : AreaH ad := ⟨awrite_any ad, aread_any ad, aroom_any, asecs_any⟩
def all38 : List (String × DataW Unit) := (errTexts.map fun x => (x.1, errD x.2)) ++ [("remit/checks.steps", Rows.laid_remit_checks_steps)]
theorem errs_tab_of {W : World} (h : laidMet Tryd.prog all38 W) : (∃ ad, Errs ad W) ∧ Tab W :=
  ⟨errs_of_texts (laidMet_sub (List.sublist_append_left _ _) h), tab_of (laidMet_sub (List.sublist_append_right _ _) h)⟩
theorem numbers_rows : all38 = Rows.areaNumbersRow.laid := rfl
theorem errs_numbers {W : World} (h : laidMetH Tryd.prog Rows.areaNumbersRow.laid W) : (∃ ad, Errs ad W) ∧ Tab W := by
  rw [MakeChecks.laidMetH_plain _ _ _ (by kernel_rfl), ← numbers_rows] at h
  exact errs_tab_of h
theorem crashes_rows : all38 = Rows.areaCrashesRow.laid := rfl
theorem errs_crashes {W : World} (h : laidMetH Tryd.prog Rows.areaCrashesRow.laid W) : (∃ ad, Errs ad W) ∧ Tab W := by
  rw [MakeChecks.laidMetH_plain _ _ _ (by kernel_rfl), ← crashes_rows] at h
  exact errs_tab_of h
theorem back_rows : all38 = Rows.areaBackRow.laid := rfl
theorem errs_back {W : World} (h : laidMetH Tryd.prog Rows.areaBackRow.laid W) : (∃ ad, Errs ad W) ∧ Tab W := by
  rw [MakeChecks.laidMetH_plain _ _ _ (by kernel_rfl), ← back_rows] at h
  exact errs_tab_of h
theorem plays_rows : all38 = Rows.areaPlaysUptoRow.laid := rfl
theorem errs_plays {W : World} (h : laidMetH Tryd.prog Rows.areaPlaysUptoRow.laid W) : (∃ ad, Errs ad W) ∧ Tab W := by
  rw [MakeChecks.laidMetH_plain _ _ _ (by kernel_rfl), ← plays_rows] at h
  exact errs_tab_of h
noncomputable def doorA9 (os : Os) : World := World.laidAll Tryd.prog os all38
theorem doorA9_met (os : Os) (args : Array Value) : laidMetH Tryd.prog all38 ((doorA9 os).forCall (fun _ _ => 0) ⟨#[], args, []⟩).memory := by
  rw [MakeChecks.laidMetH_plain _ _ _ (by kernel_rfl)]
  exact laidMet_laidAll _ (by kernel_rfl) (by kernel_rfl)
/-- A list's bulk is at least its length. -/
theorem bulk_pos {H : Type} : ∀ d : DataW H, 1 ≤ Rows.uptoBulk d := by
  intro d
  unfold Rows.uptoBulk
  split <;> omega
theorem bulk_len {H : Type} : ∀ l : List (DataW H), l.length ≤ Rows.uptoBulkAll l
  | [] => Nat.zero_le _
  | d :: r => by
    have h1 := bulk_len r
    have h2 := bulk_pos d
    simp only [List.length_cons, Rows.uptoBulkAll]
    omega
end Go.Proofs.YtcapifhmmkmboaaDoor
namespace Go.Proofs.YtcapifhmmkmboaaDoor
set_option maxRecDepth 100000

/-- The disk behind k rounds. -/
structure CrashI (k : Nat) (d : DS) : Prop where
  calm : d.Calm
  len : d.dur.length = 8
  wr : d.wr ≤ 6 * k
  fl : d.fl ≤ k
  cr : d.cr ≤ k
  below : V.Below d.dur 2 6 k
theorem CrashI.start : CrashI 0 (DS.newD 8) := by
  have hz : ∀ j, j < 8 → (DS.newD 8).dur.getD j [] = zeros := fun j hj => by
    show (List.replicate 8 zeros).getD j [] = zeros
    rw [List.getD_eq_getElem?_getD, List.getElem?_replicate, if_pos hj]; rfl
  refine ⟨⟨rfl, rfl⟩, by simp [DS.newD], Nat.le_refl _, Nat.le_refl _, Nat.le_refl _, ⟨fun j hj => ?_, fun j hj => ?_⟩⟩
  · rw [hz _ (by omega)]; simp [zeros]
  · rw [hz _ (by omega)]; exact Nat.le_of_eq G.zeros_back

/-- What Read tells of a place that may be, over a disk that is on. -/
theorem area_reads {d : DS} {st : Nat} {v : List UInt8} (hC : d.Calm) (hl : d.dur.length = 8) (hst : st ≠ 0) (hv : v.length ≤ 1404) :
    d.areaR 2 6 st v.length = match V.readA (fun k => d.dur.getD (2 + k) []) st v.length with | some out => (out, 0) | none => ([], 15) := by
  have hm : d.mayA 2 6 st := ⟨by decide, by decide, by rw [hl]; decide, by rw [hl]; decide, hst⟩
  have hr : (fun k => d.read ((2 : Int).toNat + k)) = fun k => d.dur.getD (2 + k) [] := by
    funext k
    exact hC.read _
  unfold DS.areaR
  rw [if_neg (by rintro (k | k); exact k hm; omega), if_neg (by show ¬ 234 * min 6 65536 < _; rw [Int.toNat_natCast]; omega), if_neg (by rw [hC.off]; simp), hr, Int.toNat_natCast]
  rfl

section
variable {k : Nat} {d : DS}
theorem CrashI.round (h : CrashI k d) (hk : k + 1 < 2 ^ 64) (arm : Int) (v : List UInt8) (hv : v.length ≤ 1404) :
    ∃ (e : Nat) (d2 : DS), (d.armD arm).areaW 2 6 (k + 1) v = (e, d2) ∧ (e = 0 ∨ e = 12) ∧ d2.ways.length ≤ 6 ∧ d2.wr ≤ 6 * k + 6 ∧ d2.fl ≤ k + 1 ∧ d2.cr ≤ k ∧ ∀ f, CrashI (k + 1) (d2.crashD f) ∧
      ((d2.crashD f).areaR 2 6 (k + 1) v.length = (v, 0) ∨ (e = 12 ∧ (d2.crashD f).areaR 2 6 (k + 1) v.length = ([], 15))) := by
  have hl := h.len
  have hw := h.wr
  have hf := h.fl
  have hc := h.cr
  have hm : (d.armD arm).mayA 2 6 (k + 1) := ⟨by decide, by decide, by show (2 : Int) ≤ d.dur.length; rw [hl]; decide, by show (6 : Int) ≤ d.dur.length - 2; rw [hl]; decide, by omega⟩
  have hW : (d.armD arm).areaW 2 6 (k + 1) v = DS.areaGo 2 (k + 1) v (V.nsec v.length) 0 (d.armD arm) := by
    unfold DS.areaW
    rw [if_neg (fun q => q hm), if_neg (by show ¬ 234 * min 6 65536 < _; omega)]
    rfl
  have hK : V.nsec v.length ≤ 6 := V.nsec_le.1 (by omega)
  have ha : -1 ≤ (d.armD arm).armed := by show -1 ≤ max arm (-1); omega
  rcases area_go (i := 2) (st := k + 1) (v := v) (V.nsec v.length) 0 (d.armD arm) h.calm.off h.calm.ways (by omega) (by show 2 + _ ≤ d.dur.length; omega) ha with ⟨_, d2, e1, e2, e3, e4, e5, e6, e7⟩ | ⟨_, d2, e1, e2, e3, e4, e5, e6, e7, _, _⟩
  · have e3 : d2.dur = d.dur := e3
    have e5 : d2.cr = d.cr := e5
    have e6 : d2.fl = d.fl := e6
    have e7 : d2.wr ≤ d.wr + V.nsec v.length := e7
    obtain ⟨j, hj⟩ : ∃ j, min (0 + (d.armD arm).armed.toNat + 1) (0 + V.nsec v.length) = j := ⟨_, rfl⟩
    rw [hj] at e4
    have hj6 : j ≤ 6 := by omega
    refine ⟨12, d2, hW.trans e1, .inr rfl, by rw [e4, V.waysA_length]; exact hj6, by omega, by omega, by omega, fun f => ?_⟩
    have hdur : (d2.crashD f).dur = crashTo f d.dur (V.waysA 2 (k + 1) v j) j := by
      show crashTo f d2.dur d2.ways d2.ways.length = _
      rw [e4, e3, V.waysA_length]
    obtain ⟨b1, b2⟩ := h.below.crash f v hj6 (by omega) hk
    rw [← hdur] at b1 b2
    have hlen : (d2.crashD f).dur.length = 8 := by rw [hdur, crashTo_length]; exact hl
    have hI : CrashI (k + 1) (d2.crashD f) := ⟨⟨rfl, rfl⟩, hlen, show d2.wr ≤ 6 * (k + 1) by omega, show d2.fl ≤ k + 1 by omega, show d2.cr + 1 ≤ k + 1 by omega, b1⟩
    refine ⟨hI, ?_⟩
    rw [area_reads hI.calm hlen (by omega) hv]
    cases hq : V.readA (fun q => (d2.crashD f).dur.getD (2 + q) []) (k + 1) v.length with
    | none => exact .inr ⟨rfl, rfl⟩
    | some out =>
      have := V.readA_some v (fun q p hq hp => b2 q p (by omega) hp) hq
      rw [this]
      exact .inl rfl
  · have e5 : d2.cr = d.cr := e5
    have e6 : d2.fl = d.fl + 1 := e6
    have e7 : d2.wr = d.wr + V.nsec v.length := e7
    have e3 : d2.dur = flushTo d.dur (V.waysA 2 (k + 1) v (0 + V.nsec v.length)) (0 + V.nsec v.length) := e3
    rw [Nat.zero_add] at e3
    refine ⟨0, d2, hW.trans e1, .inl rfl, by rw [e4]; decide, by omega, by omega, by omega, fun f => ?_⟩
    have hdur : (d2.crashD f).dur = flushTo d.dur (V.waysA 2 (k + 1) v (V.nsec v.length)) (V.nsec v.length) := by
      show crashTo f d2.dur d2.ways d2.ways.length = _
      rw [e4, e3]
      rfl
    obtain ⟨b1, b2⟩ := h.below.flush v hK (by omega) hk
    rw [← hdur] at b1 b2
    have hlen : (d2.crashD f).dur.length = 8 := by rw [hdur, flushTo_length]; exact hl
    have hI : CrashI (k + 1) (d2.crashD f) := ⟨⟨rfl, rfl⟩, hlen, show d2.wr ≤ 6 * (k + 1) by omega, show d2.fl ≤ k + 1 by omega, show d2.cr + 1 ≤ k + 1 by omega, b1⟩
    refine ⟨hI, .inl ?_⟩
    rw [area_reads hI.calm hlen (by omega) hv, V.readA_all (by omega) v b2]
end
end Go.Proofs.YtcapifhmmkmboaaDoor
