/-
  The contract of area.Write.
  The contracts of remitref07.Open, Ends, Log and Tear.
-/
import Derived.Test.YtcapifhmmkmboaaDoorP27
import Derived.Test.YtcapifhmmkmboaaDoorP21
namespace Go.Proofs.YtcapifhmmkmboaaDoor
open Go.RowKit Go.WideShapes
set_option maxRecDepth 100000

theorem DS.writeD_grow (d : DS) (i : Int) (s : List UInt8) : (d.writeD i s).ways.length ≤ d.ways.length + 1 ∧ (d.writeD i s).wr ≤ d.wr + 1 ∧ (d.writeD i s).fl = d.fl ∧ (d.writeD i s).cr = d.cr := by
  unfold DS.writeD
  split
  · exact ⟨by omega, by omega, rfl, rfl⟩
  · split
    · exact ⟨by omega, by omega, rfl, rfl⟩
    · split
      · exact ⟨by simp, by simp only; omega, rfl, rfl⟩
      · exact ⟨by simp, by simp only; omega, rfl, rfl⟩
/-- The k-th step's counts. -/
structure DS.GrowN (d : DS) (k : Nat) (u : DS) : Prop where
  ways : u.ways.length ≤ d.ways.length + k
  wr : u.wr ≤ d.wr + k
  fl : u.fl = d.fl
  cr : u.cr = d.cr
theorem DS.GrowN.write {d u : DS} {k : Nat} (h : d.GrowN k u) (i : Int) (s : List UInt8) : d.GrowN (k + 1) (u.writeD i s) := by
  have h1 := h.ways; have h2 := h.wr; have h3 := h.fl; have h4 := h.cr
  obtain ⟨g1, g2, g3, g4⟩ := DS.writeD_grow u i s
  exact ⟨by omega, by omega, by rw [g3, h3], by rw [g4, h4]⟩
theorem DS.GrowN.few {d u : DS} {k : Nat} (h : d.GrowN k u) (hf : d.FewA) (hk : k ≤ 65536) : u.Few := by
  have h1 := h.ways; have h2 := h.wr; have h3 := h.fl; have h4 := h.cr
  have f1 := hf.ways; have f2 := hf.wr; have f3 := hf.fl; have f4 := hf.cr
  exact ⟨by omega, by omega, by omega, by omega⟩

/-- What the loop keeps. -/
def AWAt (S : Nat → Prop) (w0 : World) (b : Nat) (d : DS) (i st : Nat) (v : List UInt8) (iv : Value) (wr : World) : Prop :=
  ∃ (k : Nat) (uk : DS), k ≤ V.nsec v.length ∧ iv = .int .i64 k ∧ DiskAt wr b uk S ∧ Keeps S w0 wr ∧ DS.areaGo i st v (V.nsec v.length - k) k uk = DS.areaGo i st v (V.nsec v.length) 0 d ∧ d.GrowN k uk

theorem area_off {i st : Nat} {v : List UInt8} {d : DS} (h : d.off = true) : ∀ m k, DS.areaGo i st v m k d = (12, d)
  | 0, k => by rw [DS.areaGo]; unfold DS.flushE DS.flushD; rw [if_pos h, if_pos h]
  | m + 1, k => by
    have hr : d.reach ((i + k : Nat) : Int) = 12 := by unfold DS.reach; rw [if_pos h]
    have h1 : d.writeE ((i + k : Nat) : Int) (E.sct st (V.piece v k)) = 12 := by unfold DS.writeE; rw [if_pos (by rw [hr]; decide), hr]
    have h2 : d.writeD ((i + k : Nat) : Int) (E.sct st (V.piece v k)) = d := by unfold DS.writeD; rw [if_pos (by rw [hr]; decide)]
    rw [DS.areaGo, if_pos (by rw [h1]; decide), h1, h2]
theorem area_no {d : DS} {i n : Int} {st : Nat} {v : List UInt8} (h : d.refN i n st v.length ≠ 0) : d.areaW i n st v = (d.refN i n st v.length, d) := by
  unfold DS.refN at h ⊢
  unfold DS.areaW
  by_cases h1 : d.mayA i n st
  · have hnot : ¬ (¬ d.mayA i n st ∨ ((v.length : Nat) : Int) < 0) := by rintro (k | k); exact k h1; omega
    rw [if_neg hnot] at h ⊢
    rw [if_neg (fun k => k h1)]
    rw [Int.toNat_natCast] at h ⊢
    by_cases h2 : 234 * min n.toNat 65536 < v.length
    · rw [if_pos h2, if_pos h2]
    · rw [if_neg h2] at h ⊢
      rw [if_neg h2]
      by_cases h3 : d.off = true
      · rw [if_pos h3, area_off h3]
      · rw [if_neg h3] at h; exact absurd rfl h
  · rw [if_pos (Or.inl h1), if_pos h1]
theorem area_yes {d : DS} {i n : Int} {st : Nat} {z : Int} (h : d.refN i n st z = 0) : d.mayA i n st ∧ 0 ≤ z ∧ z.toNat ≤ 234 * min n.toNat 65536 ∧ d.off = false := by
  unfold DS.refN at h
  split at h
  · omega
  · rename_i h1
    split at h
    · omega
    · split at h
      · omega
      · rename_i h2 h3
        exact ⟨Decidable.not_not.1 (fun k => h1 (.inl k)), by omega, by omega, by simpa using h3⟩

theorem wrapA_add {i k : Nat} (h1 : i ≤ 65536) (h2 : k ≤ 65536) : wrap64 ((i : Int) + (k : Int)) = (i : Int) + (k : Int) := by unfold wrap64; omega
theorem wrapA_mul {k a : Nat} (ha : k * 234 = a) : (k : Int) * 234 = (a : Int) := by omega
theorem wrapA_end {a z e : Nat} (h : e ≤ 15335424) (he : a + z = e) : wrap64 ((a : Int) + (z : Int)) = (e : Int) := by unfold wrap64; omega
theorem measA {k n : Nat} (h : k < n) : n - (intOf (.int .i64 ((k : Int) + 1))).toNat < n - (intOf (.int .i64 (k : Int))).toNat := by simp [intOf]; omega
theorem subA {K k : Nat} (h : k < K) : K - k = (K - (k + 1)) + 1 := by omega
theorem castA_lt {k n : Nat} (h : k < n) : decide ((k : Int) < (n : Int)) = true := decide_eq_true (by omega)
theorem castA_ge {k n : Nat} (h : n ≤ k) : decide ((k : Int) < (n : Int)) = false := decide_eq_false (by omega)
theorem castA_le {k : Nat} (h : k ≤ 65536) : (k : Int) ≤ 65536 := by omega
theorem cutA {k n a z e : Nat} (h : k * 234 < n) (ha : k * 234 = a) (hz : min 234 (n - a) = z) (he : a + z = e) : a ≤ e ∧ e ≤ n ∧ min ((k + 1) * 234) n = e := by omega

set_option maxHeartbeats 3200000 in
theorem awrite_any (ad : Nat → Addr) : AWriteH ad := by
  intro S w0 w b d R hS h hf i n st s hst hn
  have RF := arefuse_any ad (R.errs' hS) h i n st (s.size : Int) hn
  have hl : s.data.toList.length = s.size := by simp
  by_cases hz : d.refN i n st (s.size : Int) = 0
  · obtain ⟨hm, -, hr, ho⟩ := area_yes hz
    rw [hz, errV_zero] at RF
    rw [Int.toNat_natCast] at hr
    obtain ⟨i, rfl⟩ := Int.eq_ofNat_of_zero_le hm.1
    have FIN := Lib.hid (show d.areaW i n st s.data.toList = DS.areaGo i st s.data.toList (V.nsec s.data.toList.length) 0 d by unfold DS.areaW; rw [if_neg (fun k => k hm), if_neg (by omega), Int.toNat_natCast])
    have hz2 : s.size ≤ 15335424 := by omega
    have hK : V.nsec s.data.toList.length ≤ 65536 := by rw [hl]; unfold V.nsec; omega
    have hi : i ≤ 65536 := by
      have h1 := hm.2.2.1
      obtain ⟨gd, mb, uv, P, _⟩ := h
      have := P.ok.le
      omega
    have h0 := hm.2.2.2.2
    have SC := asecs_any (s.size : Int) w (by omega)
    rw [secsZ_nat] at SC
    have START := Lib.hid (show AWAt S w0 b d i st s.data.toList (.int .i64 0) w from ⟨0, d, Nat.zero_le _, rfl, h, hS, rfl, ⟨by omega, by omega, rfl, rfl⟩⟩)
    have HR := Lib.hid R
    have HFA := Lib.hid hf
    have HL := Lib.hid hl
    have HKB := Lib.hid hK
    have HI := Lib.hid hi
    have HZ2 := Lib.hid hz2
    have HS := Lib.hid (show st ≠ 0 ∧ st < 18446744073709551616 from ⟨h0, hst⟩)
    clear hm h hf hr hst h0 hz R hS ho hn hl hK hi hz2
    go_enter Tryd.func21, Tryd.ntmps21
    go_wp2_with fail
    refine RF.mono ?_
    rintro e w1 ⟨rfl, rfl⟩
    go_wp2_with fail
    refine SC.mono ?_
    rintro e w2 ⟨rfl, rfl⟩
    go_wp2
    go_loopw [30] (fun iv wr => AWAt S w0 b d i st s.data.toList iv wr) (fun iv _ => V.nsec s.size - (intOf iv).toNat)
    case atStart => exact START.out
    case round =>
      obtain ⟨k, uk, hk, rfl, hP, hkeep, hgo, hgr⟩ := hrel
      have hk2 : k ≤ V.nsec s.size := by rw [← HL.out]; exact hk
      have HP := Lib.hid hP
      have HK := Lib.hid hkeep
      have HG := Lib.hid hgr
      have hk65 : k ≤ 65536 := Nat.le_trans hk HKB.out
      have HF := Lib.hid (hgr.few HFA.out hk65)
      by_cases hlt : k < V.nsec s.size
      · have hmm := subA (show k < V.nsec s.data.toList.length by rw [HL.out]; exact hlt)
        rw [hmm, DS.areaGo] at hgo
        have h234 := V.nsec_lt hlt
        have PS := apiece_any s.size k h234 HZ2.out
        obtain ⟨a, ha⟩ : ∃ a, k * 234 = a := ⟨_, rfl⟩
        obtain ⟨z, hz⟩ : ∃ z, min 234 (s.size - a) = z := ⟨_, rfl⟩
        obtain ⟨e, he⟩ : ∃ e, a + z = e := ⟨_, rfl⟩
        have hae := cutA h234 ha hz he
        have PT := piece_text s k hlt
        have SL := slicePiece s a e hae.1 hae.2.1
        rw [ha, hz] at PS
        rw [hae.2.2, ha] at PT
        obtain ⟨P, hP2⟩ : ∃ P, s.extract a e = P := ⟨_, rfl⟩
        rw [hP2] at PT SL
        have hpz : P.size ≤ 234 := by rw [← dlen7, PT]; exact V.piece_le _ _
        obtain ⟨Z, hZ⟩ : ∃ Z : ByteArray, Z = ⟨(E.sct st (V.piece s.data.toList k)).toArray⟩ := ⟨_, rfl⟩
        have hZl : strL Z = E.sct st (V.piece s.data.toList k) := by rw [hZ]; rfl
        have S2 := Lib.hid (show ∀ W, Keeps S w0 W → Calls Tryd.prog 38 #[.int .u64 st, .string P] W fun e w' => e = .returned (.tuple #[.string Z, .nilIface]) ∧ Qt W w' from fun W q => by
          have S1 := seal_any (ad 6) (ad 3) (ad 7) st P W HS.out.2 (HR.out.errs' q).e3 (HR.out.tab' q)
          rw [show E.sealR st P.data.toList = (E.sct st (V.piece s.data.toList k), 0) by unfold E.sealR; rw [if_neg HS.out.1, if_neg (by rw [dlen7]; omega), PT]] at S1
          rw [hZ]; exact S1)
        have WR := Lib.hid (fun W (q : DiskAt W b uk S) (hq : Keeps S w0 W) => (show Calls Tryd.prog 25 #[.pointer (some ⟨b, 0, none⟩), .int .i64 ((i : Int) + (k : Int)), .string Z] W fun e w' => e = .returned (errV ad (uk.writeE ((i + k : Nat) : Int) (E.sct st (V.piece s.data.toList k)))) ∧ DiskAt w' b (uk.writeD ((i + k : Nat) : Int) (E.sct st (V.piece s.data.toList k))) S ∧ Keeps S w0 w' from by
          have h := room_write HR.out hq q HF.out ((i + k : Nat) : Int) Z
          rw [hZl, Int.natCast_add] at h
          rw [Int.natCast_add]
          exact h))
        have hai := wrapA_mul ha
        have hei := wrapA_end (Nat.le_trans hae.2.1 HZ2.out) he
        have hki := wrapA_add HI.out hk65
        have hkb := castA_le hk65
        have zlt := castA_lt hlt
        have zlt' : decide (k < V.nsec s.size) = true := decide_eq_true hlt
        have HLT := Lib.hid hlt
        have HGO := Lib.hid hgo
        have HK65 := Lib.hid hk65
        clear hP hkeep hgr hgo hmm PT hZ hZl hP2 ha he hz h234 hpz hlt hk hk2 hae hk65
        go_wp2_with fail
        refine (PS _).mono ?_
        rintro e2 w4 ⟨rfl, rfl⟩
        go_wp2_with fail
        refine (S2.out w4 HK.out).mono ?_
        rintro e3 w5 ⟨rfl, q5⟩
        have P5 := Lib.hid (HP.out.qt q5)
        have K5 := Lib.hid (keeps_qt HK.out q5)
        clear q5
        have W5 := WR.out w5 P5.out K5.out
        by_cases hE : uk.writeE ((i + k : Nat) : Int) (E.sct st (V.piece s.data.toList k)) = 0
        · have GO := HGO.out
          rw [if_neg (fun h => h hE)] at GO
          rw [hE, errV_zero] at W5
          have NXT := Lib.hid (fun W (q : DiskAt W b (uk.writeD ((i + k : Nat) : Int) (E.sct st (V.piece s.data.toList k))) S) (kk : Keeps S w0 W) => (show AWAt S w0 b d i st s.data.toList (.int .i64 ((k : Int) + 1)) W from
            ⟨k + 1, _, by rw [HL.out]; exact HLT.out, by push_cast; rfl, q, kk, GO, HG.out.write _ _⟩))
          clear GO hE
          go_wp2_with fail
          refine W5.mono ?_
          rintro e4 w6 ⟨rfl, p6, k6⟩
          have FN := Lib.hid (NXT.out w6 p6 k6)
          clear p6 k6 W5
          go_wp2
          exact ⟨FN.out, measA HLT.out⟩
        · have GO := HGO.out
          rw [if_pos hE] at GO
          rw [errV_pos ad (Nat.pos_of_ne_zero hE)] at W5
          have FN := Lib.hid (fun W (q : DiskAt W b (uk.writeD ((i + k : Nat) : Int) (E.sct st (V.piece s.data.toList k))) S) (kk : Keeps S w0 W) => (show (.returned (.iface 111 (.pointer (some (ad (uk.writeE ((i + k : Nat) : Int) (E.sct st (V.piece s.data.toList k))))))) : Ending) = .returned (errV ad (d.areaW (i : Int) n st s.data.toList).1) ∧ DiskAt W b (d.areaW (i : Int) n st s.data.toList).2 S ∧ Keeps S w0 W from by
            rw [FIN.out, ← GO]; exact ⟨by rw [errV_pos ad (Nat.pos_of_ne_zero hE)], q, kk⟩))
          clear GO hE
          generalize uk.writeE ((i + k : Nat) : Int) (E.sct st (V.piece s.data.toList k)) = x at *
          go_wp2_with fail
          refine W5.mono ?_
          rintro e4 w6 ⟨rfl, p6, k6⟩
          have FM := Lib.hid (FN.out w6 p6 k6)
          clear p6 k6 W5
          go_wp2
          go_ret
          exact FM.out
      · obtain rfl : k = V.nsec s.data.toList.length := Nat.le_antisymm hk (by rw [HL.out]; exact Nat.le_of_not_lt hlt)
        rw [Nat.sub_self, DS.areaGo] at hgo
        have zlt := castA_ge (k := V.nsec s.data.toList.length) (n := V.nsec s.size) (by rw [HL.out]; exact Nat.le_refl _)
        have zlt' : decide (V.nsec s.data.toList.length < V.nsec s.size) = false := decide_eq_false (by rw [HL.out]; exact Nat.lt_irrefl _)
        have FL := Lib.hid (room_flush HR.out hkeep hP HF.out)
        have FN := Lib.hid (fun W (q : DiskAt W b uk.flushD S) (kk : Keeps S w0 W) => (show (.returned (errV ad uk.flushE) : Ending) = .returned (errV ad (d.areaW (i : Int) n st s.data.toList).1) ∧ DiskAt W b (d.areaW (i : Int) n st s.data.toList).2 S ∧ Keeps S w0 W from by
          rw [FIN.out, ← hgo]; exact ⟨rfl, q, kk⟩))
        clear hP hkeep hgr hgo hlt hk hk2 hk65
        generalize V.nsec s.data.toList.length = K at *
        generalize V.nsec s.size = K2 at *
        go_wp2_with fail
        refine FL.out.mono ?_
        rintro e4 w6 ⟨rfl, p6, k6⟩
        have FM := Lib.hid (FN.out w6 p6 k6)
        clear p6 k6
        go_wp2
        go_ret
        exact FM.out
  · have FIN := Lib.hid (show d.areaW i n st s.data.toList = (d.refN i n st (s.size : Int), d) by
      have h2 := area_no (d := d) (i := i) (n := n) (st := st) (v := s.data.toList) (by rw [hl]; exact hz)
      rw [hl] at h2
      exact h2)
    have hp := Nat.pos_of_ne_zero hz
    have FM := Lib.hid (show (.returned (.iface 111 (.pointer (some (ad (d.refN i n st (s.size : Int)))))) : Ending) = .returned (errV ad (d.areaW i n st s.data.toList).1) ∧ DiskAt w b (d.areaW i n st s.data.toList).2 S ∧ Keeps S w0 w from by
      rw [FIN.out]; exact ⟨by rw [errV_pos ad hp], h, hS⟩)
    rw [errV_pos ad hp] at RF
    clear hz h hS hp
    generalize d.refN i n st (s.size : Int) = x at *
    go_enter Tryd.func21, Tryd.ntmps21
    go_wp2_with fail
    refine RF.mono ?_
    rintro e w1 ⟨rfl, rfl⟩
    go_wp2
    go_ret
    exact FM.out
end Go.Proofs.YtcapifhmmkmboaaDoor
namespace Go.Proofs.YtcapifhmmkmboaaDoor
open Go.RowKit Go.WideShapes
set_option maxRecDepth 100000

theorem size_two (s : ByteArray) (h8 : 8 < s.size) (h9 : 9 < s.size) : E.size s.data.toList = s[8].toNat + 256 * s[9].toNat := by
  have l := dlen7 s
  have e : (s.data.toList.drop 8).take 2 = [s[8], s[9]] := by
    rw [List.drop_eq_getElem_cons (by omega), List.drop_eq_getElem_cons (by omega)]
    rfl
  unfold E.size
  rw [e, E.num, E.num, E.num]
  rfl

set_option maxHeartbeats 1600000 in
theorem refOpen_any (st : Nat) (s : ByteArray) (w : World) (hst : st < 18446744073709551616) :
    Calls Tryd.prog 50 #[.int .u64 st, .string s] w fun e w' => e = .returned (openV (E.openS st s.data.toList)) ∧ Qt w w' := by
  have hd := dlen7 s
  by_cases hz : s.size = 256
  · have h8 : 8 < s.size := by omega
    have h9 : 9 < s.size := by omega
    have hn := size_two s h8 h9
    have hsl := size_lt s.data.toList
    have b8 := s[8].toNat_lt
    have b9 := s[9].toNat_lt
    have hni : (s[8].toNat : Int) + 256 * (s[9].toNat : Int) = (E.size s.data.toList : Int) := by omega
    by_cases h234 : 234 < E.size s.data.toList
    · have HV := Lib.hid (congrArg openV (open_wide (st := st) h234))
      have h234' : 234 < (s[8].toNat : Int) + 256 * (s[9].toNat : Int) := by omega
      clear hd hn hni h234 hsl
      go_enter Tryd.func50, Tryd.ntmps50
      go_wp2
      go_quiet (fail)
      go_wp2
      go_ret2
      exact ⟨by rw [HV.out]; rfl, Keeps.drewN (Qt.refl w) _⟩
    · have hsli := fun W => slice10 s hz (E.size s.data.toList) (by omega) W
      have hpl : (s.extract 10 (10 + E.size s.data.toList)).data.toList = E.pay s.data.toList := by
        rw [dslice, Nat.add_sub_cancel_left]; rfl
      have HP := Lib.hid (of_list hpl)
      have hseal := fun W => refSeal_any st (s.extract 10 (10 + E.size s.data.toList)) W hst
      rw [hpl] at hseal
      have hlp := E.pay_length (raw := s.data.toList) (by omega) (by omega)
      rw [show (s[8].toNat : Int) + 256 * (s[9].toNat : Int) = (s[8].toNat : Int) + (OfNat.ofNat 256 : Int) * (s[9].toNat : Int) from rfl] at hni
      have HNI := Lib.hid hni
      clear hn hni
      by_cases h0 : st = 0
      · subst h0
        have HV := Lib.hid (congrArg openV (open_zero (s := s.data.toList)))
        rw [show E.sealR 0 (E.pay s.data.toList) = ([], 6) from if_pos rfl] at hseal
        have HS := Lib.hid hseal
        clear hd HP hpl hlp hseal
        generalize E.size s.data.toList = n at *
        go_enter Tryd.func50, Tryd.ntmps50
        go_wp2
        go_quiet (fail)
        rw [HNI.out]
        go_wp2_with fail
        refine (HS.out _).mono ?_
        rintro e w1 ⟨rfl, k⟩
        have K := Lib.hid (Qt.trans (Keeps.drewN (Qt.refl w) _) k); clear k HS
        go_wp2
        go_ret2
        exact ⟨by rw [HV.out]; rfl, K.out⟩
      · rw [show E.sealR st (E.pay s.data.toList) = (E.sct st (E.pay s.data.toList), 0) by unfold E.sealR; rw [if_neg h0, if_neg (by omega)]] at hseal
        have HS := Lib.hid hseal
        by_cases hq : s.data.toList = E.sct st (E.pay s.data.toList)
        · have HV := Lib.hid (congrArg openV (open_yes (st := st) (by omega) h0 (by omega) hq))
          have hbe : (E.sct st (E.pay s.data.toList) == s.toList) = true := by
            rw [Lib.toList_data]; exact beq_iff_eq.2 hq.symm
          have hbe2 : (s.toList == E.sct st (E.pay s.data.toList)) = true := by
            rw [Lib.toList_data]; exact beq_iff_eq.2 hq
          clear hd hpl hlp hq hseal
          generalize E.sct st (E.pay s.data.toList) = sc at *
          generalize E.pay s.data.toList = pl at *
          generalize E.size s.data.toList = n at *
          go_enter Tryd.func50, Tryd.ntmps50
          go_wp2
          go_quiet (fail)
          rw [HNI.out]
          go_wp2_with fail
          refine (HS.out _).mono ?_
          rintro e w1 ⟨rfl, k⟩
          have K := Lib.hid (Qt.trans (Keeps.drewN (Qt.refl w) _) k); clear k HS
          go_wp2
          go_ret2
          exact ⟨by rw [HV.out, HP.out]; rfl, K.out⟩
        · have HV := Lib.hid (congrArg openV (open_no hq))
          have hbe : (E.sct st (E.pay s.data.toList) == s.toList) = false := by
            rw [Lib.toList_data]; exact beq_eq_false_iff_ne.2 (fun e => hq e.symm)
          clear hd HP hpl hlp hq hseal
          generalize E.sct st (E.pay s.data.toList) = sc at *
          generalize E.size s.data.toList = n at *
          go_enter Tryd.func50, Tryd.ntmps50
          go_wp2
          go_quiet (fail)
          rw [HNI.out]
          go_wp2_with fail
          refine (HS.out _).mono ?_
          rintro e w1 ⟨rfl, k⟩
          have K := Lib.hid (Qt.trans (Keeps.drewN (Qt.refl w) _) k); clear k HS
          go_wp2
          go_ret2
          exact ⟨by rw [HV.out]; rfl, K.out⟩
  · have HV := Lib.hid (congrArg openV (open_size (st := st) (s := s.data.toList) (by omega)))
    clear hd
    go_enter Tryd.func50, Tryd.ntmps50
    go_wp2
    go_ret2
    exact ⟨by rw [HV.out]; rfl, Qt.refl _⟩

end Go.Proofs.YtcapifhmmkmboaaDoor
