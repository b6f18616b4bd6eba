/-
  The contract of remitlaw07.SectorTear: it answers true.
-/
import Derived.Test.YtojcpegdbnnmdaaDoorEOneForm
import Derived.Test.YtojcpegdbnnmdaaDoorERefS
import Derived.BigQuiet
namespace Go.Proofs.YtojcpegdbnnmdaaDoor
open Go.RowKit Go.WideShapes
set_option maxRecDepth 100000

theorem seal_good (er el ef : Addr) (st : Nat) (p : List UInt8) (w : World) (hst : st < 18446744073709551616) (hz : st ≠ 0) (hp : p.length ≤ 234) (hE : E3 er el ef w) (hT : Tab w) :
    Calls Tryd.prog 9 #[.int .u64 st, .string ⟨p.toArray⟩] w fun e w' => e = .returned (.tuple #[.string ⟨(E.sct st p).toArray⟩, .nilIface]) ∧ Qt w w' := by
  have h := seal_any er el ef st ⟨p.toArray⟩ w hst hE hT
  rw [show (⟨p.toArray⟩ : ByteArray).data.toList = p from rfl, show E.sealR st p = (E.sct st p, 0) by unfold E.sealR; rw [if_neg hz, if_neg (by omega)]] at h
  exact h
theorem ends_good (er el ef : Addr) (s : ByteArray) (w : World) (hs : s.size = 256) (hE : E3 er el ef w) :
    Calls Tryd.prog 14 #[.string s] w fun e w' => e = .returned (.tuple #[.int .u64 (E.front s.data.toList : Nat), .int .u64 (E.back s.data.toList : Nat), .nilIface]) ∧ Qt w w' := by
  have h := ends_any er el ef s w hE
  rw [if_pos hs] at h
  exact h
theorem tear_good (er el ef : Addr) (a b : ByteArray) (n : Nat) (w : World) (ha : a.size = 256) (hb : b.size = 256) (hn : n ≤ 256) (hE : E3 er el ef w) :
    Calls Tryd.prog 18 #[.string a, .string b, .int .i64 n] w fun e w' => e = .returned (.tuple #[.string ⟨(E.tear a.data.toList b.data.toList n).toArray⟩, .nilIface]) ∧ Qt w w' := by
  have h := tear_any er el ef a b n w (by omega) (by omega) hE
  have la := dlen7 a
  have lb := dlen7 b
  rw [show E.tearR a.data.toList b.data.toList n = (E.tear a.data.toList b.data.toList n, 0) by unfold E.tearR; rw [if_neg (by omega), if_neg (by omega)]; rfl] at h
  exact h

/-- The loop over the probes. -/
def ProbeAt (w : World) (g : Nat) (x : Nat → Nat) (i : Value) (wr : World) : Prop := ∃ k : Nat, k ≤ 5 ∧ i = .int .i64 k ∧ (∀ j, j < 5 → wr.cell? ⟨g, j, none⟩ = some (.int .u64 (x j : Nat))) ∧ Qt w wr
theorem ProbeAt.next {w wr : World} {g k : Nat} {x : Nat → Nat} (hk : k < 5) (hc : ∀ j, j < 5 → wr.cell? ⟨g, j, none⟩ = some (.int .u64 (x j : Nat))) (q : Qt w wr) {W : World} (q2 : Qt wr W) : ProbeAt w g x (.int .i64 ((k : Int) + 1)) W :=
  ⟨k + 1, hk, by push_cast; rfl, fun j hj => q2.cellv (hc j hj), Qt.trans q q2⟩
def five (a b c d e : Nat) (j : Nat) : Nat := match j with | 0 => a | 1 => b | 2 => c | 3 => d | _ => e
theorem five_lt {a b c d e N : Nat} (h1 : a < N) (h2 : b < N) (h3 : c < N) (h4 : d < N) (h5 : e < N) (j : Nat) : five a b c d e j < N := by
  unfold five; split <;> assumption
theorem ProbeAt.start {w w3 : World} {a b c d e : Nat} (q : Qt w w3) : ProbeAt w w3.heap.size (five a b c d e) (.int .i64 0) (w3.alloc (.cells #[.int .u64 (a : Nat), .int .u64 (b : Nat), .int .u64 (c : Nat), .int .u64 (d : Nat), .int .u64 (e : Nat)] 24)) := by
  have hn := heap_alloc_new w3 (.cells #[.int .u64 (a : Nat), .int .u64 (b : Nat), .int .u64 (c : Nat), .int .u64 (d : Nat), .int .u64 (e : Nat)] 24)
  refine ⟨0, by omega, rfl, fun j hj => ?_, Keeps.alloc q _⟩
  rw [cell_of_row _ _ _ _ _ _ hn]
  match j, hj with
  | 0, _ => rfl
  | 1, _ => rfl
  | 2, _ => rfl
  | 3, _ => rfl
  | 4, _ => rfl

set_option maxHeartbeats 6400000 in
/-- The tear itself, behind both sectors: what is asked of it. -/
theorem tearLaw_any (er el ef : Addr) (o st third : Nat) (was s : ByteArray) (n : Int) (w : World) (ho : o < 18446744073709551616) (hst : st < 18446744073709551616) (h3 : third < 18446744073709551616) (hE : E3 er el ef w) (hT : Tab w) :
    Calls Tryd.prog 5 #[.int .u64 o, .string was, .int .u64 st, .string s, .int .i64 n, .int .u64 third] w fun e w' => e = .returned (.bool true) ∧ Qt w w' := by
  have FX := Lib.hid (fixed_any _ _ _ w hE hT)
  by_cases hz : st = 0
  · subst hz
    clear hE hT
    go_enter Tryd.func5, Tryd.ntmps5
    go_wp2_with fail
    refine FX.out.mono ?_
    rintro e w1 ⟨rfl, k⟩
    have K1 := Lib.hid k; clear k
    go_wp2
    go_ret
    exact ⟨rfl, K1.out⟩
  · have hz2 : ((st : Int) == 0) = false := by rw [beq_eq_false_iff_ne]; omega
    by_cases he : st = o
    · subst he
      clear hE hT
      go_enter Tryd.func5, Tryd.ntmps5
      go_wp2_with fail
      refine FX.out.mono ?_
      rintro e w1 ⟨rfl, k⟩
      have K1 := Lib.hid k; clear k
      go_wp2
      go_ret
      exact ⟨rfl, K1.out⟩
    · have he2 : ((st : Int) == (o : Int)) = false := by rw [beq_eq_false_iff_ne]; omega
      have C1 := Lib.hid (fun W => cut_any was W)
      have C2 := Lib.hid (fun W => cut_any s W)
      have lc2 := cutL_length s
      have lc1 := cutL_length was
      obtain ⟨k, hkw, hk⟩ : ∃ k : Nat, wrap64 ((IntKind.u64.wrap n).tmod 257) = (k : Int) ∧ k ≤ 256 := by
        have q0 : 0 ≤ IntKind.u64.wrap n := by rw [IntKind.wrap_u64]; omega
        have q1 : (IntKind.u64.wrap n).tmod 257 = IntKind.u64.wrap n % 257 := Int.tmod_eq_emod_of_nonneg q0
        rw [q1]
        refine ⟨(IntKind.u64.wrap n % 257).toNat, ?_, by omega⟩
        unfold wrap64
        omega
      by_cases h0 : o = 0
      · skip
        subst h0
        obtain ⟨A, hA⟩ : ∃ A : ByteArray, A = ⟨(List.replicate 256 0).toArray⟩ := ⟨_, rfl⟩
        have hAl : A.data.toList = List.replicate 256 0 := by rw [hA]
        have fA : E.front A.data.toList = 0 := by rw [hAl]; unfold E.front; rw [List.take_replicate]; exact E.num_zeros _
        have bA : E.back A.data.toList = 0 := by rw [hAl]; unfold E.back; rw [List.drop_replicate]; exact E.num_zeros _
        have zA : A.size = 256 := by rw [← dlen7, hAl, List.length_replicate]
        have hcv := fun W => (zeros_conv (w := W) (c := 256) (Qt.refl _)).trans (by rw [← hA])
        obtain ⟨B, hB⟩ : ∃ B : ByteArray, B = ⟨(E.sct st (cutL s)).toArray⟩ := ⟨_, rfl⟩
        have hBl : B.data.toList = E.sct st (cutL s) := by rw [hB]
        have fB : E.front B.data.toList = st := by rw [hBl]; exact E.sct_front hst _
        have bB : E.back B.data.toList = st := by rw [hBl]; exact E.sct_back hst lc2
        have zB : B.size = 256 := by rw [← dlen7, hBl]; exact E.sct_length st lc2
        have cBB : E.counts st B.data.toList = true := by rw [hBl]; exact E.counts_sct hz lc2
        have SB := Lib.hid (fun W (k : Qt w W) => seal_good er el ef st (cutL s) W hst hz lc2 (hE.qt k) (hT.qt k))
        rw [← hB] at SB
        clear hB hBl hA hAl lc1 lc2
        have laA := dlen7 A
        have laB := dlen7 B
        have OT := Lib.hid (fun (x : Nat) (hx : x < 18446744073709551616) (hc : E.counts x (E.tear A.data.toList B.data.toList k) = true) => E.one_tear (a := A.data.toList) (b := B.data.toList) (by omega) (by omega) fA bA fB bB he hk hx hc)
        obtain ⟨T, hTT⟩ : ∃ T : ByteArray, T = ⟨(E.tear A.data.toList B.data.toList k).toArray⟩ := ⟨_, rfl⟩
        have hTl : T.data.toList = E.tear A.data.toList B.data.toList k := by rw [hTT]
        have zT : T.size = 256 := by rw [← dlen7, hTl]; exact E.tear_length (by omega) (by omega) hk
        obtain ⟨X1, O2, hx, ho', hX, hsz⟩ := torn7 A B zA zB k hk
        rw [← hTT] at hX
        rw [← hTl] at OT
        have TE := Lib.hid (fun W (q : Qt w W) => tear_good er el ef A B k W zA zB hk (hE.qt q))
        rw [← hTT] at TE
        have EN := Lib.hid (fun W (q : Qt w W) => ends_good er el ef T W zT (hE.qt q))
        have CN := Lib.hid (fun x (hx : x < 18446744073709551616) W (q : Qt w W) => counts_any er el ef x T W hx (hE.qt q) (hT.qt q))
        have CB := Lib.hid (fun W (q : Qt w W) => CN.out st hst W q)
        have qB : (E.counts st T.data.toList == (T.toList == B.toList)) = true := by
          rw [Lib.toList_data, Lib.toList_data]
          cases hc : E.counts st T.data.toList with
          | true =>
            rcases OT.out st hst hc with ⟨_, h⟩ | ⟨h, _⟩
            · rw [h]; simp
            · exact absurd h he
          | false =>
            have : T.data.toList ≠ B.data.toList := by intro h; rw [h, cBB] at hc; cases hc
            rw [beq_eq_false_iff_ne.2 this]; rfl
        have NO := Lib.hid (fun (x : Nat) (hx : x < 18446744073709551616) (h1 : x ≠ st) (h2 : x ≠ 0) => (show E.counts x T.data.toList = false by
          cases hc : E.counts x T.data.toList with
          | false => rfl
          | true =>
            rcases OT.out x hx hc with ⟨h, _⟩ | ⟨h, _⟩
            · exact absurd h h1
            · exact absurd h h2))
        have hfr : E.front T.data.toList < 18446744073709551616 := by
          have h := E.num_lt (T.data.toList.take 8)
          have h2 : (T.data.toList.take 8).length ≤ 8 := by rw [List.length_take]; omega
          exact Nat.lt_of_lt_of_le h (Nat.le_trans (Nat.pow_le_pow_right (by decide) h2) (by decide))
        have hXe : (T.toList == (X1 ++ O2).toList) = true := by rw [hX]; simp
        obtain ⟨p4, hp4, hp4l⟩ : ∃ p : Nat, IntKind.u64.wrap ((st : Int) + 1) = (p : Int) ∧ p < 18446744073709551616 := ⟨(IntKind.u64.wrap ((st : Int) + 1)).toNat, by rw [IntKind.wrap_u64]; omega, by rw [IntKind.wrap_u64]; omega⟩
        clear hE hT fA bA fB bB zA zB laA laB cBB hTT hTl OT hX zT
        generalize E.front T.data.toList = fr at *
        generalize E.back T.data.toList = bk at *
        generalize hcb : E.counts st T.data.toList = cb at *
        have hmk := fun W => (show (Instr.makeSlice 48 (.int .i64 256) (.int .i64 256)).run Tryd.prog W = .ok (.slice (some ⟨W.heap.size, 0, none⟩) 256 256) (W.alloc (.cells (madeCells #[Value.int .u8 0] 256) 5)) from make_zeros W 256 (by omega))
        go_enter Tryd.func5, Tryd.ntmps5
        go_wp2_with fail
        refine FX.out.mono ?_
        rintro e w1 ⟨rfl, k⟩
        have K1 := Lib.hid k; clear k
        have hcv1 := hcv w1
        have K1' := Lib.hid (Keeps.alloc K1.out (.cells (madeCells #[Value.int .u8 0] 256) 5))
        clear hcv
        have K3 := Lib.hid K1'.out
        go_wp2_with fail
        refine (C2.out _).mono ?_
        rintro e w4 ⟨rfl, rfl⟩
        go_wp2_with fail
        refine (SB.out _ K3.out).mono ?_
        rintro e w5 ⟨rfl, k⟩
        have K5 := Lib.hid (Qt.trans K3.out k); clear k
        go_wp2_with fail
        refine (TE.out _ K5.out).mono ?_
        rintro e w6 ⟨rfl, k⟩
        have K6 := Lib.hid (Qt.trans K5.out k); clear k
        go_wp2
        go_quiet (fail)
        have K7 := Lib.hid (show Qt w (w6.drewN nq) from Qt.trans K6.out (Keeps.drewN (Qt.refl _) _))
        generalize w6.drewN nq = w7 at *
        go_wp2_with fail
        refine (CB.out _ K7.out).mono ?_
        rintro e w8 ⟨rfl, k⟩
        have K8 := Lib.hid (Qt.trans K7.out k); clear k
        have K8b := K8
        go_wp2_with fail
        refine (EN.out _ K8b.out).mono ?_
        rintro e w9 ⟨rfl, k⟩
        have K9 := Lib.hid (Qt.trans K8b.out k); clear k
        have START := Lib.hid (ProbeAt.start (a := third) (b := fr) (c := 1) (d := 1) (e := p4) K9.out)
        go_wp2
        go_loopw [22, 115] (fun _ i wr => ProbeAt w w9.heap.size (five third fr 1 1 p4) i wr) (fun _ i _ => 5 - (intOf i).toNat)
        case atStart => exact START.out
        case round =>
          obtain ⟨m, hm, rfl, hc, q⟩ := hrel
          have HQ := Lib.hid q; clear q
          by_cases hlt : m < 5
          · have hcm := hc m hlt
            have HC := Lib.hid hc; clear hc
            have hy : five third fr 1 1 p4 m < 18446744073709551616 := five_lt (by omega) (by omega) (by omega) (by omega) (by omega) m
            have FIN := Lib.hid (fun W (q2 : Qt wr W) => ProbeAt.next (k := m) hlt HC.out HQ.out q2)
            generalize five third fr 1 1 p4 m = y at hcm hy
            by_cases y1 : y = st
            · subst y1
              have FIN2 := Lib.hid (FIN.out _ (Qt.refl _))
              go_wp2
              exact ⟨FIN2.out, by simp [intOf]; omega⟩
            · have y1b : ((y : Int) == (st : Int)) = false := by rw [beq_eq_false_iff_ne]; omega
              by_cases y2 : y = 0
              · subst y2
                have FIN2 := Lib.hid (FIN.out _ (Qt.refl _))
                go_wp2
                exact ⟨FIN2.out, by simp [intOf]; omega⟩
              · have y2b : ((y : Int) == (0 : Int)) = false := by rw [beq_eq_false_iff_ne]; omega
                have CY := CN.out y hy wr HQ.out
                rw [NO.out y hy y1 y2] at CY
                have CYH := Lib.hid CY; clear CY
                go_wp2_with fail
                refine CYH.out.mono ?_
                rintro e wx ⟨rfl, kx⟩
                have FIN2 := Lib.hid (FIN.out _ kx)
                go_wp2
                exact ⟨FIN2.out, by simp [intOf]; omega⟩
          · obtain rfl : m = 5 := by omega
            clear hc
            go_wp2
            go_ret
            exact ⟨rfl, HQ.out⟩
      · skip
        obtain ⟨A, hA⟩ : ∃ A : ByteArray, A = ⟨(E.sct o (cutL was)).toArray⟩ := ⟨_, rfl⟩
        have hAl : A.data.toList = E.sct o (cutL was) := by rw [hA]
        have fA : E.front A.data.toList = o := by rw [hAl]; exact E.sct_front ho _
        have bA : E.back A.data.toList = o := by rw [hAl]; exact E.sct_back ho lc1
        have zA : A.size = 256 := by rw [← dlen7, hAl]; exact E.sct_length o lc1
        have SA := Lib.hid (fun W (k : Qt w W) => seal_good er el ef o (cutL was) W ho h0 lc1 (hE.qt k) (hT.qt k))
        rw [← hA] at SA
        have cAA : E.counts o A.data.toList = true := by rw [hAl]; exact E.counts_sct h0 lc1
        have ho2 : ((o : Int) == 0) = false := by rw [beq_eq_false_iff_ne]; omega
        have hcv := fun W => (zeros_conv (w := W) (c := 256) (Qt.refl _))
        obtain ⟨B, hB⟩ : ∃ B : ByteArray, B = ⟨(E.sct st (cutL s)).toArray⟩ := ⟨_, rfl⟩
        have hBl : B.data.toList = E.sct st (cutL s) := by rw [hB]
        have fB : E.front B.data.toList = st := by rw [hBl]; exact E.sct_front hst _
        have bB : E.back B.data.toList = st := by rw [hBl]; exact E.sct_back hst lc2
        have zB : B.size = 256 := by rw [← dlen7, hBl]; exact E.sct_length st lc2
        have cBB : E.counts st B.data.toList = true := by rw [hBl]; exact E.counts_sct hz lc2
        have SB := Lib.hid (fun W (k : Qt w W) => seal_good er el ef st (cutL s) W hst hz lc2 (hE.qt k) (hT.qt k))
        rw [← hB] at SB
        clear hB hBl hA hAl lc1 lc2
        have laA := dlen7 A
        have laB := dlen7 B
        have OT := Lib.hid (fun (x : Nat) (hx : x < 18446744073709551616) (hc : E.counts x (E.tear A.data.toList B.data.toList k) = true) => E.one_tear (a := A.data.toList) (b := B.data.toList) (by omega) (by omega) fA bA fB bB he hk hx hc)
        obtain ⟨T, hTT⟩ : ∃ T : ByteArray, T = ⟨(E.tear A.data.toList B.data.toList k).toArray⟩ := ⟨_, rfl⟩
        have hTl : T.data.toList = E.tear A.data.toList B.data.toList k := by rw [hTT]
        have zT : T.size = 256 := by rw [← dlen7, hTl]; exact E.tear_length (by omega) (by omega) hk
        obtain ⟨X1, O2, hx, ho', hX, hsz⟩ := torn7 A B zA zB k hk
        rw [← hTT] at hX
        rw [← hTl] at OT
        have TE := Lib.hid (fun W (q : Qt w W) => tear_good er el ef A B k W zA zB hk (hE.qt q))
        rw [← hTT] at TE
        have EN := Lib.hid (fun W (q : Qt w W) => ends_good er el ef T W zT (hE.qt q))
        have CN := Lib.hid (fun x (hx : x < 18446744073709551616) W (q : Qt w W) => counts_any er el ef x T W hx (hE.qt q) (hT.qt q))
        have CB := Lib.hid (fun W (q : Qt w W) => CN.out st hst W q)
        have CA := Lib.hid (fun W (q : Qt w W) => CN.out o ho W q)
        have qB : (E.counts st T.data.toList == (T.toList == B.toList)) = true := by
          rw [Lib.toList_data, Lib.toList_data]
          cases hc : E.counts st T.data.toList with
          | true =>
            rcases OT.out st hst hc with ⟨_, h⟩ | ⟨h, _⟩
            · rw [h]; simp
            · exact absurd h he
          | false =>
            have : T.data.toList ≠ B.data.toList := by intro h; rw [h, cBB] at hc; cases hc
            rw [beq_eq_false_iff_ne.2 this]; rfl
        have qA : (E.counts o T.data.toList == (T.toList == A.toList)) = true := by
          rw [Lib.toList_data, Lib.toList_data]
          cases hc : E.counts o T.data.toList with
          | true =>
            rcases OT.out o ho hc with ⟨h, _⟩ | ⟨_, h⟩
            · exact absurd h.symm he
            · rw [h]; simp
          | false =>
            have : T.data.toList ≠ A.data.toList := by intro h; rw [h, cAA] at hc; cases hc
            rw [beq_eq_false_iff_ne.2 this]; rfl
        have NO := Lib.hid (fun (x : Nat) (hx : x < 18446744073709551616) (h1 : x ≠ st) (h2 : x ≠ o) => (show E.counts x T.data.toList = false by
          cases hc : E.counts x T.data.toList with
          | false => rfl
          | true =>
            rcases OT.out x hx hc with ⟨h, _⟩ | ⟨h, _⟩
            · exact absurd h h1
            · exact absurd h h2))
        have hfr : E.front T.data.toList < 18446744073709551616 := by
          have h := E.num_lt (T.data.toList.take 8)
          have h2 : (T.data.toList.take 8).length ≤ 8 := by rw [List.length_take]; omega
          exact Nat.lt_of_lt_of_le h (Nat.le_trans (Nat.pow_le_pow_right (by decide) h2) (by decide))
        have hXe : (T.toList == (X1 ++ O2).toList) = true := by rw [hX]; simp
        obtain ⟨p3, hp3, hp3l⟩ : ∃ p : Nat, IntKind.u64.wrap ((o : Int) + 1) = (p : Int) ∧ p < 18446744073709551616 := ⟨(IntKind.u64.wrap ((o : Int) + 1)).toNat, by rw [IntKind.wrap_u64]; omega, by rw [IntKind.wrap_u64]; omega⟩
        obtain ⟨p4, hp4, hp4l⟩ : ∃ p : Nat, IntKind.u64.wrap ((st : Int) + 1) = (p : Int) ∧ p < 18446744073709551616 := ⟨(IntKind.u64.wrap ((st : Int) + 1)).toNat, by rw [IntKind.wrap_u64]; omega, by rw [IntKind.wrap_u64]; omega⟩
        clear hE hT fA bA fB bB zA zB laA laB cBB hTT hTl OT hX zT cAA
        generalize E.front T.data.toList = fr at *
        generalize E.back T.data.toList = bk at *
        generalize hcb : E.counts st T.data.toList = cb at *
        have hmk := fun W => (show (Instr.makeSlice 48 (.int .i64 256) (.int .i64 256)).run Tryd.prog W = .ok (.slice (some ⟨W.heap.size, 0, none⟩) 256 256) (W.alloc (.cells (madeCells #[Value.int .u8 0] 256) 5)) from make_zeros W 256 (by omega))
        go_enter Tryd.func5, Tryd.ntmps5
        go_wp2_with fail
        refine FX.out.mono ?_
        rintro e w1 ⟨rfl, k⟩
        have K1 := Lib.hid k; clear k
        have hcv1 := hcv w1
        have K1' := Lib.hid (Keeps.alloc K1.out (.cells (madeCells #[Value.int .u8 0] 256) 5))
        clear hcv
        go_wp2_with fail
        refine (C1.out _).mono ?_
        rintro e w2 ⟨rfl, rfl⟩
        go_wp2_with fail
        refine (SA.out _ K1'.out).mono ?_
        rintro e w3 ⟨rfl, k⟩
        have K3 := Lib.hid (Qt.trans K1'.out k); clear k
        go_wp2_with fail
        refine (C2.out _).mono ?_
        rintro e w4 ⟨rfl, rfl⟩
        go_wp2_with fail
        refine (SB.out _ K3.out).mono ?_
        rintro e w5 ⟨rfl, k⟩
        have K5 := Lib.hid (Qt.trans K3.out k); clear k
        go_wp2_with fail
        refine (TE.out _ K5.out).mono ?_
        rintro e w6 ⟨rfl, k⟩
        have K6 := Lib.hid (Qt.trans K5.out k); clear k
        go_wp2
        go_quiet (fail)
        have K7 := Lib.hid (show Qt w (w6.drewN nq) from Qt.trans K6.out (Keeps.drewN (Qt.refl _) _))
        generalize w6.drewN nq = w7 at *
        go_wp2_with fail
        refine (CB.out _ K7.out).mono ?_
        rintro e w8 ⟨rfl, k⟩
        have K8 := Lib.hid (Qt.trans K7.out k); clear k
        go_wp2_with fail
        refine (CA.out _ K8.out).mono ?_
        rintro e w8b ⟨rfl, k⟩
        have K8b := Lib.hid (Qt.trans K8.out k); clear k
        go_wp2_with fail
        refine (EN.out _ K8b.out).mono ?_
        rintro e w9 ⟨rfl, k⟩
        have K9 := Lib.hid (Qt.trans K8b.out k); clear k
        have START := Lib.hid (ProbeAt.start (a := third) (b := fr) (c := 1) (d := p3) (e := p4) K9.out)
        go_wp2
        go_loopw [22, 115] (fun _ i wr => ProbeAt w w9.heap.size (five third fr 1 p3 p4) i wr) (fun _ i _ => 5 - (intOf i).toNat)
        case atStart => exact START.out
        case round =>
          obtain ⟨m, hm, rfl, hc, q⟩ := hrel
          have HQ := Lib.hid q; clear q
          by_cases hlt : m < 5
          · have hcm := hc m hlt
            have HC := Lib.hid hc; clear hc
            have hy : five third fr 1 p3 p4 m < 18446744073709551616 := five_lt (by omega) (by omega) (by omega) (by omega) (by omega) m
            have FIN := Lib.hid (fun W (q2 : Qt wr W) => ProbeAt.next (k := m) hlt HC.out HQ.out q2)
            generalize five third fr 1 p3 p4 m = y at hcm hy
            by_cases y1 : y = st
            · subst y1
              have FIN2 := Lib.hid (FIN.out _ (Qt.refl _))
              go_wp2
              exact ⟨FIN2.out, by simp [intOf]; omega⟩
            · have y1b : ((y : Int) == (st : Int)) = false := by rw [beq_eq_false_iff_ne]; omega
              by_cases y2 : y = o
              · subst y2
                have FIN2 := Lib.hid (FIN.out _ (Qt.refl _))
                go_wp2
                exact ⟨FIN2.out, by simp [intOf]; omega⟩
              · have y2b : ((y : Int) == (o : Int)) = false := by rw [beq_eq_false_iff_ne]; omega
                have CY := CN.out y hy wr HQ.out
                rw [NO.out y hy y1 y2] at CY
                have CYH := Lib.hid CY; clear CY
                go_wp2_with fail
                refine CYH.out.mono ?_
                rintro e wx ⟨rfl, kx⟩
                have FIN2 := Lib.hid (FIN.out _ kx)
                go_wp2
                exact ⟨FIN2.out, by simp [intOf]; omega⟩
          · obtain rfl : m = 5 := by omega
            clear hc
            go_wp2
            go_ret
            exact ⟨rfl, HQ.out⟩
end Go.Proofs.YtojcpegdbnnmdaaDoor
