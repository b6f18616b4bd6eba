/-
  The contract of remitlaw09.step: any Op.
  The contract of remitlaw09.AreaPlays, over area's calls: it answers true.
-/
import Derived.Test.YtcapifhmmkmboaaDoorP35
import Derived.Test.YtcapifhmmkmboaaDoorP36
import Derived.Test.YtcapifhmmkmboaaDoorP24
import Derived.Test.YtcapifhmmkmboaaDoorP31
import Derived.BigQuiet
import Derived.Deep.DeepCutAuto
import Derived.Outline
namespace Go.Proofs.YtcapifhmmkmboaaDoor
open Go.RowKit Go.WideShapes
set_option maxRecDepth 100000
theorem step9_any {ad : Nat → Addr} {w0 w : World} {j b c f : Nat} {d : DS} (H : AreaH ad) (hE : Errs ad w0) (hT : Tab w0) (h : Pair j w0 w b c d d) (hf : d.FewN f) (hf2 : f ≤ 1073000000) (o : OpQ) (ho : o.Ok w0) :
    Calls Tryd.prog 14 #[.pointer (some ⟨b, 0, none⟩), .pointer (some ⟨c, 0, none⟩), o.val] w (StepP9 w0 b c f) := by
  obtain ⟨ka, kc, hkv, _⟩ := id ho.kept
  have hB := ho.kept
  have hfk := ho.few
  have hst := ho.st
  have hn := ho.n
  obtain ⟨kind, i, n, st, bytes, seed, kv, ft⟩ := o
  simp only at hkv hB hfk hst hn
  subst hkv
  by_cases h0 : kind = 0
  · subst h0; exact step9_write H hE hT h hf hf2 i n st hst hn bytes seed _ ft
  by_cases h1 : kind = 1
  · subst h1; exact step9_read H hE hT h hf hf2 i n st hst hn bytes seed _ ft
  by_cases h2 : kind = 2
  · subst h2; exact step9_flush hE h hf hf2 i n st bytes seed _ ft
  by_cases h3 : kind = 3
  · subst h3; exact step9_arm h hf i n hn st bytes seed _ ft
  by_cases h4 : kind = 4
  · subst h4; exact step9_crash h hf hf2 i n st bytes seed ka kc ft hB hfk
  by_cases h5 : kind = 5
  · subst h5; exact step9_turn hE h hf hf2 i n st bytes seed _ ft
  exact step9_none h hf kind h0 h1 h2 h3 h4 h5 i n st bytes seed _ ft
end Go.Proofs.YtcapifhmmkmboaaDoor
namespace Go.Proofs.YtcapifhmmkmboaaDoor
open Go.RowKit Go.WideShapes
set_option maxRecDepth 100000

theorem pair_new9 {w0 w1 w2 w3 : World} {b c : Nat} {d : DS} (q1 : Qt w0 w1) (hD : DiskAt w2 b d (Grow (fun _ => False) w1 w2)) (q2 : Qt w1 w2) (hR : RefAt w3 c d (Grow (fun _ => False) w2 w3)) (q3 : Qt w2 w3) : Pair w3.heap.size w0 w3 b c d d := by
  have z1 := q1.size
  have z2 := q2.size
  have z3 := q3.size
  refine ⟨_, _, hD.qt q3, hR, ?_, ?_, ?_, Qt.since (Qt.trans (Qt.trans q1 q2) q3)⟩
  · rintro k (e | e) (f | f)
    · exact e
    · exact e
    · exact f
    · omega
  · rintro k (e | e)
    · exact e.elim
    · omega
  · rintro k (e | e)
    · exact e.elim
    · omega
theorem newN9 (n : Nat) : (DS.newD n).FewN 0 := ⟨Nat.le_refl _, Nat.le_refl _, Nat.le_refl _, Nat.le_refl _⟩
section
variable {w0 w : World} {j b c : Nat} {d u : DS}
theorem pair_counts (h : Pair j w0 w b c d u) : Calls Tryd.prog 15 #[.pointer (some ⟨b, 0, none⟩)] w fun e w' => e = .returned (.tuple #[.int .i64 d.wr, .int .i64 d.fl]) ∧ Qt w w' := by
  obtain ⟨S, T, h1, h2, h3, h4, h5, h6⟩ := h
  exact counts_any h1
theorem pair_pending (h : Pair j w0 w b c d u) : Calls Tryd.prog 16 #[.pointer (some ⟨b, 0, none⟩)] w fun e w' => e = .returned (.int .i64 d.ways.length) ∧ w' = w := by
  obtain ⟨S, T, h1, h2, h3, h4, h5, h6⟩ := h
  exact (pending_any h1).mono fun _ _ ⟨h1, h2⟩ => ⟨h1, h2.symm⟩
theorem pairR_cells (h : Pair j w0 w b c d u) : ∃ a cap, w.cell? ⟨c, 1, none⟩ = some (.slice a u.ways.length cap) ∧ w.cell? ⟨c, 5, none⟩ = some (.int .i64 u.wr) ∧ w.cell? ⟨c, 6, none⟩ = some (.int .i64 u.fl) := by
  obtain ⟨S, T, h1, ⟨sv, wv, P, hT⟩, h3, h4, h5, h6⟩ := h
  have hc : ∀ (i : Nat) (v : Value), (refCells sv wv u)[i]? = some v → w.cell? ⟨c, i, none⟩ = some v := fun i v hv => by rw [cell_of_row _ _ _ _ _ _ P.cells]; exact hv
  obtain ⟨a, cap, rfl⟩ : ∃ a cap, wv = .slice a u.ways.length cap := by
    rcases P.ways.2 with ⟨rfl, h0⟩ | ⟨g, cap, cur, rfl, _⟩
    · exact ⟨none, 0, by rw [h0]⟩
    · exact ⟨_, cap, rfl⟩
  exact ⟨a, cap, hc 1 _ rfl, hc 5 _ rfl, hc 6 _ rfl⟩
end
/-- An Op loaded into a block of its own. -/
theorem laid_op9 (w : World) (o : OpQ) : ∃ W, w.alloc (.cells #[.int .i64 o.kind, .int .i64 o.i, .int .i64 o.n, .int .u64 o.st, .int .i64 o.bytes, .int .u64 o.seed, o.kv, .int .i64 o.f.torn, .int .i64 o.f.bytes] 40) = W ∧ Qt w W ∧ W.heap[w.heap.size]? = some (.cells o.list.toArray 40 (0, 0)) :=
  ⟨_, rfl, (Qt.refl w).alloc _, heap_alloc_new w _⟩

/-- What the loop keeps. -/
def PlayAt9 (w0 : World) (b c N : Nat) (iv : Value) (wr : World) : Prop := ∃ (n j : Nat) (d : DS), n ≤ N ∧ iv = .int .i64 n ∧ d.FewN (10 * n) ∧ Pair j w0 wr b c d d

set_option maxHeartbeats 3200000 in
theorem plays9_any (ad : Nat → Addr) (H : AreaH ad) (n : Int) (v : Value) (g off : Nat) (os : List OpQ) (w : World) (hN : os.length ≤ 100000000) (hok : ∀ (k : Nat) (o : OpQ), os[k]? = some o → o.Ok w) (hs : Recs 9 OpQ.list w v g off os) (hE : Errs ad w) (hT : Tab w) :
    Calls Tryd.prog 4 #[.int .i64 n, v] w fun e w' => e = .returned (.bool true) ∧ Qt w w' := by
  have HE := Lib.hid hE
  have HT := Lib.hid hT
  have HSC := Lib.hid hs
  have HOK := Lib.hid hok
  have LV := lives9_any ad H w hE hT
  obtain ⟨va, vc, rfl, _⟩ := hs.val
  have hmw : wrap64 (1 + wrap64 ((IntKind.u64.wrap n).tmod 40)) = ((1 + modU n 40 : Nat) : Int) := by
    have h := modU_wrap n 40 (by decide) (by decide)
    have h2 := Nat.mod_lt ((n % 18446744073709551616).toNat) (show 0 < 40 by decide)
    rw [show ((40 : Nat) : Int) = 40 from rfl] at h
    rw [h]
    unfold modU wrap64
    omega
  have hm40 : 1 ≤ 1 + modU n 40 ∧ 1 + modU n 40 ≤ 40 := by have : modU n 40 < 40 := Nat.mod_lt _ (by decide); omega
  generalize 1 + modU n 40 = m at *
  clear hok hs hE hT
  go_enter Tryd.func4, Tryd.ntmps4
  go_wp2_with fail
  refine LV.mono ?_
  rintro e w1 ⟨rfl, q1⟩
  have K1 := Lib.hid q1
  clear q1 LV
  go_wp2_with fail
  refine (new_any ad m w1 (HE.out.kept K1.out (OffErrs.none ad))).mono ?_
  rintro e w2 (⟨hno, rfl, q2⟩ | ⟨n1, n2, b, rfl, hD, q2⟩)
  · exact absurd ⟨by omega, by omega⟩ hno
  have K2 := Lib.hid q2
  have HD := Lib.hid hD
  clear q2 hD
  go_wp2_with fail
  refine (ref_new m w2).mono ?_
  rintro e w3 (⟨hno, rfl, q3⟩ | ⟨_, _, c, rfl, hR, q3⟩)
  · exact absurd ⟨n1, n2⟩ hno
  rw [Int.toNat_natCast] at *
  have HP := Lib.hid (pair_new9 K1.out HD.out K2.out hR q3)
  have START := Lib.hid (show PlayAt9 w b c os.length (.int .i64 0) w3 from ⟨0, _, _, Nat.zero_le _, rfl, newN9 m, HP.out⟩)
  clear q3 hR HP HD K1 K2
  go_wp2
  go_loopw [39] (fun iv wr => PlayAt9 w b c os.length iv wr) (fun iv _ => os.length - (intOf iv).toNat)
  case atStart => exact START.out
  case round =>
    obtain ⟨k, jn, dn, hk, rfl, hI, hP⟩ := hrel
    by_cases hlt : k < os.length
    · obtain ⟨o, cap, ho, hval⟩ := HSC.out.elem hlt
      injection hval with hva _ hvc
      subst hva hvc
      have HO := HOK.out k o ho
      have hq := hP.since.qt
      have c0 : wr.cell? ⟨g, off + k * 9, none⟩ = some (.int .i64 o.kind) := HSC.out.qt hq ho 0 _ rfl
      have c1 := HSC.out.qt hq ho 1 (.int .i64 o.i) rfl
      have c2 := HSC.out.qt hq ho 2 (.int .i64 o.n) rfl
      have c3 := HSC.out.qt hq ho 3 (.int .u64 o.st) rfl
      have c4 := HSC.out.qt hq ho 4 (.int .i64 o.bytes) rfl
      have c5 := HSC.out.qt hq ho 5 (.int .u64 o.seed) rfl
      have c6 := HSC.out.qt hq ho 6 o.kv rfl
      have c7 := HSC.out.qt hq ho 7 (.int .i64 o.f.torn) rfl
      have c8 := HSC.out.qt hq ho 8 (.int .i64 o.f.bytes) rfl
      obtain ⟨WA, hWA, qA, hBA⟩ := laid_op9 wr o
      obtain ⟨d0, d1, d2, d3, d4, d5, d6, d7, d8⟩ := op9_cells hBA
      have HWA := Lib.hid hWA
      have ST := Lib.hid (step9_any H HE.out HT.out (hP.qt qA) hI (by omega) o HO)
      have NX := Lib.hid (fun (e : Ending) (W : World) (h : StepP9 w b c (10 * k) e W) => h.2)
      obtain ⟨ka, kc, hkv, _⟩ := HO.kept
      clear hWA qA hBA hP hI HO ho hq
      obtain ⟨kind, i, n', st, bytes, seed, kv, f⟩ := o
      simp only at hkv
      subst hkv
      simp only at c0 c1 c2 c3 c4 c5 c6 c7 c8 d0 d1 d2 d3 d4 d5 d6 d7 d8 HWA
      unfold OpQ.val OpQ.list at ST
      simp only at ST
      go_wp2_with fail
      rw [HWA.out]
      go_wp2_with fail
      refine ST.out.mono ?_
      rintro e w5 h5
      obtain ⟨j5, d5', hf5, P5⟩ := NX.out _ _ h5
      obtain ⟨rfl, _⟩ := h5
      have HP5 := Lib.hid P5
      have HF5 := Lib.hid hf5
      clear P5 hf5 c0 c1 c2 c3 c4 c5 c6 c7 c8 d0 d1 d2 d3 d4 d5 d6 d7 d8 ST
      go_wp2_with fail
      refine (pair_counts HP5.out).mono ?_
      rintro e w6 ⟨rfl, q6⟩
      have HP6 := Lib.hid (HP5.out.qt q6)
      clear q6
      obtain ⟨ra, rc, r1, r5, r6⟩ := pairR_cells HP6.out
      have PN := Lib.hid (fun nn => pair_pending (HP6.out.qt (Keeps.drewN (Qt.refl w6) nn)))
      have zw : ((d5'.wr : Int) != (d5'.wr : Int)) = false := bne_self_eq_false _
      have zf : ((d5'.fl : Int) != (d5'.fl : Int)) = false := bne_self_eq_false _
      have zp : ((d5'.ways.length : Int) != (d5'.ways.length : Int)) = false := bne_self_eq_false _
      have FIN := Lib.hid (fun (W : World) (q : Qt w6 W) => (show PlayAt9 w b c os.length (.int .i64 ((k : Int) + 1)) W from ⟨k + 1, j5, d5', hlt, by push_cast; rfl, HF5.out.mono (by omega), HP6.out.qt q⟩))
      go_wp2
      go_quiet ((go_at_call 16; with_reducible exact Calls.quiet_of_same (PN.out _)))
      go_wp2
      exact ⟨FIN.out _ (Keeps.drewN (Qt.refl w6) _), by simp [intOf]; omega⟩
    · have HP := Lib.hid hP
      have hkN : k = os.length := by omega
      subst hkN
      clear hI hP hlt
      go_wp2_with fail
      refine (pair_image HP.out).mono ?_
      rintro e w5 ⟨rfl, q5⟩
      have HP5 := Lib.hid (HP.out.qt q5)
      clear q5
      go_wp2_with fail
      refine (pairR_image HP5.out).mono ?_
      rintro e w6 ⟨rfl, q6⟩
      have FIN := Lib.hid (HP5.out.qt q6).since.qt
      clear q6
      go_wp2
      go_ret
      exact ⟨by simp, FIN.out⟩
end Go.Proofs.YtcapifhmmkmboaaDoor
