/-
  The contract of remitlaw10.record: the text of a record.
  The contract of remitlaw10.fixed.
-/
import Derived.Test.YtggogaaooacooaaDoorP24
import Derived.Test.YtggogaaooacooaaDoorP40
import Derived.LoopTactic
import Derived.Test.YtggogaaooacooaaDoorP39
import Derived.Test.YtggogaaooacooaaDoorP08
import Derived.Deep.RegionHeld3
namespace Go.Proofs.YtggogaaooacooaaDoor
open Go.RowKit Go.WideShapes
set_option maxRecDepth 100000

/-- Byte number k, and the whole text. -/
def recC (f : Int) (k : Nat) : UInt8 := ((f + (k : Int) * 7 + (k : Int) / 251) % 256).toNat.toUInt8
def recB (f : Int) (n : Nat) : List UInt8 := (List.range n).map (recC f)
theorem recB_length (f : Int) (n : Nat) : (recB f n).length = n := by simp [recB]
theorem recC_val (f : Int) (k : Nat) : (wrap64 (wrap64 (f + (k : Int) * 7) + (k : Int) / 251)) % 256 = (((recC f k).toNat : Nat) : Int) := by
  unfold recC
  rw [E.u8_mod]
  unfold wrap64
  omega
/-- What the loop keeps. -/
def RecAt (w : World) (f : Int) (n : Nat) (iv : Value) (wr : World) : Prop :=
  ∃ k : Nat, k ≤ n ∧ iv = .int .i64 k ∧ RawAt wr w.heap.size (recB f k ++ List.replicate (n - k) 0) ∧ Qt w wr
theorem RecAt.more {w wr : World} {f : Int} {n k : Nat} (hk : k < n) (h : RawAt wr w.heap.size (recB f k ++ List.replicate (n - k) 0)) (q : Qt w wr) : RecAt w f n (.int .i64 ((k : Int) + 1)) (wr.setCell ⟨w.heap.size, k, none⟩ (.int .u8 ((recC f k).toNat : Int))) := by
  have h1 := h.store (i := k) (recC f k)
  refine ⟨k + 1, hk, by push_cast; rfl, ?_, Keeps.trans q (keeps_setCell7 wr _ k _) (fun i hi e => by subst e; exact absurd hi (Nat.lt_irrefl _))⟩
  have e : (recB f k ++ List.replicate (n - k) 0).set k (recC f k) = recB f (k + 1) ++ List.replicate (n - (k + 1)) 0 := by
    obtain ⟨m, hm⟩ : ∃ m, n - k = m + 1 := ⟨n - k - 1, by omega⟩
    rw [hm, show n - (k + 1) = m by omega, List.set_append_right _ _ (by rw [recB_length]; exact Nat.le_refl _), recB_length, Nat.sub_self, List.replicate_succ, List.set_cons_zero]
    unfold recB
    rw [List.range_succ, List.map_append]
    simp
  rw [e] at h1
  exact h1

set_option maxHeartbeats 1600000 in
theorem record_any (z f : Int) (w : World) :
    Calls Tryd.prog 26 #[.int .i64 z, .int .i64 f] w fun e w' => e = .returned (.string ⟨(recB f (modU z 3001)).toArray⟩) ∧ Qt w w' := by
  have hmw : wrap64 ((IntKind.u64.wrap z).tmod 3001) = (modU z 3001 : Int) := modU_wrap z 3001 (by decide) (by decide)
  have hn : modU z 3001 ≤ 3000 := by have := Nat.mod_lt ((z % 18446744073709551616).toNat) (show 0 < 3001 by decide); unfold modU; omega
  generalize modU z 3001 = n at *
  have hmk := make_zeros9 w n (by omega)
  obtain ⟨w1, hw1⟩ : ∃ W, w.alloc (.cells (madeCells #[Value.int .u8 0] n) 5) = W := ⟨_, rfl⟩
  have START := Lib.hid (show RecAt w f n (.int .i64 0) w1 from ⟨0, Nat.zero_le _, rfl, hw1 ▸ RawAt.zeros w n, hw1 ▸ (Qt.refl w).alloc _⟩)
  rw [hw1] at hmk
  clear hw1
  have HN := Lib.hid hn
  go_enter Tryd.func26, Tryd.ntmps26
  go_wp2
  go_loopw [16] (fun iv wr => RecAt w f n iv wr) (fun iv _ => n - (intOf iv).toNat)
  case atStart => exact START.out
  case round =>
    obtain ⟨k, hk, rfl, hr, q⟩ := hrel
    by_cases hlt : k < n
    · have hlen : (recB f k ++ List.replicate (n - k) 0).length = n := by rw [List.length_append, recB_length, List.length_replicate]; omega
      obtain ⟨cv, hcl, hcf⟩ := hr.cell (j := k) (by rw [hlen]; exact hlt)
      have FIN := Lib.hid (RecAt.more (k := k) hlt hr q)
      have RV := recC_val f k
      have td : (k : Int).tdiv 251 = (k : Int) / 251 := Int.tdiv_eq_ediv_of_nonneg (by omega)
      have hkb : (k : Int) ≤ 3000 := by omega
      have HLT := Lib.hid hlt
      clear hr q hlen
      go_wp2
      exact ⟨FIN.out, by have := HLT.out; simp [intOf]; omega⟩
    · obtain rfl : k = n := by omega
      have hcv := hr.conv (n := k) (by rw [List.length_append, recB_length]; omega) k
      have ht : (recB f k ++ List.replicate (k - k) (0 : UInt8)).take k = recB f k := by rw [Nat.sub_self, List.replicate_zero, List.append_nil, List.take_of_length_le (by rw [recB_length]; exact Nat.le_refl _)]
      rw [ht] at hcv
      have HQ := Lib.hid q
      obtain ⟨T, hT⟩ : ∃ T : ByteArray, ⟨(recB f k).toArray⟩ = T := ⟨_, rfl⟩
      have HT := Lib.hid hT
      rw [hT] at hcv
      clear hr q hlt hT ht
      go_wp2
      go_ret
      exact ⟨by rw [HT.out]; rfl, HQ.out⟩
end Go.Proofs.YtggogaaooacooaaDoor
namespace Go.Proofs.YtggogaaooacooaaDoor
open Go.RowKit Go.WideShapes
set_option maxRecDepth 100000

theorem rec_at (f : Int) (z n : Nat) (h : modU (z : Int) 3001 = n) (w : World) : Calls Tryd.prog 26 #[.int .i64 (z : Int), .int .i64 f] w fun e w' => e = .returned (.string ⟨(recB f n).toArray⟩) ∧ Qt w w' := by
  have r := record_any (z : Int) f w
  rw [h] at r
  exact r
theorem lt_of_block_eq {w w' : World} {g : Nat} (h : g < w.heap.size) (e : w'.heap[g]? = w.heap[g]?) : g < w'.heap.size := by
  rcases Nat.lt_or_ge g w'.heap.size with k | k
  · exact k
  · rw [Array.getElem?_eq_none k, Array.getElem?_eq_getElem h] at e
    cases e
set_option maxHeartbeats 3200000 in
theorem fixedJ_any (ad : Nat → Addr) (w : World) (hE : Errs ad w) (hT : Tab w) : Calls Tryd.prog 8 #[] w fun e w' => e = .returned (.bool true) ∧ Qt w w' := by
  obtain ⟨d1, d2, e1, e2, f0, f1, f2, fw1, fw2, er, e3⟩ := J.fixed_facts (v1 := [97]) (v2 := recB 1 300) (v3 := recB 2 230) rfl (recB_length _ _) (recB_length _ _)
  have HE := Lib.hid hE
  have HT := Lib.hid hT
  have NW := new_any ad 8 w hE
  obtain ⟨R2, hR2, hR2l⟩ : ∃ R : ByteArray, R = ⟨(recB 1 300).toArray⟩ ∧ R.data.toList = recB 1 300 := ⟨_, rfl, rfl⟩
  obtain ⟨R3, hR3, hR3l⟩ : ∃ R : ByteArray, R = ⟨(recB 2 230).toArray⟩ ∧ R.data.toList = recB 2 230 := ⟨_, rfl, rfl⟩
  have RC2 := Lib.hid (show ∀ W : World, Calls Tryd.prog 26 #[.int .i64 300, .int .i64 1] W fun e w' => e = .returned (.string ⟨(recB 1 300).toArray⟩) ∧ Qt W w' from fun W => rec_at 1 300 300 (by decide) W)
  have RC3 := Lib.hid (show ∀ W : World, Calls Tryd.prog 26 #[.int .i64 230, .int .i64 2] W fun e w' => e = .returned (.string ⟨(recB 2 230).toArray⟩) ∧ Qt W w' from fun W => rec_at 2 230 230 (by decide) W)
  rw [← hR2] at RC2
  rw [← hR3] at RC3
  have hR2s : R2.size = 300 := by rw [← dlen7, hR2l, recB_length]
  have hR3s : R3.size = 230 := by rw [← dlen7, hR3l, recB_length]
  clear hE hT
  go_enter Tryd.func8, Tryd.ntmps8
  go_wp2_with fail
  refine NW.mono ?_
  rintro e w1 (⟨hno, rfl, q2⟩ | ⟨n1, n2, b, rfl, hD, q2⟩)
  · exact absurd ⟨by decide, by decide⟩ hno
  have D1 : DK (fun k => w1.heap.size ≤ k) w w1 b (DS.newD 8) := dk_new (Qt.refl w) hD q2
  have BG := dk_begin HE.out D1 2 4 1 (by decide)
  have HD1 := Lib.hid D1
  have Z1 := Lib.hid q2.size
  clear hD q2 D1 NW
  go_wp2_with fail
  refine BG.mono ?_
  rintro e w2 hb
  obtain ⟨q2, q, hq1, rfl, hc⟩ := begin_ok (i := 2) (n := 4) (v := 1) hb (by decide)
  have C2 := Lib.hid (show CJ w2 q b ⟨2, 4, 1, 0, false, 0⟩ from hc)
  have D2 := Lib.hid ((HD1.out.qt q2).more (I := fun k => k = q) (fun k e => .inl (e ▸ hq1)))
  have QL := Lib.hid (show w.heap.size ≤ q from Nat.le_trans Z1.out hq1)
  have A1 := Lib.hid (dk_append (G := fun k => k = q) (f := 0) HE.out HT.out (fun k e => e ▸ QL.out) (fun k e => e ▸ C2.out.lt) rfl D2.out ⟨Nat.le_refl _, Nat.le_refl _, Nat.le_refl _, Nat.le_refl _⟩ (by decide) C2.out f0 ⟨#[97]⟩ (by decide))
  rw [show (⟨#[97]⟩ : ByteArray).data.toList = [97] from rfl, e1] at A1
  have HFA := Lib.hid (show J.Fine ⟨2, 4, 1, 1, false, 0⟩ d1 ∧ J.Fine ⟨2, 4, 1, 3, false, 0⟩ d2 ∧ d1.FewN 10 ∧ d2.FewN 10 from ⟨f1, f2, fw1, fw2⟩)
  have HE2 := Lib.hid e2
  have HE3 := Lib.hid e3
  have HER := Lib.hid er
  have HR2S := Lib.hid hR2s
  have HR3S := Lib.hid hR3s
  have HR2L := Lib.hid hR2l
  have HR3L := Lib.hid hR3l
  clear hb q2 hc BG hq1 e1 e2 e3 er f0 f1 f2 fw1 fw2 hR2 hR3 hR2s hR3s hR2l hR3l
  go_wp2_with fail
  refine A1.out.mono ?_
  rintro e w3 h3
  obtain ⟨rfl, d3, c3, _⟩ := jkp_ok h3
  have D3 := Lib.hid d3
  have C3 := Lib.hid c3
  clear d3 c3 h3
  go_wp2_with fail
  refine (RC2.out _).mono ?_
  rintro e w4 ⟨rfl, q4⟩
  have D4 := Lib.hid (D3.out.qt q4)
  have C4 := Lib.hid (C3.out.qt q4)
  have A2 := Lib.hid (dk_append (G := fun k => k = q) HE.out HT.out (fun k e => e ▸ QL.out) (fun k e => e ▸ C4.out.lt) rfl D4.out HFA.out.2.2.1 (by decide) C4.out HFA.out.1 R2 (by rw [HR2S.out]; decide))
  rw [HR2L.out, HE2.out] at A2
  clear q4
  go_wp2_with fail
  refine A2.out.mono ?_
  rintro e w5 h5
  obtain ⟨rfl, d5, c5, _⟩ := jkp_ok h5
  have D5 := Lib.hid d5
  have C5 := Lib.hid c5
  clear d5 c5 h5
  go_wp2_with fail
  refine (jused_any C5.out).mono ?_
  rintro e w6 ⟨rfl, rfl⟩
  have FA := jfits_any C5.out (by decide) (by decide) 229 (by decide)
  rw [show J.JS.fits ⟨2, 4, 1, 3, false, 0⟩ 229 = true by decide] at FA
  go_wp2_with fail
  refine FA.mono ?_
  rintro e w7 ⟨rfl, q7⟩
  have C7 := Lib.hid (C5.out.qt q7)
  have D7 := Lib.hid (D5.out.qt q7)
  have FB := jfits_any C7.out (by decide) (by decide) 230 (by decide)
  rw [show J.JS.fits ⟨2, 4, 1, 3, false, 0⟩ 230 = false by decide] at FB
  clear q7 FA
  go_wp2_with fail
  refine FB.mono ?_
  rintro e w8 ⟨rfl, q8⟩
  have C8 := Lib.hid (C7.out.qt q8)
  have D8 := Lib.hid (D7.out.qt q8)
  have RP := dk_replay HE.out HT.out D8.out 2 4 1 (by decide)
  rw [HER.out] at RP
  clear q8 FB
  go_wp2_with fail
  refine RP.mono ?_
  rintro e w9 h9
  obtain ⟨l, rfl, hN⟩ := rpJ_ok h9
  obtain ⟨la, lc, rfl⟩ := hN.shape
  obtain ⟨g, rfl, _, hg8, hg9, hcell⟩ := newT_two hN
  have hqg : q < g := Nat.lt_of_lt_of_le C8.out.lt hg8
  have D9 := Lib.hid (((D8.out.more (I := fun k => k = q ∨ w8.heap.size ≤ k) (fun k e => e)).qt hN.qt).more (I := fun k => k = q ∨ k = g) (fun k e => by rcases e with e | e; exact .inl (.inl e); exact .inl (.inr (e ▸ hg8))))
  have C9 := Lib.hid (C8.out.qt hN.qt)
  have HC := Lib.hid hcell
  have HQG := Lib.hid (Nat.ne_of_gt hqg)
  have HG9 := Lib.hid hg9
  have GL := Lib.hid (show w.heap.size ≤ g from Nat.le_trans QL.out (Nat.le_of_lt hqg))
  obtain ⟨X2, hX2, hX2l⟩ : ∃ X : ByteArray, strV (recB 1 300) = .string X ∧ X = R2 := ⟨_, rfl, by apply ByteArray.ext; apply Array.toList_inj.1; rw [HR2L.out]⟩
  rw [hX2l] at hX2
  have H01 := Lib.hid (fun (W : World) (hW : W.heap[g]? = w9.heap[g]?) => (show W.cell? ⟨g, 0, none⟩ = some (.string ⟨#[97]⟩) ∧ W.cell? ⟨g, 1, none⟩ = some (.string R2) from by
    have h := hcell W hW
    rw [hX2] at h
    exact h))
  clear hcell hg8 hg9 hqg hN h9 RP hX2l hX2
  have QD := Lib.hid (show Qt w9 w9.drew from Keeps.drew (Qt.refl w9))
  have zR : (R2.toList == R2.toList) = true := beq_self_eq_true _
  have CO := Lib.hid (fun W => jcost_nat 230 (by decide) W)
  rw [show J.cost 230 = 2 from rfl] at CO
  have A3 := Lib.hid (fun (W : World) (d : DK (fun k => k = q ∨ k = g) w W b d2) (c : CJ W q b ⟨2, 4, 1, 3, false, 0⟩) (hg : g < W.heap.size) => (show Calls Tryd.prog 25 #[.pointer (some ⟨q, 0, none⟩), .string R3] W (JKP ad (fun k => k = q ∨ k = g) w W b q (17, ⟨2, 4, 1, 3, false, 0⟩, d2)) from by
    have h := dk_append (G := fun k => k = q ∨ k = g) HE.out HT.out (fun k e => by rcases e with e | e; exact e ▸ QL.out; exact e ▸ GL.out) (fun k e => by rcases e with e | e; exact e ▸ c.lt; exact e ▸ hg) (.inl rfl) d HFA.out.2.2.2 (by decide) c HFA.out.2.1 R3 (by rw [HR3S.out]; decide)
    rw [HR3L.out, HE3.out] at h
    exact h))
  go_wp2_with fail
  go_region_held3 (fun W' => W'.cell? ⟨g, 0, none⟩ = some (.string ⟨#[97]⟩) ∧ W'.cell? ⟨g, 1, none⟩ = some (.string R2))
    (first | exact H01.out _ rfl | exact H01.out _ (Hid.out (by assumption)))
    (first
      | (go_at_call 26; with_reducible refine (RC2.out _).mono ?_; rintro e wa ⟨rfl, qa⟩; have QA := Lib.hid (Qt.trans QD.out qa); have GA := Lib.hid (show wa.heap[g]? = w9.heap[g]? from QA.out.block g HG9.out (fun e => e)); clear qa RC2)
      | (go_at_call 26; with_reducible refine (RC3.out _).mono ?_; rintro e wb ⟨rfl, qb⟩; have QB := Lib.hid (Qt.trans QA.out qb); have GB := Lib.hid (show wb.heap[g]? = w9.heap[g]? from QB.out.block g HG9.out (fun e => e)); clear qb RC3)
      | (go_at_call 25; refine (A3.out _ (D9.out.qt QB.out) (C9.out.qt QB.out) (Nat.lt_of_lt_of_le HG9.out QB.out.size)).mono ?_; rintro e wc hc; obtain ⟨rfl, dc, cc, kc⟩ := jkp_no hc; have DC := Lib.hid dc; have GC := Lib.hid (show wc.heap[g]? = w9.heap[g]? from (kc.block g (Nat.lt_of_lt_of_le HG9.out QB.out.size) (fun e => by rcases e with e | e; exact HQG.out e; exact e.2 (.inr rfl))).trans GB.out); have NU := num_any ad 17 wc (errs_since HE.out dc.since) (by decide); rw [errV_pos ad (by decide)] at NU; have NUH := Lib.hid NU; clear hc dc cc kc NU)
      | (go_at_call 11; refine NUH.out.mono ?_; rintro e wd ⟨rfl, qd⟩; have QE := Lib.hid (show Qt wc wd from qd); have GD := Lib.hid (show wd.heap[g]? = w9.heap[g]? from (QE.out.block g (lt_of_block_eq HG9.out GC.out) (fun e => e)).trans GC.out); clear qd)
      | (go_at_call 19; refine (CO.out _).mono ?_; rintro e wf ⟨rfl, rfl⟩))
  have FIN := Lib.hid (DC.out.qt QE.out).since.qt
  go_wp2
  go_ret
  exact ⟨rfl, FIN.out⟩
end Go.Proofs.YtggogaaooacooaaDoor
