/-
  The contracts of remitref10's Sync and Begin.
  The contract of remitref10's Append.
-/
import Derived.Test.YtggogaaooacooaaDoorP41
import Derived.Test.YtggogaaooacooaaDoorP23
import Derived.StillTailTactics
namespace Go.Proofs.YtggogaaooacooaaDoor
open Go.RowKit Go.WideShapes
set_option maxRecDepth 100000

/-- What a call over the document's own journal leaves. -/
def RJP (w0 w : World) (J' : Nat → Prop) (b c q : Nat) (d : DS) (r : Nat × J.JS × DS) (e : Ending) (w' : World) : Prop :=
  e = .returned (.int .i64 r.1) ∧ PairJ J' w0 w' b c d r.2.2 ∧ RJ w' q c r.2.1 ∧ Keeps (fun k => k = q ∨ OutJ w0 J' k) w w'
theorem down_dead {j : J.JS} {u : DS} (h : j.down u = false) : { j with dead := j.down u } = j := by
  have hd : j.dead = false := by
    unfold J.JS.down at h
    simp only [Bool.or_eq_false_iff] at h
    exact h.1.1
  rw [h]
  obtain ⟨p, n, v, us, dd, l⟩ := j
  simp only at hd
  rw [hd]
theorem RJ.notOut {w0 : World} {J' : Nat → Prop} {q : Nat} (hq : J' q) : ¬ OutJ w0 J' q := fun k => k.2 hq

theorem rsync_any {w0 w : World} {J' : Nat → Prop} {b c q : Nat} {d u : DS} {j : J.JS} (hJ0 : ∀ k, J' k → w0.heap.size ≤ k) (hJ : ∀ k, J' k → k < w.heap.size) (hq : J' q) (h : PairJ J' w0 w b c d u) (hf : u.Few) (hR : RJ w q c j) :
    Calls Tryd.prog 43 #[.pointer (some ⟨q, 0, none⟩)] w (RJP w0 w J' b c q d (j.sync u)) := by
  have DN := rdown_any hJ0 hq h hR
  cases hd : j.down u with
  | true =>
    rw [hd] at DN
    have FIN := Lib.hid (show j.sync u = (12, { j with dead := true }, u) from if_pos hd)
    clear h hR hJ0 hJ hq hf hd
    go_enter Tryd.func43, Tryd.ntmps43
    go_wp2_with fail
    refine DN.mono ?_
    rintro e w1 ⟨rfl, p1, r1, k1⟩
    have P1 := Lib.hid p1
    have R1 := Lib.hid r1
    have K1 := Lib.hid k1
    clear p1 r1 k1
    go_wp2
    go_ret
    rw [FIN.out]
    exact ⟨rfl, P1.out, R1.out, K1.out.mono (fun k _ e => .inl e)⟩
  | false =>
    have hj := down_dead hd
    rw [hj, hd] at DN
    have HJ := Lib.hid hJ
    have HJ0 := Lib.hid hJ0
    have HQ := Lib.hid hq
    have HF := Lib.hid hf
    by_cases he : u.flushE = 0
    · have FIN := Lib.hid (show j.sync u = (0, j, u.flushD) from (if_neg (by rw [hd]; simp)).trans (if_neg (fun k => k he)))
      clear h hR hJ0 hJ hq hf hd hj
      go_enter Tryd.func43, Tryd.ntmps43
      go_wp2_with fail
      refine DN.mono ?_
      rintro e w1 ⟨rfl, p1, r1, k1⟩
      have FL := Lib.hid (pairJR_flush (fun k hk => Nat.lt_of_lt_of_le (HJ.out k hk) k1.size) p1 HF.out)
      have R1 := Lib.hid r1
      have K1 := Lib.hid k1
      have d0 : w1.cell? ⟨q, 0, none⟩ = some (.pointer (some ⟨c, 0, none⟩)) := r1.cell 0 _ rfl
      clear p1 r1 k1
      rw [he] at FL
      clear he
      go_wp2_with fail
      refine FL.out.mono ?_
      rintro e w2 ⟨rfl, p2, k2⟩
      have P2 := Lib.hid p2
      have R2 := Lib.hid (R1.out.kept k2 (RJ.notOut HQ.out))
      have K2 := Lib.hid (Keeps.trans (S := fun k => k = q ∨ OutJ w0 J' k) (K1.out.mono (fun k _ e => .inl e)) k2 (fun k _ e => .inr e))
      clear p2 k2
      go_wp2
      go_ret
      rw [FIN.out]
      exact ⟨rfl, P2.out, R2.out, K2.out⟩
    · have FIN := Lib.hid (show j.sync u = (u.flushE, { j with dead := true }, u.flushD) from (if_neg (by rw [hd]; simp)).trans (if_pos he))
      have ze : ((u.flushE : Int) != 0) = true := by rw [bne_iff_ne]; omega
      clear h hR hJ0 hJ hq hf hd hj
      obtain ⟨x, hx⟩ : ∃ x, u.flushE = x := ⟨_, rfl⟩
      go_enter Tryd.func43, Tryd.ntmps43
      go_wp2_with fail
      refine DN.mono ?_
      rintro e w1 ⟨rfl, p1, r1, k1⟩
      have FL := Lib.hid (pairJR_flush (fun k hk => Nat.lt_of_lt_of_le (HJ.out k hk) k1.size) p1 HF.out)
      have R1 := Lib.hid r1
      have K1 := Lib.hid k1
      have d0 : w1.cell? ⟨q, 0, none⟩ = some (.pointer (some ⟨c, 0, none⟩)) := r1.cell 0 _ rfl
      clear p1 r1 k1 he
      rw [hx] at FL ze FIN
      clear hx
      go_wp2_with fail
      refine FL.out.mono ?_
      rintro e w2 ⟨rfl, p2, k2⟩
      have R2 := Lib.hid (R1.out.kept k2 (RJ.notOut HQ.out))
      have K2 := Keeps.trans (S := fun k => k = q ∨ OutJ w0 J' k) (K1.out.mono (fun k _ e => .inl e)) k2 (fun k _ e => .inr e)
      have K3 := Lib.hid (K2.setCell (p := ⟨q, 5, none⟩) (fun _ => .inl rfl) (.bool true))
      have P3 := Lib.hid (p2.turn HJ0.out ((Keeps.refl J' w2).setCell (p := ⟨q, 5, none⟩) (fun _ => HQ.out) (.bool true)))
      have R3 := Lib.hid R2.out.dead
      have f5 : w2.frozen? ⟨q, 5, none⟩ = false := Lib.frozen_of_heap R2.out 5
      have d5 : w2.cell? ⟨q, 5, none⟩ = some (.bool j.dead) := R2.out.cell 5 _ rfl
      clear p2 k2 K2
      go_wp2
      go_ret
      rw [FIN.out]
      exact ⟨rfl, P3.out, R3.out, K3.out⟩

/-- Begin. -/
def beginE (u : DS) (i n v : Int) : Nat := J.refE u i n v
def beginJ (u : DS) (i n v : Int) : J.JS := ⟨i.toNat, n.toNat, v.toNat, 0, false, u.cr⟩
def BeginP (w : World) (c : Nat) (u : DS) (i n v : Int) (e : Ending) (w' : World) : Prop :=
  Qt w w' ∧ if J.refE u i n v = 0 then ∃ q, w.heap.size ≤ q ∧ e = .returned (.tuple #[.pointer (some ⟨q, 0, none⟩), .int .i64 0]) ∧ RJ w' q c (beginJ u i n v) else e = .returned (.tuple #[.pointer none, .int .i64 (J.refE u i n v)])
theorem rbegin_any {w0 w : World} {j b c : Nat} {d u : DS} (h : Pair j w0 w b c d u) (i n v : Int) :
    Calls Tryd.prog 35 #[.pointer (some ⟨c, 0, none⟩), .int .i64 i, .int .i64 n, .int .i64 v] w (BeginP w c u i n v) := by
  have MY := rmay_any h i n v
  have c27 : w.cell? ⟨c, 2, none⟩ = some (.bool u.off) ∧ w.cell? ⟨c, 7, none⟩ = some (.int .i64 u.cr) := by
    obtain ⟨S, T, h1, ⟨sv, wv, P, hT⟩, h3, h4, h5, h6⟩ := h
    exact ⟨P.cell 2 _ rfl, P.cell 7 _ rfl⟩
  obtain ⟨c2, c7⟩ := c27
  by_cases hm : J.may u i n v
  · rw [decide_eq_true hm] at MY
    cases ho : u.off with
    | true =>
      rw [ho] at c2
      have FIN := Lib.hid (fun (e : Ending) (w' : World) (he : e = .returned (.tuple #[.pointer none, .int .i64 12])) (q : Qt w w') => (show BeginP w c u i n v e w' from ⟨q, by rw [if_neg (by rw [refE_off hm ho]; decide), refE_off hm ho]; exact he⟩))
      clear hm h ho
      go_enter Tryd.func35, Tryd.ntmps35
      go_wp2_with fail
      refine MY.mono ?_
      rintro e w1 ⟨rfl, rfl⟩
      go_wp2
      go_ret2
      exact FIN.out _ _ rfl (Qt.refl _)
    | false =>
      rw [ho] at c2
      obtain ⟨i, n, v, rfl, rfl, rfl, _, _, _, _⟩ := may_yes hm
      have FIN := Lib.hid (fun (e : Ending) (w' : World) (q : Nat) (hq : w.heap.size ≤ q) (he : e = .returned (.tuple #[.pointer (some ⟨q, 0, none⟩), .int .i64 0])) (k : Qt w w') (hr : RJ w' q c (beginJ u i n v)) => (show BeginP w c u i n v e w' from ⟨k, by rw [if_pos (refE_yes hm ho)]; exact ⟨q, hq, he, hr⟩⟩))
      clear hm h ho
      go_enter Tryd.func35, Tryd.ntmps35
      go_wp2_with fail
      refine MY.mono ?_
      rintro e w1 ⟨rfl, rfl⟩
      go_wp2
      go_ret2
      exact FIN.out _ _ w1.heap.size (Nat.le_refl _) rfl ((Qt.refl w1).alloc _) (heap_alloc_new w1 _)
  · rw [decide_eq_false hm] at MY
    have FIN := Lib.hid (fun (e : Ending) (w' : World) (he : e = .returned (.tuple #[.pointer none, .int .i64 6])) (q : Qt w w') => (show BeginP w c u i n v e w' from ⟨q, by rw [if_neg (by rw [refE_no hm]; decide), refE_no hm]; exact he⟩))
    clear hm h
    go_enter Tryd.func35, Tryd.ntmps35
    go_wp2_with fail
    refine MY.mono ?_
    rintro e w1 ⟨rfl, rfl⟩
    go_wp2
    go_ret2
    exact FIN.out _ _ rfl (Qt.refl _)
end Go.Proofs.YtggogaaooacooaaDoor
namespace Go.Proofs.YtggogaaooacooaaDoor
open Go.RowKit Go.WideShapes
set_option maxRecDepth 100000

theorem rlog_int (v i : Int) (hk : E.logOk v i) (w : World) :
    Calls Tryd.prog 67 #[.int .i64 v, .int .i64 i] w fun e w' => e = .returned (.tuple #[.int .u64 (v * 1048576 + i + 1), .int .i64 0]) ∧ w' = w := by
  obtain ⟨a1, a2, a3, a4⟩ := hk
  go_enter Tryd.func67, Tryd.ntmps67
  go_wp2
  go_ret2
  exact ⟨rfl, rfl⟩
theorem rlog_in (v i : Nat) (h1 : 1 ≤ v) (h2 : v ≤ 1099511627776) (h3 : i < 65536) (w : World) :
    Calls Tryd.prog 67 #[.int .i64 v, .int .i64 i] w fun e w' => e = .returned (.tuple #[.int .u64 (J.stamp v i : Nat), .int .i64 0]) ∧ w' = w := by
  have h := rlog_int (v : Int) (i : Int) ⟨by omega, by omega, by omega, by omega⟩ w
  rw [show (v : Int) * 1048576 + (i : Int) + 1 = ((J.stamp v i : Nat) : Int) by unfold J.stamp; omega] at h
  exact h
theorem RJ.used' {w : World} {q c : Nat} {j : J.JS} (h : RJ w q c j) (m : Nat) : RJ (w.setCell ⟨q, 4, none⟩ (.int .i64 (m : Int))) q c { j with used := m } := by
  unfold RJ at h ⊢
  simp only [World.setCell, Array.getElem?_modify, h, if_true, Option.map_some]
  rfl
theorem wrapA3 {a b : Nat} (h1 : (a : Int) ≤ 65536) (h2 : (b : Int) ≤ 65536) : wrap64 ((a : Int) + (b : Int)) = (a : Int) + (b : Int) := by unfold wrap64; omega
theorem wrapA4 {a b c : Nat} (h1 : (a : Int) ≤ 65536) (h2 : (b : Int) ≤ 65536) (h3 : (c : Int) ≤ 65536) : wrap64 ((a : Int) + (b : Int) + (c : Int)) = (a : Int) + (b : Int) + (c : Int) := by unfold wrap64; omega
/-- What the loop keeps. -/
def RAAt (w0 w w2 : World) (I : Nat → Prop) (b c q : Nat) (d u : DS) (j : J.JS) (v : List UInt8) (C f : Nat) (iv : Value) (wr : World) : Prop :=
  ∃ (k : Nat) (uk : DS), k ≤ C ∧ iv = .int .i64 k ∧ PairJ I w0 wr b c d uk ∧ RJ wr q c j ∧ j.go v (C - k) k uk = j.go v C 0 u ∧ uk.FewN (f + k) ∧ Keeps (fun k => k = q ∨ OutJ w0 I k) w wr ∧ Keeps (OutJ w0 I) w2 wr

set_option maxHeartbeats 3200000 in
theorem rappend_any {w0 w : World} {J' : Nat → Prop} {b c q f : Nat} {d u : DS} {j : J.JS} (hJ0 : ∀ k, J' k → w0.heap.size ≤ k) (hJ : ∀ k, J' k → k < w.heap.size) (hq : J' q) (h : PairJ J' w0 w b c d u) (hf : u.FewN f) (hf2 : f ≤ 1073000000) (hR : RJ w q c j)
    (hu : j.used ≤ j.n) (hn : j.pos + j.n ≤ u.dur.length) (hv1 : 1 ≤ j.ver) (hv2 : j.ver ≤ 1099511627776) (s : ByteArray) (hs : s.size ≤ 1099511627776) :
    Calls Tryd.prog 41 #[.pointer (some ⟨q, 0, none⟩), .string s] w (RJP w0 w J' b c q d (j.append u s.data.toList)) := by
  have DN := rdown_any hJ0 hq h hR
  have hl : s.data.toList.length = s.size := by simp
  have hdl : u.dur.length ≤ 65536 := h.ref.2.2.le
  cases hd : j.down u with
  | true =>
    rw [hd] at DN
    have FIN := Lib.hid (show j.append u s.data.toList = (12, { j with dead := true }, u) from if_pos hd)
    clear h hR hJ0 hJ hq hf hd hdl hn hu hv1 hv2 hs hf2
    go_enter Tryd.func41, Tryd.ntmps41
    go_wp2_with fail
    refine DN.mono ?_
    rintro e w1 ⟨rfl, p1, r1, k1⟩
    have P1 := Lib.hid p1
    have R1 := Lib.hid r1
    have K1 := Lib.hid k1
    clear p1 r1 k1
    go_wp2
    go_ret
    rw [FIN.out]
    exact ⟨rfl, P1.out, R1.out, K1.out.mono (fun k _ e => .inl e)⟩
  | false =>
    have hj := down_dead hd
    rw [hj, hd] at DN
    have PI := pieces_any s hs
    have hC1 := J.cost_pos s.size
    obtain ⟨C, hC⟩ : ∃ C, J.cost s.size = C := ⟨_, rfl⟩
    rw [hC] at PI hC1
    have APP : j.append u s.data.toList = if j.n < j.used + C then (17, j, u) else if (j.go s.data.toList C 0 u).1 ≠ 0 then ((j.go s.data.toList C 0 u).1, { j with dead := true }, (j.go s.data.toList C 0 u).2) else (0, { j with used := j.used + C }, (j.go s.data.toList C 0 u).2) := by
      rw [← hC, ← hl]
      exact if_neg (by rw [hd]; simp)
    have HJ := Lib.hid hJ
    have HJ0 := Lib.hid hJ0
    have HQ := Lib.hid hq
    have HF := Lib.hid hf
    have HNB := Lib.hid (show j.used ≤ j.n ∧ j.n ≤ 65536 ∧ j.pos + j.n ≤ 65536 from ⟨hu, by omega, by omega⟩)
    have HV := Lib.hid (show 1 ≤ j.ver ∧ j.ver ≤ 1099511627776 from ⟨hv1, hv2⟩)
    have wz : wrap64 ((j.n : Int) - (j.used : Int)) = (j.n : Int) - (j.used : Int) := by unfold wrap64; omega
    have HC1 := Lib.hid hC1
    clear h hR hJ0 hJ hq hf hd hj hdl hn hv1 hv2 hs hC hl hC1 hu
    by_cases hfull : j.n < j.used + C
    · have FIN := Lib.hid (APP.trans (if_pos hfull))
      have zf : decide ((j.n : Int) - (j.used : Int) < (C : Int)) = true := decide_eq_true (by omega)
      clear APP hfull
      go_enter Tryd.func41, Tryd.ntmps41
      go_wp2_with fail
      refine DN.mono ?_
      rintro e w1 ⟨rfl, p1, r1, k1⟩
      have P1 := Lib.hid p1
      have R1 := Lib.hid r1
      have K1 := Lib.hid k1
      clear p1 r1 k1
      go_wp2_with fail
      refine (PI w1).mono ?_
      rintro e w2 ⟨wv, rfl, hN⟩
      obtain ⟨ra, rc, rfl⟩ := hN.shape
      rw [J.seg_length] at *
      have R2 := Lib.hid (R1.out.kept hN.qt (fun e => e))
      have Q2 := Lib.hid hN.qt
      have d2 : w2.cell? ⟨q, 2, none⟩ = some (.int .i64 j.n) := R2.out.cell 2 _ rfl
      have d4 : w2.cell? ⟨q, 4, none⟩ = some (.int .i64 j.used) := R2.out.cell 4 _ rfl
      clear hN
      go_wp2
      go_quiet (fail)
      have Q3 := Lib.hid (Keeps.drewN Q2.out nq)
      go_wp2
      go_ret
      rw [FIN.out]
      exact ⟨rfl, P1.out.qt Q3.out, R1.out.kept Q3.out (fun e => e), Keeps.trans (S := fun k => k = q ∨ OutJ w0 J' k) (K1.out.mono (fun k _ e => .inl e)) Q3.out (fun _ _ e => e.elim)⟩
    · have APP2 := APP.trans (if_neg hfull)
      have HNF := Lib.hid (show j.used + C ≤ j.n by omega)
      have zf : decide ((j.n : Int) - (j.used : Int) < (C : Int)) = false := decide_eq_false (by omega)
      have HAP := Lib.hid APP2
      clear APP hfull APP2
      go_enter Tryd.func41, Tryd.ntmps41
      go_wp2_with fail
      refine DN.mono ?_
      rintro e w1 ⟨rfl, p1, r1, k1⟩
      have P1 := Lib.hid p1
      have R1 := Lib.hid r1
      have K1 := Lib.hid k1
      clear p1 r1 k1
      go_wp2_with fail
      refine (PI w1).mono ?_
      rintro e w2 ⟨wv, rfl, hN⟩
      obtain ⟨ra, rc, rfl⟩ := hN.shape
      rw [J.seg_length] at *
      have R2 := Lib.hid (R1.out.kept hN.qt (fun e => e))
      have HN := Lib.hid hN
      have d2 : w2.cell? ⟨q, 2, none⟩ = some (.int .i64 j.n) := R2.out.cell 2 _ rfl
      have d4 : w2.cell? ⟨q, 4, none⟩ = some (.int .i64 j.used) := R2.out.cell 4 _ rfl
      clear hN
      obtain ⟨g, rfl, _⟩ := newT_cell HN.out (show (J.seg s.data.toList 0 C)[0]? = some (J.pay s.data.toList 0) by rw [J.seg_get _ 0 HC1.out])
      go_wp2
      go_quiet (fail)
      clear d2 d4 wz zf
      obtain ⟨w3, hw3⟩ : ∃ W, w2.drewN nq = W := ⟨_, rfl⟩
      rw [hw3]
      have Q13 := Lib.hid (show Qt w1 w3 from hw3 ▸ Keeps.drewN HN.out.qt nq)
      have HNR := Lib.hid (show NewT w1 w3 (.slice (some ⟨g, 0, none⟩) C rc) (J.seg s.data.toList 0 C) from hw3 ▸ HN.out.quiet (Keeps.drewN (Qt.refl w2) nq))
      clear hw3
      have hg1 : w1.heap.size ≤ g := HN.out.new g rfl
      have hg3 : g < w3.heap.size := ownsRow_lt HNR.out.own rfl
      obtain ⟨I, hI⟩ : ∃ I : Nat → Prop, I = fun k => J' k ∨ k = g := ⟨_, rfl⟩
      have HIQ := Lib.hid (show I q by rw [hI]; exact .inl HQ.out)
      have HIG := Lib.hid (show I g by rw [hI]; exact .inr rfl)
      have HIJ := Lib.hid (show ∀ k, J' k → I k from fun k e => by rw [hI]; exact .inl e)
      have HI0 := Lib.hid (show ∀ k, I k → w0.heap.size ≤ k from fun k e => by
        rw [hI] at e
        rcases e with e | e
        · exact HJ0.out k e
        · have := P1.out.since.size; omega)
      have HI3 := Lib.hid (show ∀ k, I k → k < w3.heap.size from fun k e => by
        rw [hI] at e
        rcases e with e | e
        · have := HJ.out k e; have := K1.out.size; have := Q13.out.size; omega
        · omega)
      have P3 := Lib.hid (show PairJ I w0 w3 b c d u from ((P1.out.more (fun k e => by rw [hI] at e; rcases e with e | e; exact .inl e; exact .inr (by omega))).qt Q13.out))
      have R3 := Lib.hid (R1.out.kept Q13.out (fun e => e))
      have K3 := Lib.hid (show Keeps (fun k => k = q ∨ OutJ w0 I k) w w3 from Keeps.trans (K1.out.mono (fun k _ e => .inl e)) Q13.out (fun _ _ e => e.elim))
      have OUT := Lib.hid (fun (W : World) (uk : DS) (h : PairJ I w0 W b c d uk) => h.more (fun k e => Or.inl (HIJ.out k e)))
      have OUK := Lib.hid (fun (W : World) (K : Keeps (fun k => k = q ∨ OutJ w0 I k) w W) => (show Keeps (fun k => k = q ∨ OutJ w0 J' k) w W from K.mono (fun k _ e => e.imp id (fun e => ⟨e.1, fun m => e.2 (HIJ.out k m)⟩))))
      have ROW := Lib.hid (fun (k : Nat) (hk : k < C) (W : World) (K : Keeps (OutJ w0 I) w3 W) => (show W.cell? ⟨g, k, none⟩ = some (strV (J.pay s.data.toList k)) from by
        obtain ⟨g', e, hc⟩ := newT_cell HNR.out (show (J.seg s.data.toList 0 C)[k]? = some (J.pay s.data.toList k) by rw [J.seg_get _ 0 hk, Nat.zero_add])
        injection e with e
        injection e with e
        subst e
        exact K.cellv hc (fun m => m.2 HIG.out)))
      clear hI hg1 hg3
      go_wp2
      go_loopw [6] (fun iv wr => RAAt w0 w w3 I b c q d u j s.data.toList C f iv wr) (fun iv _ => C - (intOf iv).toNat)
      case atStart => exact ⟨0, u, Nat.zero_le _, rfl, P3.out, R3.out, rfl, HF.out, K3.out, Keeps.refl _ _⟩
      case round =>
        obtain ⟨k, uk, hk, rfl, hP, hRJ, hgo, hfk, hKw, hK3⟩ := hrel
        have hkb : (k : Int) ≤ 65536 := by have := HNF.out; have := HNB.out; omega
        have hub : (j.used : Int) ≤ 65536 := by have := HNB.out; omega
        have hpb : (j.pos : Int) ≤ 65536 := by have := HNB.out; omega
        have HP := Lib.hid hP
        have HRJ := Lib.hid hRJ
        have HFK := Lib.hid hfk
        have HKW := Lib.hid hKw
        have HK3 := Lib.hid hK3
        have hJw : ∀ m, I m → m < wr.heap.size := fun m e => Nat.lt_of_lt_of_le (HI3.out m e) hK3.size
        have HJW := Lib.hid hJw
        have d0 : wr.cell? ⟨q, 0, none⟩ = some (.pointer (some ⟨c, 0, none⟩)) := hRJ.cell 0 _ rfl
        have d1 : wr.cell? ⟨q, 1, none⟩ = some (.int .i64 j.pos) := hRJ.cell 1 _ rfl
        have d3 : wr.cell? ⟨q, 3, none⟩ = some (.int .i64 j.ver) := hRJ.cell 3 _ rfl
        have d4 : wr.cell? ⟨q, 4, none⟩ = some (.int .i64 j.used) := hRJ.cell 4 _ rfl
        by_cases hlt : k < C
        · have zlt : decide ((k : Int) < (C : Int)) = true := decide_eq_true (by omega)
          have zlt' : decide (k < C) = true := decide_eq_true hlt
          have LG := Lib.hid (fun W => (show Calls Tryd.prog 67 #[.int .i64 (j.ver : Int), .int .i64 ((j.used : Int) + (k : Int))] W fun e w' => e = .returned (.tuple #[.int .u64 (J.stamp j.ver (j.used + k) : Nat), .int .i64 0]) ∧ w' = W from by
            have h := rlog_in j.ver (j.used + k) HV.out.1 HV.out.2 (by have := HNF.out; have := HNB.out; omega) W
            rw [Int.natCast_add] at h
            exact h))
          have HLT := Lib.hid hlt
          have HGO := Lib.hid hgo
          clear hP hRJ hgo hfk hKw hK3 hJw hlt hk
          go_wp2
          go_quiet ((go_at_call 67; with_reducible exact Calls.quiet_of_same (LG.out _)))
          clear d0 d1 d3 d4
          obtain ⟨wa, hwa⟩ : ∃ W, wr.drewN nq = W := ⟨_, rfl⟩
          rw [hwa]
          have QA := Lib.hid (show Qt wr wa from hwa ▸ Keeps.drewN (Qt.refl wr) nq)
          clear hwa
          obtain ⟨V, hV1, hV2⟩ : ∃ V : ByteArray, strV (J.pay s.data.toList k) = .string V ∧ V.data.toList = J.pay s.data.toList k := ⟨⟨(J.pay s.data.toList k).toArray⟩, rfl, rfl⟩
          have cg := ROW.out k HLT.out wa (Keeps.trans HK3.out QA.out (fun _ _ e => e.elim))
          rw [hV1] at cg
          obtain ⟨Z, hZ⟩ : ∃ Z : ByteArray, Z = ⟨(E.sct (J.stamp j.ver (j.used + k)) (J.pay s.data.toList k)).toArray⟩ := ⟨_, rfl⟩
          have hZl : strL Z = E.sct (J.stamp j.ver (j.used + k)) (J.pay s.data.toList k) := by rw [hZ]; rfl
          have SE := Lib.hid (show Calls Tryd.prog 68 #[.int .u64 (J.stamp j.ver (j.used + k) : Nat), .string V] wa fun e w' => e = .returned (.tuple #[.string Z, .int .i64 0]) ∧ Qt wa w' from by
            have h := refSeal_any (J.stamp j.ver (j.used + k)) V wa (J.stamp_big HV.out.2 (by have := HNF.out; have := HNB.out; have := HLT.out; omega))
            rw [show E.sealR (J.stamp j.ver (j.used + k)) V.data.toList = (E.sct (J.stamp j.ver (j.used + k)) (J.pay s.data.toList k), 0) by unfold E.sealR; rw [if_neg (J.stamp_pos _ _), hV2, if_neg (by have := J.pay_le s.data.toList k; omega)]] at h
            rw [hZ]; exact h)
          have WR := Lib.hid (fun W (p : PairJ I w0 W b c d uk) (hJ : ∀ m, I m → m < W.heap.size) => (show Calls Tryd.prog 40 #[.pointer (some ⟨c, 0, none⟩), .int .i64 ((j.pos : Int) + (j.used : Int) + (k : Int)), .string Z] W fun e w' => e = .returned (.int .i64 (j.putE s.data.toList k uk)) ∧ PairJ I w0 w' b c d (j.put s.data.toList k uk) ∧ Keeps (OutJ w0 I) W w' from by
            have h := pairJR_write hJ p (HFK.out.few (by have := HNF.out; have := HNB.out; have := HLT.out; omega)) ((j.pos + (j.used + k) : Nat) : Int) Z
            rw [hZl] at h
            have e : ((j.pos + (j.used + k) : Nat) : Int) = (j.pos : Int) + (j.used : Int) + (k : Int) := by omega
            unfold J.JS.putE J.JS.put
            rw [e] at h ⊢
            exact h))
          have GO := HGO.out
          obtain ⟨m, hm⟩ : ∃ m, C - k = m + 1 := ⟨C - k - 1, by have := HLT.out; omega⟩
          have hm2 : C - (k + 1) = m := by omega
          rw [hm, J.JS.go] at GO
          have HGO2 := Lib.hid GO
          have HM2 := Lib.hid hm2
          have HME := Lib.hid (show C - (intOf (.int .i64 ((k : Int) + 1))).toNat < C - (intOf (.int .i64 (k : Int))).toNat by have := HLT.out; simp [intOf]; omega)
          clear hV1 hV2 hZ hZl GO hm hm2
          go_wp2_with fail
          refine SE.out.mono ?_
          rintro e5 w5 ⟨rfl, q5⟩
          have Q5 := Lib.hid (Qt.trans QA.out q5)
          have R5 := Lib.hid (HRJ.out.kept Q5.out (fun e => e))
          have P5 := Lib.hid (HP.out.qt Q5.out)
          clear q5 cg
          have J5 := Lib.hid (fun m e => Nat.lt_of_lt_of_le (HJW.out m e) Q5.out.size)
          have KC := Lib.hid (fun (W : World) (r : RJ W q c j) => (show W.cell? ⟨q, 0, none⟩ = some (.pointer (some ⟨c, 0, none⟩)) ∧ W.cell? ⟨q, 1, none⟩ = some (.int .i64 j.pos) ∧ W.cell? ⟨q, 4, none⟩ = some (.int .i64 j.used) from ⟨r.cell 0 _ rfl, r.cell 1 _ rfl, r.cell 4 _ rfl⟩))
          have d014 := KC.out w5 R5.out
          obtain ⟨d0, d1, d4⟩ := d014
          have zz1 : wrap64 ((j.pos : Int) + (j.used : Int)) = (j.pos : Int) + (j.used : Int) := wrapA3 hpb hub
          have zz2 : wrap64 ((j.pos : Int) + (j.used : Int) + (k : Int)) = (j.pos : Int) + (j.used : Int) + (k : Int) := wrapA4 hpb hub hkb
          go_wp2
          go_still_tail 16, (by kernel_rfl)
          change wpList _ _ _ _ _ w5.drew
          obtain ⟨w6, hw6⟩ : ∃ W, w5.drew = W := ⟨_, rfl⟩
          have QD := Lib.hid (show Qt wr w6 from hw6 ▸ Keeps.drew Q5.out)
          rw [hw6]
          clear hw6 d0 d1 d4
          have P5d := Lib.hid (HP.out.qt QD.out)
          have R5d := Lib.hid (HRJ.out.kept QD.out (fun e => e))
          have J5d := Lib.hid (show ∀ m, I m → m < w6.heap.size from fun m e => Nat.lt_of_lt_of_le (HJW.out m e) QD.out.size)
          by_cases hE : j.putE s.data.toList k uk = 0
          · have GO := HGO2.out
            rw [if_neg (fun h => h hE)] at GO
            have WR2 := WR.out w6 P5d.out J5d.out
            rw [hE] at WR2
            have W5 := Lib.hid WR2
            have NXT := Lib.hid (fun W (p : PairJ I w0 W b c d (j.put s.data.toList k uk)) (kk : Keeps (OutJ w0 I) w6 W) => (show RAAt w0 w w3 I b c q d u j s.data.toList C f (.int .i64 ((k : Int) + 1)) W from
              ⟨k + 1, _, HLT.out, by push_cast; rfl, p, R5d.out.kept kk (RJ.notOut HIQ.out), by rw [HM2.out]; exact GO, (HFK.out.write _ _).mono (by omega), Keeps.trans (Keeps.trans HKW.out QD.out (fun _ _ e => e.elim)) kk (fun _ _ e => .inr e), Keeps.trans (Keeps.trans HK3.out QD.out (fun _ _ e => e.elim)) kk (fun _ _ e => e)⟩))
            clear GO hE WR2
            go_wp2_with fail
            refine W5.out.mono ?_
            rintro e6 w7 ⟨rfl, p6, k6⟩
            have FN := Lib.hid (NXT.out w7 p6 k6)
            clear p6 k6
            go_wp2
            exact ⟨FN.out, HME.out⟩
          · have GO := HGO2.out
            rw [if_pos hE] at GO
            have W5 := Lib.hid (WR.out w6 P5d.out J5d.out)
            have ze : ((j.putE s.data.toList k uk : Int) != 0) = true := by rw [bne_iff_ne]; omega
            have FIN := Lib.hid (show j.append u s.data.toList = (j.putE s.data.toList k uk, { j with dead := true }, j.put s.data.toList k uk) from by
              rw [HAP.out, ← GO, if_pos hE])
            clear GO hE
            obtain ⟨x, hx⟩ : ∃ x, j.putE s.data.toList k uk = x := ⟨_, rfl⟩
            rw [hx] at ze FIN W5
            clear hx
            go_wp2_with fail
            refine W5.out.mono ?_
            rintro e6 w7 ⟨rfl, p6, k6⟩
            have R7 := Lib.hid (R5d.out.kept k6 (RJ.notOut HIQ.out))
            have K7 := Keeps.trans (S := fun k => k = q ∨ OutJ w0 I k) (Keeps.trans HKW.out QD.out (fun _ _ e => e.elim)) k6 (fun _ _ e => .inr e)
            have K8 := Lib.hid (OUK.out _ (K7.setCell (p := ⟨q, 5, none⟩) (fun _ => .inl rfl) (.bool true)))
            have P8 := Lib.hid (OUT.out _ _ (p6.turn HI0.out ((Keeps.refl I w7).setCell (p := ⟨q, 5, none⟩) (fun _ => HIQ.out) (.bool true))))
            have R8 := Lib.hid R7.out.dead
            have f5 : w7.frozen? ⟨q, 5, none⟩ = false := Lib.frozen_of_heap R7.out 5
            have d5 : w7.cell? ⟨q, 5, none⟩ = some (.bool j.dead) := R7.out.cell 5 _ rfl
            clear p6 k6 K7
            go_wp2
            go_ret
            rw [FIN.out]
            exact ⟨rfl, P8.out, R8.out, K8.out⟩
        · obtain rfl : k = C := by omega
          have zlt : decide ((k : Int) < (k : Int)) = false := decide_eq_false (by omega)
          rw [Nat.sub_self, J.JS.go] at hgo
          have FIN := Lib.hid (show j.append u s.data.toList = (0, { j with used := j.used + k }, uk) from by
            rw [HAP.out, ← hgo, if_neg (by simp)])
          have wu : wrap64 ((j.used : Int) + (k : Int)) = (j.used : Int) + (k : Int) := wrapA3 hub hkb
          have eu : (j.used : Int) + (k : Int) = ((j.used + k : Nat) : Int) := by omega
          have f4 : wr.frozen? ⟨q, 4, none⟩ = false := Lib.frozen_of_heap HRJ.out 4
          have R8 := Lib.hid (HRJ.out.used' (j.used + k))
          have K8 := Lib.hid (OUK.out _ (HKW.out.setCell (p := ⟨q, 4, none⟩) (fun _ => .inl rfl) (.int .i64 ((j.used + k : Nat) : Int))))
          have P8 := Lib.hid (OUT.out _ _ (HP.out.turn HI0.out ((Keeps.refl I wr).setCell (p := ⟨q, 4, none⟩) (fun _ => HIQ.out) (.int .i64 ((j.used + k : Nat) : Int)))))
          rw [← eu] at R8 K8 P8
          clear hP hRJ hgo hfk hKw hK3 hJw hlt hk d0 d1 d3 eu
          go_wp2
          go_ret
          rw [FIN.out]
          exact ⟨rfl, P8.out, R8.out, K8.out⟩
end Go.Proofs.YtggogaaooacooaaDoor
