/-
  The contract of remitref10.Replay.
  The contract of remitlaw10.replayed, over what Replay and Each answer.
  The contract of journal.Replay.
-/
import Derived.Test.YtggogaaooacooaaDoorP35
import Derived.Test.YtggogaaooacooaaDoorP11
import Derived.Test.YtggogaaooacooaaDoorP32
import Derived.Test.YtggogaaooacooaaDoorP28
import Derived.Test.YtggogaaooacooaaDoorP31
namespace Go.Proofs.YtggogaaooacooaaDoor
open Go.RowKit Go.WideShapes
set_option maxRecDepth 100000

/-- What the loop keeps. -/
def RLAt (w : World) (s : Nat → Option (List UInt8)) (n : Nat) (ov iv : Value) (wr : World) : Prop :=
  ∃ (p : Nat) (out : List (List UInt8)), p ≤ n ∧ iv = .int .i64 p ∧ NewT w wr ov out ∧ out ++ J.log s n (n - p) p = J.logAll s n ∧ out.length ≤ p
theorem RLAt.more {w wr w2 w3 : World} {s : Nat → Option (List UInt8)} {n p : Nat} {out : List (List UInt8)} {t : List UInt8} {ov v' : Value} (hl : out ++ J.log s n (n - p) p = J.logAll s n) (hr : J.rec s n p = some t) (ho : out.length ≤ p) (h : NewT w wr ov out) (k : Qt wr w2)
    (hown : w3.ownsRow 0 9 1 v' (out.length + 1) (out.map strV ++ [strV t])) (hg : w2.grownBy w3 ov.ownBlock) (hlt : Later w2 ov.ownBlock v'.ownBlock) : RLAt w s n v' (.int .i64 ((p + J.cost t.length : Nat) : Int)) w3 := by
  have hc := J.cost_pos t.length
  refine ⟨p + J.cost t.length, out ++ [t], (J.rec_whole hr).room, rfl, h.later k hown hg hlt, ?_, by rw [List.length_append]; show out.length + 1 ≤ _; omega⟩
  rw [← hl, J.log_step hr]
  simp
def ReplayP (w : World) (r : List (List UInt8) × Nat) (e : Ending) (w' : World) : Prop := ∃ l, e = .returned (.tuple #[l, .int .i64 r.2]) ∧ NewT w w' l r.1
theorem may_yes {u : DS} {i n v : Int} (h : J.may u i n v) : ∃ i' n' v' : Nat, i = i' ∧ n = n' ∧ v = v' ∧ i' + n' ≤ u.dur.length ∧ n' ≤ 65536 ∧ 1 ≤ v' ∧ v' ≤ 1099511627776 := by
  obtain ⟨a1, a2, a3, a4, a5, a6, a7⟩ := h
  exact ⟨i.toNat, n.toNat, v.toNat, by omega, by omega, by omega, by omega, by omega, by omega, by omega⟩

theorem refE_no {u : DS} {i n v : Int} (h : ¬ J.may u i n v) : J.refE u i n v = 6 := if_pos h
theorem refE_off {u : DS} {i n v : Int} (h : J.may u i n v) (ho : u.off = true) : J.refE u i n v = 12 := (if_neg (fun k => k h)).trans (if_pos ho)
theorem refE_yes {u : DS} {i n v : Int} (h : J.may u i n v) (ho : u.off = false) : J.refE u i n v = 0 := (if_neg (fun k => k h)).trans (if_neg (by rw [ho]; simp))
theorem replay_no {u : DS} {i n v : Int} {e : Nat} (h : J.refE u i n v = e) (he : e ≠ 0) : J.replay u i n v = ([], e) := by unfold J.replay; rw [h, if_pos he]
theorem replay_yes {u : DS} {i n v : Nat} (h : J.refE u i n v = 0) : J.replay u (i : Int) (n : Int) (v : Int) = (J.logAll (J.secs u i v) n, 0) := by
  unfold J.replay; rw [h, if_neg (by decide)]; simp only [Int.toNat_natCast]

set_option maxHeartbeats 3200000 in
theorem rreplay_any {w0 w : World} {j b c : Nat} {d u : DS} (h : Pair j w0 w b c d u) (hf : u.Few) (i n v : Int) :
    Calls Tryd.prog 48 #[.pointer (some ⟨c, 0, none⟩), .int .i64 i, .int .i64 n, .int .i64 v] w (ReplayP w (J.replay u i n v)) := by
  have MY := rmay_any h i n v
  by_cases hm : J.may u i n v
  · rw [decide_eq_true hm] at MY
    have c2 : w.cell? ⟨c, 2, none⟩ = some (.bool u.off) := by
      obtain ⟨S, T, h1, ⟨sv, wv, P, hT⟩, h3, h4, h5, h6⟩ := h
      exact P.cell 2 _ rfl
    cases ho : u.off with
    | true =>
      rw [ho] at c2
      have FIN := Lib.hid (show J.replay u i n v = ([], 12) from replay_no (refE_off hm ho) (by decide))
      clear hm h ho hf
      go_enter Tryd.func48, Tryd.ntmps48
      go_wp2_with fail
      refine MY.mono ?_
      rintro e w1 ⟨rfl, rfl⟩
      go_wp2
      go_ret2
      exact ⟨_, by rw [FIN.out]; rfl, by rw [FIN.out]; exact NewT.nil (Qt.refl _)⟩
    | false =>
      rw [ho] at c2
      obtain ⟨i, n, v, rfl, rfl, rfl, hin, hn, h1, h2⟩ := may_yes hm
      have FIN := Lib.hid (show J.replay u (i : Int) (n : Int) (v : Int) = (J.logAll (J.secs u i v) n, 0) from replay_yes (refE_yes hm ho))
      have RC := Lib.hid (fun (p : Nat) (hp : p < n) (W : World) (q : Qt w W) => rrecord_any (h.qt q) hf ho i n v p h1 h2 hn hin hp)
      have HNB := Lib.hid hn
      have START := Lib.hid (show RLAt w (J.secs u i v) n (.slice none 0 0) (.int .i64 0) w from ⟨0, [], Nat.zero_le _, rfl, NewT.nil (Qt.refl _), rfl, Nat.le_refl _⟩)
      obtain ⟨i0, hi0, hz0, hz1, hz2⟩ := info_parts infoStrT
      clear hm h ho hf hin h1 h2
      go_enter Tryd.func48, Tryd.ntmps48
      go_wp2_with fail
      refine MY.mono ?_
      rintro e w1 ⟨rfl, rfl⟩
      go_wp2
      go_loopw [10, 11] (fun ov iv wr => RLAt w1 (J.secs u i v) n ov iv wr) (fun _ iv _ => n - (intOf iv).toNat)
      case atStart => exact START.out
      case round =>
        obtain ⟨p, out, hp, rfl, hN, hl, hol⟩ := hrel
        obtain ⟨oa, oc, rfl⟩ := hN.shape
        have HN := Lib.hid hN
        have HL := Lib.hid hl
        have HOL := Lib.hid hol
        have hpb : (p : Int) ≤ 65536 := by omega
        by_cases hlt : p < n
        · have zlt : decide ((p : Int) < (n : Int)) = true := decide_eq_true (by omega)
          have zlt' : decide (p < n) = true := decide_eq_true hlt
          have R1 := RC.out p hlt wr hN.qt
          cases hr : J.rec (J.secs u i v) n p with
          | none =>
            rw [hr] at R1
            have R2 := Lib.hid (show Calls Tryd.prog 73 #[.pointer (some ⟨c, 0, none⟩), .int .i64 i, .int .i64 n, .int .i64 v, .int .i64 p] wr fun e w' => e = .returned (.tuple #[.string ⟨#[]⟩, .int .i64 0, .bool false]) ∧ Qt wr w' from R1)
            have HO := Lib.hid (show out = J.logAll (J.secs u i v) n by rw [← hl, J.log_stop hr, List.append_nil])
            clear R1 hr hN hl hol hlt hp
            go_wp2_with fail
            refine R2.out.mono ?_
            rintro e4 w5 ⟨rfl, q5⟩
            have N5 := Lib.hid (HN.out.quiet q5)
            clear q5
            go_wp2
            go_ret2
            exact ⟨_, by rw [FIN.out]; rfl, by rw [FIN.out, ← HO.out]; exact N5.out⟩
          | some t =>
            rw [hr] at R1
            obtain ⟨V, hV⟩ : ∃ V : ByteArray, strV t = .string V := ⟨⟨t.toArray⟩, rfl⟩
            obtain ⟨z, hz⟩ : ∃ z : Nat, p + J.cost t.length = z := ⟨_, rfl⟩
            have R2 := Lib.hid (show Calls Tryd.prog 73 #[.pointer (some ⟨c, 0, none⟩), .int .i64 i, .int .i64 n, .int .i64 v, .int .i64 p] wr fun e w' => e = .returned (.tuple #[.string V, .int .i64 z, .bool true]) ∧ Qt wr w' from by
              have h := R1
              unfold recV at h
              simp only [hV, hz] at h
              exact h)
            have HME := Lib.hid (show n - (intOf (.int .i64 (z : Int))).toNat < n - (intOf (.int .i64 (p : Int))).toNat by have := J.cost_pos t.length; simp [intOf]; omega)
            have NX := Lib.hid (fun (w2 w3 : World) (v' : Value) (k : Qt wr w2) (hown : w3.ownsRow 0 9 1 v' (out.length + 1) (out.map strV ++ [.string V])) (hg : w2.grownBy w3 (Value.slice oa out.length oc).ownBlock) (hl2 : Later w2 (Value.slice oa out.length oc).ownBlock v'.ownBlock) => (show RLAt w1 (J.secs u i v) n v' (.int .i64 (z : Int)) w3 from by
              rw [← hz]
              exact RLAt.more hl hr hol hN k (by rw [hV]; exact hown) hg hl2))
            have hb1 : out.length + 1 ≤ maxLen := by unfold maxLen; omega
            have hb2 : (out.length + 1) * 16 ≤ 140737488355328 := by omega
            clear R1 hr hN hl hol hlt hp hV hz
            go_wp2_with fail
            refine R2.out.mono ?_
            rintro e4 w5 ⟨rfl, q5⟩
            have Q5 := Lib.hid q5
            have N5 := Lib.hid (HN.out.quiet q5)
            have HQA := Lib.hid (fun o => Keeps.alloc q5 o)
            have HOW := Lib.hid (fun o => ownsRow_kept N5.out.own ((Keeps.refl (fun _ => False) w5).alloc o) (fun _ _ h => h))
            clear q5
            go_wp2_with (at_builtin; refine wpList_append_cells0 _ rfl _ _ 66 rfl 9 i0 (.string ⟨#[]⟩) 1 16 Tryd.underlying66 hi0 hz0 hz1 hz2 rfl (by decide) _ out.length _ rfl (HOW.out _) ⟨w5.heap.size, 0, none⟩ 1 1 [.string V] rfl rfl ?c1 ?c2 hb1 hb2 ?_)
            case c1 => exact newsT w5 _
            case c2 => intro x hx; simp at hx; subst hx; rfl
            intro v' w7 own7 hg hl7 _
            have FN := Lib.hid (NX.out _ w7 v' (HQA.out _) own7 hg hl7)
            clear own7 hg hl7
            go_wp2
            exact ⟨FN.out, HME.out⟩
        · obtain rfl : p = n := by omega
          have zlt : decide ((p : Int) < (p : Int)) = false := decide_eq_false (by omega)
          have HO := Lib.hid (show out = J.logAll (J.secs u i v) p by rw [← hl, J.log_end (Nat.le_refl _), List.append_nil])
          clear hN hl hol hlt hp
          go_wp2
          go_ret2
          exact ⟨_, by rw [FIN.out]; rfl, by rw [FIN.out, ← HO.out]; exact HN.out⟩
  · rw [decide_eq_false hm] at MY
    have FIN := Lib.hid (show J.replay u i n v = ([], 6) from replay_no (refE_no hm) (by decide))
    clear hm h hf
    go_enter Tryd.func48, Tryd.ntmps48
    go_wp2_with fail
    refine MY.mono ?_
    rintro e w1 ⟨rfl, rfl⟩
    go_wp2
    go_ret2
    exact ⟨_, by rw [FIN.out]; rfl, by rw [FIN.out]; exact NewT.nil (Qt.refl _)⟩
end Go.Proofs.YtggogaaooacooaaDoor
namespace Go.Proofs.YtggogaaooacooaaDoor
open Go.RowKit Go.Shelf
attribute [local go_sem] Oper.semAt_some
set_option maxRecDepth 100000
theorem NewT.texts {w wr : World} {v : Value} {l : List (List UInt8)} (h : NewT w wr v l) : TextsIn wr v l := by
  rcases h.own.2 with ⟨e, h0⟩ | ⟨g, cap, cur, e, _⟩
  · have h1 : l = [] := List.length_eq_zero_iff.1 h0
    subst h1
    exact ⟨0, 0, 0, .inr ⟨e, rfl⟩, fun k t hk => by simp at hk⟩
  · subst e
    refine ⟨g, 0, cap, .inl rfl, fun k t hk => ?_⟩
    obtain ⟨g', e, hc⟩ := newT_cell h hk
    injection e with e
    injection e with e
    rw [Nat.zero_add, e]
    exact hc
/-- What a Replay of the program's answers. -/
def ReplayJ (ad : Nat → Addr) (w : World) (r : List (List UInt8) × Nat) (e : Ending) (w' : World) : Prop := ∃ l, e = .returned (.tuple #[l, errV ad r.2]) ∧ NewT w w' l r.1
def EachJ (w : World) (l : List (List UInt8)) (e : Ending) (w' : World) : Prop := ∃ v, e = .returned (.tuple #[v, .bool true]) ∧ NewT w w' v l
theorem same_yes {a b : Value} {l : List (List UInt8)} {w : World} (hl : TextsIn w a l) (hm : TextsIn w b l) (hlb : l.length ≤ 140737488355328) :
    Calls Tryd.prog 32 #[a, b] w fun e w' => e = .returned (.bool true) ∧ Qt w w' :=
  (same_any a b l l w hl hm hlb).mono fun _ _ h => by
    rw [decide_eq_true rfl] at h
    exact h
set_option maxHeartbeats 400000 in
theorem replayed_any (da ra : Value) (i n v : Int) (ad : Nat → Addr) (r : List (List UInt8) × Nat) (w : World) (hE : Errs ad w) (hr : r.2 ≤ 37) (hl : r.1.length ≤ 70000)
    (HR : ∀ W, Qt w W → Calls Tryd.prog 30 #[da, .int .i64 i, .int .i64 n, .int .i64 v] W (ReplayJ ad W r))
    (HX : ∀ W, Qt w W → Calls Tryd.prog 48 #[ra, .int .i64 i, .int .i64 n, .int .i64 v] W (ReplayP W r))
    (HH : ∀ W, Qt w W → Calls Tryd.prog 49 #[da, .int .i64 i, .int .i64 n, .int .i64 v] W (EachJ W r.1)) :
    Calls Tryd.prog 17 #[da, ra, .int .i64 i, .int .i64 n, .int .i64 v] w fun e w' => e = .returned (.bool true) ∧ Qt w w' := by
  obtain ⟨l, c⟩ := r
  dsimp only at hr hl HR HX HH
  have zc : ((c : Int) == (c : Int)) = true := beq_self_eq_true _
  have HL := Lib.hid hl
  have HC := Lib.hid hr
  clear hl hr
  go_enter Tryd.func17, Tryd.ntmps17
  have LE := Lib.hid (show l.length ≤ 140737488355328 by have := HL.out; omega)
  have HEE := Lib.hid hE
  have HRR := Lib.hid (HR w (Qt.refl w))
  have HXX := Lib.hid HX
  have HHH := Lib.hid HH
  clear hE HR HX HH
  go_wp2_with (first
    | (go_at_call 30; refine HRR.out.mono ?_; rintro e w1 ⟨lv, rfl, N1⟩; have Q1 := Lib.hid N1.qt; have T1 := Lib.hid N1.texts; clear N1)
    | (go_at_call 48; refine (HXX.out _ Q1.out).mono ?_; rintro e w2 ⟨mv, rfl, N2⟩; have Q2 := Lib.hid (Qt.trans Q1.out N2.qt); have T12 := Lib.hid (T1.out.qt N2.qt); have T2 := Lib.hid N2.texts; clear N2)
    | (go_at_call 49; refine (HHH.out _ Q2.out).mono ?_; rintro e w3 ⟨kv, rfl, N3⟩; have Q3 := Lib.hid (Qt.trans Q2.out N3.qt); have T13 := Lib.hid (T12.out.qt N3.qt); have T23 := Lib.hid (T2.out.qt N3.qt); have T3 := Lib.hid N3.texts; clear N3)
    | (go_at_call 11; refine (num_any ad c _ (HEE.out.kept Q3.out (OffErrs.none ad)) HC.out).mono ?_; rintro e w4 ⟨rfl, q4⟩; have Q4 := Lib.hid (Qt.trans Q3.out q4); have A1 := Lib.hid (T13.out.qt q4); have A2 := Lib.hid (T23.out.qt q4); have A3 := Lib.hid (T3.out.qt q4); clear q4)
    | fail)
  refine (same_yes A1.out A2.out LE.out).mono ?_
  rintro e w5 ⟨rfl, q5⟩
  have Q5 := Lib.hid (Qt.trans Q4.out q5)
  have B2 := Lib.hid (A2.out.qt q5)
  have B3 := Lib.hid (A3.out.qt q5)
  clear q5 A1 A2 A3 T1 T12 T13 T2 T23 T3 Q1 Q2 Q3 Q4 HRR HXX HHH HEE
  go_wp2_with fail
  refine (same_yes B3.out B2.out LE.out).mono ?_
  rintro e w6 ⟨rfl, q6⟩
  have Q6 := Lib.hid (Qt.trans Q5.out q6)
  clear q6 B2 B3 Q5
  go_wp2_with fail
  go_ret
  exact ⟨rfl, Q6.out⟩
end Go.Proofs.YtggogaaooacooaaDoor
namespace Go.Proofs.YtggogaaooacooaaDoor
open Go.RowKit Go.WideShapes
set_option maxRecDepth 100000

theorem NewT.base {w WA W : World} {v : Value} {l : List (List UInt8)} (q : Qt w WA) (h : NewT WA W v l) : NewT w W v l := ⟨h.own, fun g hg => Nat.le_trans q.size (h.new g hg), Qt.trans q h.qt⟩
theorem replayJ_of {ad : Nat → Addr} {w WA W : World} {v : Value} {r : List (List UInt8) × Nat} {l : List (List UInt8)} (q : Qt w WA) (h : NewT WA W v l) (hr : r = (l, 0)) : ReplayJ ad w r (.returned (.tuple #[v, .nilIface])) W := by
  subst hr
  exact ⟨v, rfl, h.base q⟩

set_option maxHeartbeats 3200000 in
theorem jreplay_any (ad : Nat → Addr) {w : World} {b : Nat} {d : DS} {S : Nat → Prop} (hE : Errs ad w) (hT : Tab w) (h : DiskAt w b d S) (i n v : Int) (hn : n ≤ 9223372036854775807) :
    Calls Tryd.prog 30 #[.pointer (some ⟨b, 0, none⟩), .int .i64 i, .int .i64 n, .int .i64 v] w (ReplayJ ad w (J.replay d i n v)) := by
  have RF := Lib.hid (fun W (q : Qt w W) => (show Calls Tryd.prog 50 #[.agg #[.pointer (some ⟨b, 0, none⟩), .int .i64 i, .int .i64 n, .int .i64 v]] W fun e w' => e = .returned (errV ad (J.refE d i n v)) ∧ Qt W w' from
    jrefuse_any ad (hE.kept q (OffErrs.none ad)) (DiskAt.qt h q) i n v hn))
  by_cases hr : J.refE d i n v = 0
  · have hm : J.may d i n v ∧ d.off = false := by
      unfold J.refE at hr
      split at hr
      · omega
      · split at hr
        · omega
        · rename_i h1 h2
          exact ⟨Decidable.not_not.1 h1, by simpa using h2⟩
    obtain ⟨hmay, ho⟩ := hm
    obtain ⟨i, n, v, rfl, rfl, rfl, hin, hnb, h1, h2⟩ := may_yes hmay
    rw [hr, errV_zero] at RF
    have FIN := Lib.hid (replay_yes hr)
    obtain ⟨WA, hWA, QA, hb⟩ := place_new w b i n v
    have HWA := Lib.hid hWA
    have HQA := Lib.hid QA
    have HB := Lib.hid hb
    obtain ⟨d0, d1, d2, d3⟩ := place_cells hb
    have RC := Lib.hid (fun (p : Nat) (hp : p < n) (W : World) (q : Qt WA W) => (show Calls Tryd.prog 57 #[.agg #[.pointer (some ⟨b, 0, none⟩), .int .i64 (i : Int), .int .i64 (n : Int), .int .i64 (v : Int)], .int .i64 (p : Int)] W fun e w' => e = .returned (recJV (J.rec (J.secs d i v) n p)) ∧ Qt W w' from
      jrecord_any ad (hE.kept (Qt.trans QA q) (OffErrs.none ad)) (hT.qt (Qt.trans QA q)) (DiskAt.qt h (Qt.trans QA q)) ho i n v p h1 h2 hin hp))
    have HNB := Lib.hid hnb
    have R1 := RF.out WA QA
    obtain ⟨i0, hi0, hz0, hz1, hz2⟩ := info_parts infoStrT
    clear hE hT h hr hmay ho hin hnb h1 h2 hWA QA hb hn
    generalize J.secs d i v = s at *
    go_enter Tryd.func30, Tryd.ntmps30
    go_wp2_with fail
    rw [HWA.out]
    refine R1.mono ?_
    rintro e w1 ⟨rfl, q1⟩
    have HQ1 := Lib.hid q1
    have START := Lib.hid (show RLAt WA s n (.slice none 0 0) (.int .i64 0) w1 from ⟨0, [], Nat.zero_le _, rfl, NewT.nil q1, rfl, Nat.le_refl _⟩)
    clear q1 d0 d1 d2 d3 R1
    go_wp2
    go_loopw [12, 13] (fun ov iv wr => RLAt WA s n ov iv wr) (fun _ iv _ => n - (intOf iv).toNat)
    case atStart => exact START.out
    case round =>
      obtain ⟨p, out, hp, rfl, hN, hl, hol⟩ := hrel
      obtain ⟨oa, oc, rfl⟩ := hN.shape
      have HN := Lib.hid hN
      by_cases hlt : p < n
      · have zlt := sj_lt hlt
        have zlt' : decide (p < n) = true := decide_eq_true hlt
        obtain ⟨x0, x1, x2, x3⟩ := place_cells (place_qt HB.out hN.qt)
        have R2 := RC.out p hlt wr hN.qt
        cases hrec : J.rec s n p with
        | none =>
          rw [hrec] at R2
          have HO := Lib.hid (show out = J.logAll s n by rw [← hl, J.log_stop hrec, List.append_nil])
          clear hN hl hol hlt hp hrec
          unfold recJV at R2
          go_wp2_with fail
          refine R2.mono ?_
          rintro e w2 ⟨rfl, q2⟩
          have N2 := Lib.hid (HN.out.quiet q2)
          clear q2 R2 x0 x1 x2 x3
          go_wp2
          go_ret2
          exact replayJ_of HQA.out N2.out (by rw [FIN.out, HO.out])
        | some t =>
          rw [hrec] at R2
          obtain ⟨V, hV, hVs⟩ : ∃ V : ByteArray, strV t = .string V ∧ V.size = t.length := ⟨⟨t.toArray⟩, rfl, by simp [ByteArray.size]⟩
          have hroom := (J.rec_whole hrec).room
          have hcp := J.cost_pos t.length
          obtain ⟨C, hC⟩ : ∃ C, J.cost t.length = C := ⟨_, rfl⟩
          have CO := Lib.hid (show ∀ W, Calls Tryd.prog 19 #[.int .i64 (V.size : Int)] W fun e w' => e = .returned (.int .i64 (C : Int)) ∧ w' = W from fun W => by
            have h := jcost_nat t.length (by have := (J.rec_whole hrec).small; omega) W
            rw [hC, ← hVs] at h
            exact h)
          have R3 := Lib.hid (show Calls Tryd.prog 57 #[.agg #[.pointer (some ⟨b, 0, none⟩), .int .i64 (i : Int), .int .i64 (n : Int), .int .i64 (v : Int)], .int .i64 (p : Int)] wr fun e w' => e = .returned (.tuple #[.string V, .bool true]) ∧ Qt wr w' from by
            have h := R2
            unfold recJV at h
            have e : (⟨t.toArray⟩ : ByteArray) = V := by have := hV; unfold strV at this; injection this
            simp only [e] at h
            exact h)
          rw [hC] at hroom hcp
          have wpc := sj_w2b (i := p) (k := C) (Nat.le_trans hp HNB.out) (by have := HNB.out; omega)
          have HME := Lib.hid (show n - (intOf (.int .i64 ((p : Int) + (C : Int)))).toNat < n - (intOf (.int .i64 (p : Int))).toNat by rw [← Int.natCast_add]; exact sj_meas2 (n := n) (m := p + C) hlt (by omega))
          have NX := Lib.hid (fun (w2 w3 : World) (v' : Value) (k : Qt wr w2) (hown : w3.ownsRow 0 9 1 v' (out.length + 1) (out.map strV ++ [.string V])) (hg : w2.grownBy w3 (Value.slice oa out.length oc).ownBlock) (hl2 : Later w2 (Value.slice oa out.length oc).ownBlock v'.ownBlock) => (show RLAt WA s n v' (.int .i64 ((p : Int) + (C : Int))) w3 from by
            rw [← hC, ← Int.natCast_add]
            exact RLAt.more hl hrec hol hN k (by rw [hV]; exact hown) hg hl2))
          have hb1 : out.length + 1 ≤ maxLen := by have := HNB.out; unfold maxLen; omega
          have hb2 : (out.length + 1) * 16 ≤ 140737488355328 := by have := HNB.out; omega
          clear R2 hrec hN hl hol hlt hp hV hVs hC hroom hcp
          go_wp2_with fail
          refine R3.out.mono ?_
          rintro e4 w5 ⟨rfl, q5⟩
          have N5 := Lib.hid (HN.out.quiet q5)
          have HQA := Lib.hid (fun o => Keeps.alloc q5 o)
          have HOW := Lib.hid (fun o => ownsRow_kept N5.out.own ((Keeps.refl (fun _ => False) w5).alloc o) (fun _ _ h => h))
          clear q5 x0 x1 x2 x3
          go_wp2_with (at_builtin; refine wpList_append_cells0 _ rfl _ _ 66 rfl 9 i0 (.string ⟨#[]⟩) 1 16 Tryd.underlying66 hi0 hz0 hz1 hz2 rfl (by decide) _ out.length _ rfl (HOW.out _) ⟨w5.heap.size, 0, none⟩ 1 1 [.string V] rfl rfl ?c1 ?c2 hb1 hb2 ?_)
          case c1 => exact newsT w5 _
          case c2 => intro x hx; simp at hx; subst hx; rfl
          intro v' w7 own7 hg hl7 _
          have FN := Lib.hid (NX.out _ w7 v' (HQA.out _) own7 hg hl7)
          clear own7 hg hl7
          go_wp2_with fail
          refine (CO.out _).mono ?_
          rintro e8 w8 ⟨rfl, rfl⟩
          go_wp2
          rw [wpc]
          exact ⟨FN.out, HME.out⟩
      · obtain rfl := sj_eq hp hlt
        have zlt := sj_ge (Nat.le_refl p)
        have HO := Lib.hid (show out = J.logAll s p by rw [← hl, J.log_end (Nat.le_refl _), List.append_nil])
        clear hN hl hol hlt hp
        go_wp2
        go_ret2
        exact replayJ_of HQA.out HN.out (by rw [FIN.out, HO.out])
  · have FIN := Lib.hid (replay_no (u := d) (i := i) (n := n) (v := v) rfl hr)
    rw [errV_pos ad (Nat.pos_of_ne_zero hr)] at RF
    have EV := Lib.hid (errV_pos ad (Nat.pos_of_ne_zero hr))
    clear hE hT h
    generalize J.refE d i n v = x at *
    clear hr
    obtain ⟨WA, hWA, QA, hb⟩ := place_new w b i n v
    obtain ⟨d0, d1, d2, d3⟩ := place_cells hb
    have HWA := Lib.hid hWA
    have HQA := Lib.hid QA
    have R1 := RF.out WA QA
    clear hWA QA hb
    go_enter Tryd.func30, Tryd.ntmps30
    go_wp2_with fail
    rw [HWA.out]
    refine R1.mono ?_
    rintro e w1 ⟨rfl, q1⟩
    have Q1 := Lib.hid (Qt.trans HQA.out q1)
    clear q1 R1 d0 d1 d2 d3
    go_wp2
    go_ret2
    rw [FIN.out]
    exact ⟨_, by rw [EV.out]; rfl, NewT.nil Q1.out⟩
end Go.Proofs.YtggogaaooacooaaDoor
