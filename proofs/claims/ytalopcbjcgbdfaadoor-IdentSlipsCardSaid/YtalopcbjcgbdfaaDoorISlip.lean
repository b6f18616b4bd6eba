/-
  The contract of remitlaw05.slips: the texts behind one slip, in a list of the call's own.
-/
import Derived.Test.YtalopcbjcgbdfaaDoorIRow
import Derived.Test.YtalopcbjcgbdfaaDoorAppOne
import Derived.Deep.QuietTactic
import Derived.BigQuiet
import Derived.Test.YtalopcbjcgbdfaaDoorIToken
import Derived.Test.YtalopcbjcgbdfaaDoorConv
import Derived.Deep.RegionLaw
import Derived.Deep.DeepCutAuto
import Derived.IntWalk
import Derived.Outline
namespace Go.Proofs.YtalopcbjcgbdfaaDoor
open Go.RowKit Go.WideShapes
set_option maxRecDepth 100000

theorem lDigit_any (c : UInt8) (w : World) : Calls Tryd.prog 48 #[.int .u8 c.toNat] w fun e w' => e = .returned (.bool (I.dig c)) ∧ w = w' := by
  have hE := Lib.hid (show I.dig c = decide (48 ≤ c.toNat ∧ c.toNat ≤ 57) from rfl)
  have hc := c.toNat_lt
  by_cases h1 : 48 ≤ c.toNat
  · by_cases h2 : c.toNat ≤ 57
    · go_enter Tryd.func48, Tryd.ntmps48
      go_wp2
      go_ret
      exact ⟨by rw [hE.out]; simp [h1, h2] <;> omega, rfl⟩
    · go_enter Tryd.func48, Tryd.ntmps48
      go_wp2
      go_ret
      exact ⟨by rw [hE.out]; simp [h2] <;> omega, rfl⟩
  · go_enter Tryd.func48, Tryd.ntmps48
    go_wp2
    go_ret
    exact ⟨by rw [hE.out]; simp [h1] <;> omega, rfl⟩

/-- A row of texts of the call's own; nothing of w has turned. -/
structure NewS (w wr : World) (v : Value) (l : List ByteArray) : Prop where
  own : wr.ownsRow 0 9 1 v l.length (l.map Value.string)
  new : ∀ g, v.ownBlock = some g → w.heap.size ≤ g
  since : Since w.heap.size w wr
theorem NewS.made (w : World) : NewS w (w.alloc (.cells #[] 9)) (.slice (some ⟨w.heap.size, 0, none⟩) 0 0) [] :=
  ⟨World.ownsRow_made w #[] 0 (Nat.zero_le _) (Nat.zero_le _) rfl, fun g hg => by injection hg with hg; exact Nat.le_of_eq hg, Qt.since ((Qt.refl w).alloc _)⟩
theorem NewS.quiet {w wr w2 : World} {v : Value} {l : List ByteArray} (h : NewS w wr v l) (k : Qt wr w2) : NewS w w2 v l := ⟨ownsRow_kept h.own k (fun _ _ e => e), h.new, h.since.step k (fun _ e => e.elim)⟩
theorem NewS.qt {w wr : World} {v : Value} {l : List ByteArray} (h : NewS w wr v l) : Qt w wr := Since.qt h.since
theorem NewS.more {w wr w2 w3 : World} {v : Value} {l : List ByteArray} {t : ByteArray} {g' cap' : Nat} (h : NewS w wr v l) (k2 : Qt wr w2)
    (hown : w3.ownsRow 0 9 1 (.slice (some ⟨g', 0, none⟩) (l.length + 1) cap') (l.length + 1) (l.map Value.string ++ [.string t]))
    (hg : (some g' = v.ownBlock ∧ w2.grownBy w3 v.ownBlock) ∨ (w2.heap.size ≤ g' ∧ w2.grownBy w3 none)) : NewS w w3 (.slice (some ⟨g', 0, none⟩) (l.length + 1) cap') (l ++ [t]) := by
  have h0 := h.since.size
  have h2 := k2.size
  have hs2 := h.since.step k2 (fun _ e => e.elim)
  refine ⟨?_, fun g hg' => ?_, ?_⟩
  · rw [List.length_append, List.map_append]; exact hown
  · have e : g = g' := by simpa [Value.ownBlock, eq_comm] using hg'
    subst e
    rcases hg with ⟨e, _⟩ | ⟨e, _⟩
    · exact h.new g e.symm
    · omega
  · rcases hg with ⟨_, hg⟩ | ⟨_, hg⟩
    · exact Keeps.grown hs2 hg (fun j hj e => h.new j e.symm)
    · exact Keeps.grown hs2 hg (fun j hj e => by cases e)

/-- Byte number k made d, if that is a slip. -/
def one5 (s : ByteArray) (k : Nat) (hk : k < s.size) (d : UInt8) : List ByteArray := if I.dig d = true ∧ d.toNat ≠ s[k].toNat then [s.extract 0 k ++ ⟨#[d]⟩ ++ s.extract (k + 1) s.size] else []
/-- Bytes number k and k + 1 exchanged, if that is a slip. -/
def two5 (s : ByteArray) (k : Nat) : List ByteArray :=
  if h : k + 1 < s.size then (if I.dig s[k + 1] = true ∧ s[k].toNat ≠ s[k + 1].toNat then [s.extract 0 k ++ ⟨#[s[k + 1], s[k]]⟩ ++ s.extract (k + 2) s.size] else []) else []
def slipsL (s : ByteArray) (i : Int) (d : UInt8) : List ByteArray :=
  if h : 0 ≤ i ∧ i.toNat < s.size then (if I.dig (s[i.toNat]'h.2) = true then one5 s i.toNat h.2 d ++ two5 s i.toNat else []) else []
def SlipsP (s : ByteArray) (i : Int) (d : UInt8) (w : World) (e : Ending) (w' : World) : Prop := ∃ v, e = .returned v ∧ NewS w w' v (slipsL s i d)
theorem SlipsP.mk {s : ByteArray} {i : Int} {d : UInt8} {w w' : World} {v : Value} {l : List ByteArray} (h : slipsL s i d = l) (hn : NewS w w' v l) : SlipsP s i d w (.returned v) w' := ⟨v, rfl, by rw [h]; exact hn⟩
theorem slipsL_out {s : ByteArray} {i : Int} {d : UInt8} (h : ¬ (0 ≤ i ∧ i.toNat < s.size)) : slipsL s i d = [] := dif_neg h
theorem slipsL_in {s : ByteArray} {k : Nat} {d : UInt8} (hk : k < s.size) : slipsL s (k : Int) d = if I.dig s[k] = true then one5 s k hk d ++ two5 s k else [] := dif_pos (show 0 ≤ (k : Int) ∧ (k : Int).toNat < s.size from ⟨by omega, hk⟩)

/-- Slot 33: is the digit another one? -/
def Cut33 (s : ByteArray) (k : Nat) (hk : k < s.size) (d : UInt8) (w : World) (t : Value) (wx : World) : Prop := w = wx ∧ ((t = .bool true ∧ one5 s k hk d = [s.extract 0 k ++ ⟨#[d]⟩ ++ s.extract (k + 1) s.size]) ∨ (t = .bool false ∧ one5 s k hk d = []))
theorem Cut33.yes {s : ByteArray} {k : Nat} {hk : k < s.size} {d : UInt8} {w : World} (h : I.dig d = true ∧ d.toNat ≠ s[k].toNat) : Cut33 s k hk d w (.bool true) w := ⟨rfl, .inl ⟨rfl, if_pos h⟩⟩
theorem Cut33.no {s : ByteArray} {k : Nat} {hk : k < s.size} {d : UInt8} {w : World} (h : ¬ (I.dig d = true ∧ d.toNat ≠ s[k].toNat)) : Cut33 s k hk d w (.bool false) w := ⟨rfl, .inr ⟨rfl, if_neg h⟩⟩
/-- Slot 70: are the two neighbours unlike digits? -/
def Cut70 (s : ByteArray) (k : Nat) (w : World) (t : Value) (wx : World) : Prop := Qt w wx ∧ ((t = .bool true ∧ ∃ h : k + 1 < s.size, two5 s k = [s.extract 0 k ++ ⟨#[s[k + 1], s[k]]⟩ ++ s.extract (k + 2) s.size]) ∨ (t = .bool false ∧ two5 s k = []))
theorem Cut70.no {s : ByteArray} {k : Nat} {w w2 : World} (h : two5 s k = []) (q : Qt w w2) : Cut70 s k w (.bool false) w2 := ⟨q, .inr ⟨rfl, h⟩⟩
theorem Cut70.yes {s : ByteArray} {k : Nat} {w w2 : World} (h : k + 1 < s.size) (h2 : I.dig s[k + 1] = true ∧ s[k].toNat ≠ s[k + 1].toNat) (q : Qt w w2) : Cut70 s k w (.bool true) w2 := ⟨q, .inl ⟨rfl, h, (dif_pos h).trans (if_pos h2)⟩⟩
theorem one5_len (s : ByteArray) (k : Nat) (hk : k < s.size) (d : UInt8) : (one5 s k hk d).length ≤ 1 := by unfold one5; split <;> simp
theorem two5_over {s : ByteArray} {k : Nat} (h : ¬ k + 1 < s.size) : two5 s k = [] := dif_neg h
theorem two5_plain {s : ByteArray} {k : Nat} (h : k + 1 < s.size) (hd : I.dig s[k + 1] = false) : two5 s k = [] := (dif_pos h).trans (if_neg (fun q => by rw [hd] at q; exact absurd q.1 (by decide)))
theorem two5_same {s : ByteArray} {k : Nat} (h : k + 1 < s.size) (he : s[k].toNat = s[k + 1].toNat) : two5 s k = [] := (dif_pos h).trans (if_neg (fun q => q.2 he))
theorem lDigitQ (c : UInt8) (b : Bool) (h : I.dig c = b) (w : World) : Calls Tryd.prog 48 #[.int .u8 c.toNat] w fun e w' => e = .returned (.bool b) ∧ w' = w :=
  (lDigit_any c w).mono fun _ _ ⟨h1, h2⟩ => ⟨by rw [h1, h], h2.symm⟩
theorem news2 (w1 : World) (A : Obj) (X : Value) : ∀ (j : Nat) u, [X][j]? = some u → (((w1.alloc A).alloc (.cells #[X] 9)).drew).cell? ((⟨w1.heap.size + 1, 0, none⟩ : Addr).add j) = some u := by
  have h := World.news_of_block (cs := #[X]) (heap_alloc_new (w1.alloc A) (.cells #[X] 9))
  rw [World.size_alloc] at h
  exact h
theorem qt2 (w1 : World) (A B : Obj) : Qt w1 ((w1.alloc A).alloc B).drew := Keeps.drew (((Qt.refl w1).alloc A).alloc B)
theorem infoStr : (Tryd.prog.info? 9).map (fun i => (i.zero, i.size, i.bytes)) = some (some (.string ⟨#[]⟩), 1, 16) := by kernel_rfl
set_option maxHeartbeats 3200000 in
theorem slips5_any (s : ByteArray) (i : Int) (d : UInt8) (w : World) (hs : s.size ≤ 1125899906842624) (i0 : -9223372036854775808 ≤ i) (i1 : i < 9223372036854775808) :
    Calls Tryd.prog 27 #[.string s, .int .i64 i, .int .u8 d.toNat] w (SlipsP s i d w) := by
  obtain ⟨j0, hi, hz0, hz1, hz2⟩ := info_parts infoStr
  have HM := Lib.hid (NewS.made w)
  by_cases h0 : i < 0
  · have HP := Lib.hid (fun w' v => SlipsP.mk (w := w) (w' := w') (v := v) (slipsL_out (s := s) (i := i) (d := d) (by omega)))
    go_enter Tryd.func27, Tryd.ntmps27
    go_wp2
    go_ret
    exact HP.out _ _ HM.out
  · by_cases h1 : (s.size : Int) ≤ i
    · have HP := Lib.hid (fun w' v => SlipsP.mk (w := w) (w' := w') (v := v) (slipsL_out (s := s) (i := i) (d := d) (by omega)))
      go_enter Tryd.func27, Tryd.ntmps27
      go_wp2
      go_ret
      exact HP.out _ _ HM.out
    · obtain ⟨k, rfl⟩ : ∃ k : Nat, i = (k : Int) := ⟨i.toNat, by omega⟩
      have hk : k < s.size := by omega
      have hb := s[k].toNat_lt
      have hdb := d.toNat_lt
      have hin := slipsL_in (d := d) hk
      have g0 : decide ((k : Int) < 0) = false := by rw [decide_eq_false_iff_not]; omega
      have g1 : decide (s.size ≤ k) = false := by rw [decide_eq_false_iff_not]; omega
      cases hd : I.dig s[k] with
      | false =>
        have HP := Lib.hid (fun w' v => SlipsP.mk (w := w) (w' := w') (v := v) (hin.trans (if_neg (by rw [hd]; decide))))
        have H1 := Lib.hid hd
        clear hd hin i0 i1 h0 h1
        go_enter Tryd.func27, Tryd.ntmps27
        go_wp2_with fail
        refine (lDigit_any s[k] _).mono ?_
        rintro e w' ⟨rfl, rfl⟩
        rw [H1.out]
        go_wp2
        go_ret
        exact HP.out _ _ HM.out
      | true =>
        have HP := Lib.hid (fun w' v => SlipsP.mk (w := w) (w' := w') (v := v) (hin.trans (if_pos hd)))
        have H1 := Lib.hid hd
        clear hd hin i0 i1 h0 h1
        go_enter Tryd.func27, Tryd.ntmps27
        go_wp2_with fail
        refine (lDigit_any s[k] _).mono ?_
        rintro e w' ⟨rfl, rfl⟩
        rw [H1.out]
        go_upto_region 4 with (fail)
        have HN := Lib.hid (show NewS w (w.alloc (.cells #[] 9)) (.slice (some ⟨w.heap.size, 0, none⟩) 0 0) [] from HM.out)
        clear HM
        generalize w.alloc _ = w1 at *
        generalize w.heap.size = b0 at *
        go_cut [33] from 25 to 33 (fun t wx => Cut33 s k hk d w1 t wx)
        case first =>
          cases hd : I.dig d with
          | false =>
            have H2 := Lib.hid hd
            have HC := Lib.hid (Cut33.no (w := w1) (hk := hk) (fun h => by rw [hd] at h; exact absurd h.1 (by decide)))
            clear hd
            go_wp2_with fail
            refine (lDigit_any d _).mono ?_
            rintro e w' ⟨rfl, rfl⟩
            rw [H2.out]
            go_wp2
            go_meet
            exact HC.out
          | true =>
            have H2 := Lib.hid hd
            by_cases he : d.toNat = s[k].toNat
            · have HC := Lib.hid (Cut33.no (w := w1) (hk := hk) (fun h => h.2 he))
              have b1 : ((d.toNat : Int) != (s[k].toNat : Int)) = false := by rw [bne_eq_false_iff_eq]; omega
              clear hd he
              go_wp2_with fail
              refine (lDigit_any d _).mono ?_
              rintro e w' ⟨rfl, rfl⟩
              rw [H2.out]
              go_wp2
              go_meet
              exact HC.out
            · have HC := Lib.hid (Cut33.yes (w := w1) (hk := hk) ⟨hd, he⟩)
              have b1 : ((d.toNat : Int) != (s[k].toNat : Int)) = true := by rw [bne_iff_ne]; omega
              clear hd he
              go_wp2_with fail
              refine (lDigit_any d _).mono ?_
              rintro e w' ⟨rfl, rfl⟩
              rw [H2.out]
              go_wp2
              go_meet
              exact HC.out
        case rest =>
          obtain ⟨rfl, hc⟩ := hcut
          have H3 := Lib.hid hc
          clear hc
          go_upto_if 33 with (fail)
          go_cut [7] from 34 to 48 (fun v wx => NewS w wx v (one5 s k hk d))
          case first =>
            rcases H3.out with ⟨rfl, hx⟩ | ⟨rfl, hx⟩
            · have HX := Lib.hid hx
              clear hx H3
              have Own := Lib.hid (fun (W : World) (k2 : Qt w1 W) => (HN.out.quiet k2).own)
              have F := Lib.hid (fun (t : ByteArray) g' cap' (w2 w3 : World) (k2 : Qt w1 w2) hown hg => NewS.more (w3 := w3) (t := t) (g' := g') (cap' := cap') HN.out k2 hown hg)
              have hcv := fun W a => conv1 W a
              have hcd := fun W a => conv1d W a
              have hk2 : k ≤ s.size := by omega
              have hk3 : k + 1 ≤ s.size := by omega
              have a1 : IntKind.i64.wrap ((k : Int) + 1) = (k : Int) + 1 := IntWalk.i64_in _ (by omega)
              have a2 : (0 : Int) ≤ (k : Int) + 1 := by omega
              have a3 : ((k : Int) + 1).toNat = k + 1 := by omega
              have a4 : (k : Int) + 1 ≤ (s.size : Int) := by omega
              have a5 : (k : Int) ≤ (s.size : Int) := by omega
              have a6 : ¬ 9223372036854775807 < k + 1 := by omega
              have a7 : ¬ 9223372036854775807 < s.size := by omega
              have OW := Lib.hid (Own.out _ (qt2 w1 (.cells #[.int .u8 (d.toNat : Int)] 5) (.cells #[.string (s.extract 0 k ++ ⟨#[d]⟩ ++ s.extract (k + 1) s.size)] 9)))
              have NW := Lib.hid (news2 w1 (.cells #[.int .u8 (d.toNat : Int)] 5) (.string (s.extract 0 k ++ ⟨#[d]⟩ ++ s.extract (k + 1) s.size)))
              have QW := Lib.hid (qt2 w1 (.cells #[.int .u8 (d.toNat : Int)] 5) (.cells #[.string (s.extract 0 k ++ ⟨#[d]⟩ ++ s.extract (k + 1) s.size)] 9))
              go_wp2
              go_region_law ((refine step_append_one _ (by rfl) _ _ _ (by rfl) 9 j0 (.string ⟨#[]⟩) 16 Tryd.underlying49 hi hz0 hz1 hz2 rfl _ 0 _ (by rfl) OW.out ⟨w1.heap.size + 1, 0, none⟩ 1 (.string (s.extract 0 k ++ ⟨#[d]⟩ ++ s.extract (k + 1) s.size)) (by rfl) NW.out rfl (by unfold maxLen; omega) (by omega) ?_; intro g' cap' w4 hown4 hcase4; have q3 := F.out (s.extract 0 k ++ ⟨#[d]⟩ ++ s.extract (k + 1) s.size) g' cap' _ w4 QW.out hown4 hcase4))
              all_goals
                have Fin := Lib.hid q3
                clear q3 hown4 hcase4
                go_wp2
                go_meet
                rw [HX.out]
                exact Fin.out
            · go_wp2
              go_meet
              rw [hx]
              exact HN.out
          case rest =>
            have HW := Lib.hid hcut
            clear hcut H3 HN
            have KD := Lib.hid (fun n => (Qt.refl wc).drewN n)
            have a1 : IntKind.i64.wrap ((k : Int) + 1) = (k : Int) + 1 := IntWalk.i64_in _ (by omega)
            have a2 : (0 : Int) ≤ (k : Int) + 1 := by omega
            have a3 : ((k : Int) + 1).toNat = k + 1 := by omega
            go_upto_region 6 with (fail)
            go_cut [70] from 49 to 70 (fun t wx => Cut70 s k wc t wx)
            case first =>
              by_cases h2 : k + 1 < s.size
              · have hb2 := s[k + 1].toNat_lt
                have a4 : (k : Int) + 1 < (s.size : Int) := by omega
                cases hd : I.dig s[k + 1] with
                | false =>
                  have HC := Lib.hid (fun w2 => Cut70.no (w := wc) (w2 := w2) (two5_plain h2 hd))
                  have LD := Lib.hid (fun W => lDigitQ s[k + 1] false hd W)
                  clear hd
                  go_quiet ((go_at_call 48; exact Calls.quiet_of_same (LD.out _)))
                  clear a1
                  go_wp2
                  go_meet
                  exact HC.out _ (KD.out _)
                | true =>
                  have LD := Lib.hid (fun W => lDigitQ s[k + 1] true hd W)
                  by_cases he : s[k].toNat = s[k + 1].toNat
                  · have HC := Lib.hid (fun w2 => Cut70.no (w := wc) (w2 := w2) (two5_same h2 he))
                    have b1 : ((s[k].toNat : Int) != (s[k + 1].toNat : Int)) = false := by rw [bne_eq_false_iff_eq]; omega
                    clear hd he
                    go_quiet ((go_at_call 48; exact Calls.quiet_of_same (LD.out _)))
                    clear a1
                    go_wp2
                    go_meet
                    exact HC.out _ (KD.out _)
                  · have HC := Lib.hid (fun w2 => Cut70.yes (w := wc) (w2 := w2) h2 ⟨hd, he⟩)
                    have b1 : ((s[k].toNat : Int) != (s[k + 1].toNat : Int)) = true := by rw [bne_iff_ne]; omega
                    clear hd he
                    go_quiet ((go_at_call 48; exact Calls.quiet_of_same (LD.out _)))
                    clear a1
                    go_wp2
                    go_meet
                    exact HC.out _ (KD.out _)
              · have HC := Lib.hid (fun w2 => Cut70.no (w := wc) (w2 := w2) (two5_over h2))
                have a4 : decide ((k : Int) + 1 < (s.size : Int)) = false := by simp; omega
                clear h2
                go_quiet (fail)
                clear a1 a2 a3 a4
                go_wp2
                go_meet
                exact HC.out _ (KD.out _)
            case rest =>
              obtain ⟨q2, hc⟩ := hcut
              have H4 := Lib.hid hc
              have HV := Lib.hid (HW.out.quiet q2)
              clear hc q2
              rcases H4.out with ⟨rfl, h2, hx⟩ | ⟨rfl, hx⟩
              · have HX := Lib.hid hx
                clear hx H4 KD
                have hL := one5_len s k hk d
                generalize one5 s k hk d = L at *
                have hb2 := s[k + 1].toNat_lt
                have a4 : (k : Int) + 1 < (s.size : Int) := by omega
                have a5 : (k : Int) ≤ (s.size : Int) := by omega
                have hk2 : k ≤ s.size := by omega
                have hk4 : k + 2 ≤ s.size := by omega
                have a6 : ¬ 9223372036854775807 < k + 2 := by omega
                have a7 : ¬ 9223372036854775807 < s.size := by omega
                have b1 : IntKind.i64.wrap ((k : Int) + 2) = (k : Int) + 2 := IntWalk.i64_in _ (by omega)
                have b2 : (0 : Int) ≤ (k : Int) + 2 := by omega
                have b3 : ((k : Int) + 2).toNat = k + 2 := by omega
                have b4 : (k : Int) + 2 ≤ (s.size : Int) := by omega
                have hcw := fun W a b => conv2 W a b
                have hce := fun W a b => conv2d W a b
                have OW := Lib.hid (HV.out.quiet (qt2 wc (.cells #[.int .u8 (s[k + 1].toNat : Int), .int .u8 (s[k].toNat : Int)] 5) (.cells #[.string (s.extract 0 k ++ ⟨#[s[k + 1], s[k]]⟩ ++ s.extract (k + 2) s.size)] 9))).own
                have F := Lib.hid (fun g' cap' (w3 : World) => @NewS.more w wc _ w3 u7 L (s.extract 0 k ++ ⟨#[s[k + 1], s[k]]⟩ ++ s.extract (k + 2) s.size) g' cap' HV.out (qt2 wc (.cells #[.int .u8 (s[k + 1].toNat : Int), .int .u8 (s[k].toNat : Int)] 5) (.cells #[.string (s.extract 0 k ++ ⟨#[s[k + 1], s[k]]⟩ ++ s.extract (k + 2) s.size)] 9)))
                have NW := Lib.hid (news2 wc (.cells #[.int .u8 (s[k + 1].toNat : Int), .int .u8 (s[k].toNat : Int)] 5) (.string (s.extract 0 k ++ ⟨#[s[k + 1], s[k]]⟩ ++ s.extract (k + 2) s.size)))
                have hLm : L.length + 1 ≤ maxLen := by unfold maxLen; omega
                go_wp2
                go_region_law ((refine step_append_one _ (by rfl) _ _ _ (by rfl) 9 j0 (.string ⟨#[]⟩) 16 Tryd.underlying49 hi hz0 hz1 hz2 rfl _ L.length _ (by rfl) OW.out ⟨wc.heap.size + 1, 0, none⟩ 1 (.string (s.extract 0 k ++ ⟨#[s[k + 1], s[k]]⟩ ++ s.extract (k + 2) s.size)) (by rfl) NW.out rfl hLm (by omega) ?_; intro g' cap' w4 hown4 hcase4; have q3 := F.out g' cap' w4 hown4 hcase4))
                all_goals
                  have Fin := Lib.hid q3
                  clear q3 hown4 hcase4
                  go_wp2
                  go_ret
                  exact HP.out _ _ (by rw [HX.out]; exact Fin.out)
              · have HX := Lib.hid hx
                clear hx a1 a2 a3
                go_wp2
                go_ret
                exact HP.out _ _ (by rw [HX.out, List.append_nil]; exact HV.out)
end Go.Proofs.YtalopcbjcgbdfaaDoor
