/-
  The contracts of the reference's Check, Make, Id.
-/
import Derived.Test.YtalopcbjcgbdfaaDoorIMake
import Derived.Deep.RegionHeld3
import Derived.IntWalk
namespace Go.Proofs.YtalopcbjcgbdfaaDoor
open Go.RowKit Go.WideShapes
set_option maxRecDepth 100000

theorem chk_ref {s : List UInt8} (h : I.form s = true) : ∃ d, C.digits (s.drop 4 ++ s.take 2) = some d ∧ I.chk s = if d = (s.drop 2).take 2 then 0 else 8 := by
  obtain ⟨c, d, b, rfl, hc, hd, h1, h2, h3⟩ := I.form_parts h
  obtain ⟨e1, e2, e3, _⟩ := I.parts_of c d b hc hd
  obtain ⟨x, hx, _⟩ := I.digits_made h1 h3
  refine ⟨x, by rw [e1, e3]; exact hx, ?_⟩
  rw [e2, I.chk_of h1 h3 hd h2, hx]
  by_cases q : x = d
  · rw [if_pos q, if_pos (by rw [q])]
  · rw [if_neg q, if_neg (fun e => q (Option.some.inj e))]
theorem digN_yes {s d : List UInt8} (h : C.digits s = some d) : digN s = .tuple #[.string ⟨d.toArray⟩, .int .i64 0] := by unfold digN; rw [h]
theorem ret_ii {a b : Int} (h : a = b) : Ending.returned (.int .i64 a) = .returned (.int .i64 b) := by rw [h]
theorem ret_n {a b : Nat} (h : a = b) : Ending.returned (.int .i64 (a : Int)) = .returned (.int .i64 (b : Int)) := by rw [h]
theorem bytes_eq {D E : ByteArray} : (D.toList == E.toList) = decide (D.data.toList = E.data.toList) := by
  rw [Lib.toList_data, Lib.toList_data, Bool.eq_iff_iff, beq_iff_eq, decide_eq_true_iff]
theorem chk_bad {s : ByteArray} (h : I.form s.data.toList = false) : ((I.chk s.data.toList : Nat) : Int) = 7 := by unfold I.chk; rw [if_neg (by rw [h]; decide)]; rfl

set_option maxHeartbeats 3200000 in
theorem refCheck_any (s : ByteArray) (w : World) (hs : s.size ≤ 140737488351232) :
    Calls Tryd.prog 14 #[.string s] w fun e w' => e = .returned (.int .i64 (I.chk s.data.toList : Nat)) ∧ Qt w w' := by
  have HQ := Lib.hid (Qt.refl w)
  by_cases h5 : s.size < 5
  · have HE := Lib.hid (chk_bad (form_short (s := s) (by omega)))
    go_enter Tryd.func14, Tryd.ntmps14
    go_wp2
    go_ret
    exact ⟨ret_ii HE.out.symm, HQ.out⟩
  · by_cases h34 : 34 < s.size
    · have HE := Lib.hid (chk_bad (s := s) (by
        cases hf : I.form s.data.toList with
        | false => rfl
        | true => have := form_size hf; omega))
      clear hs
      go_enter Tryd.func14, Tryd.ntmps14
      go_wp2
      go_ret
      exact ⟨ret_ii HE.out.symm, HQ.out⟩
    · have hz : ∀ a b, (s.extract a b).size ≤ maxLen := fun a b => by rw [ByteArray.size_extract]; unfold maxLen; omega
      have HF := form_long (s := s) (by omega)
      have A1 := Lib.hid (refAll_any (s.extract 0 2) true false w (hz _ _))
      have A2 := Lib.hid (refAll_any (s.extract 2 4) false true w (hz _ _))
      have A3 := Lib.hid (refAll_any (s.extract 4 s.size) true true w (hz _ _))
      rw [allR_cap] at A1
      rw [allR_dig] at A2
      rw [allR_dl] at A3
      have hl2 : (s.extract 0 2).size = 2 := by rw [ByteArray.size_extract]; omega
      have hl4 : (s.extract 4 s.size).size = s.size - 4 := by rw [ByteArray.size_extract]; omega
      have hcy := country_yes hl2
      have hby := body_yes (s := s.extract 4 s.size) (by omega) (by omega)
      rw [hcy, hby] at HF
      have h2 : 2 ≤ s.size := by omega
      have h4 : 4 ≤ s.size := by omega
      have h2i : (2 : Int) ≤ (s.size : Int) := by omega
      have h4i : (4 : Int) ≤ (s.size : Int) := by omega
      have hmx : ¬ 9223372036854775807 < s.size - 4 + 2 := by omega
      clear hz hcy hby hl2 hl4
      cases h1 : allS I.cap (s.extract 0 2) with
      | false =>
        rw [h1] at A1 HF
        have HE := Lib.hid (chk_bad (s := s) HF)
        clear h1 HF hs
        go_enter Tryd.func14, Tryd.ntmps14
        go_wp2_with fail
        refine A1.out.mono ?_
        rintro e w' ⟨rfl, rfl⟩
        go_wp2
        go_ret
        exact ⟨ret_ii HE.out.symm, HQ.out⟩
      | true =>
        cases h3 : allS I.dig (s.extract 2 4) with
        | false =>
          rw [h1] at A1 HF
          rw [h3] at A2 HF
          have HE := Lib.hid (chk_bad (s := s) HF)
          clear h1 h3 HF hs
          go_enter Tryd.func14, Tryd.ntmps14
          go_wp2_with fail
          refine A1.out.mono ?_
          rintro e w' ⟨rfl, rfl⟩
          go_wp2_with fail
          refine A2.out.mono ?_
          rintro e w' ⟨rfl, rfl⟩
          go_wp2
          go_ret
          exact ⟨ret_ii HE.out.symm, HQ.out⟩
        | true =>
          cases h6 : allS I.dl (s.extract 4 s.size) with
          | false =>
            rw [h1] at A1 HF
            rw [h3] at A2 HF
            rw [h6] at A3 HF
            have HE := Lib.hid (chk_bad (s := s) HF)
            clear h1 h3 h6 HF hs
            go_enter Tryd.func14, Tryd.ntmps14
            go_wp2_with fail
            refine A1.out.mono ?_
            rintro e w' ⟨rfl, rfl⟩
            go_wp2_with fail
            refine A2.out.mono ?_
            rintro e w' ⟨rfl, rfl⟩
            go_wp2_with fail
            refine A3.out.mono ?_
            rintro e w' ⟨rfl, rfl⟩
            go_wp2
            go_ret
            exact ⟨ret_ii HE.out.symm, HQ.out⟩
          | true =>
            rw [h1] at A1 HF
            rw [h3] at A2 HF
            rw [h6] at A3 HF
            obtain ⟨d, hd, hk⟩ := chk_ref HF
            have R := Lib.hid (fun W => refDigits_any (s.extract 4 s.size ++ s.extract 0 2) W (by rw [ByteArray.size_append, ByteArray.size_extract, ByteArray.size_extract]; unfold maxLen; omega))
            rw [dapp, dtail, dhead, digN_yes hd] at R
            have hD : (⟨d.toArray⟩ : ByteArray).data.toList = d := rfl
            generalize (⟨d.toArray⟩ : ByteArray) = D at R hD
            have hE : (s.extract 2 4).data.toList = (s.data.toList.drop 2).take 2 := dslice s 2 4
            have hb := bytes_eq (D := D) (E := s.extract 2 4)
            rw [hD, hE] at hb
            by_cases q : d = (s.data.toList.drop 2).take 2
            · have HE := Lib.hid (show ((I.chk s.data.toList : Nat) : Int) = 0 by rw [hk, if_pos q]; rfl)
              have b1 : (D.toList == (s.extract 2 4).toList) = true := by rw [hb, decide_eq_true q]
              have b2 : (!(D.toList == (s.extract 2 4).toList)) = false := by rw [b1]; rfl
              have b3 : (D.toList != (s.extract 2 4).toList) = false := b2
              clear h1 h3 h6 HF hs hb q hd hk hD hE
              go_enter Tryd.func14, Tryd.ntmps14
              go_wp2_with fail
              refine A1.out.mono ?_
              rintro e w' ⟨rfl, rfl⟩
              go_wp2_with fail
              refine A2.out.mono ?_
              rintro e w' ⟨rfl, rfl⟩
              go_wp2_with fail
              refine A3.out.mono ?_
              rintro e w' ⟨rfl, rfl⟩
              go_wp2
              go_region_held3 (fun _ => True) (trivial) ((go_at_call 33; refine (R.out _).mono ?_; rintro e w' ⟨rfl, k⟩))
              go_wp2
              go_ret
              exact ⟨ret_ii HE.out.symm, Qt.trans (Keeps.drew (Qt.refl w)) k⟩
            · have HE := Lib.hid (show ((I.chk s.data.toList : Nat) : Int) = 8 by rw [hk, if_neg q]; rfl)
              have b1 : (D.toList == (s.extract 2 4).toList) = false := by rw [hb, decide_eq_false q]
              have b2 : (!(D.toList == (s.extract 2 4).toList)) = true := by rw [b1]; rfl
              have b3 : (D.toList != (s.extract 2 4).toList) = true := b2
              clear h1 h3 h6 HF hs hb q hd hk hD hE
              go_enter Tryd.func14, Tryd.ntmps14
              go_wp2_with fail
              refine A1.out.mono ?_
              rintro e w' ⟨rfl, rfl⟩
              go_wp2_with fail
              refine A2.out.mono ?_
              rintro e w' ⟨rfl, rfl⟩
              go_wp2_with fail
              refine A3.out.mono ?_
              rintro e w' ⟨rfl, rfl⟩
              go_wp2
              go_region_held3 (fun _ => True) (trivial) ((go_at_call 33; refine (R.out _).mono ?_; rintro e w' ⟨rfl, k⟩))
              go_wp2
              go_ret
              exact ⟨ret_ii HE.out.symm, Qt.trans (Keeps.drew (Qt.refl w)) k⟩
end Go.Proofs.YtalopcbjcgbdfaaDoor
