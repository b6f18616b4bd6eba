/-
  The contracts of remitref08's slot and Read, and of remitlaw08.fit.
-/
import Derived.Test.YtnnkibhlildojaaDoorGCode
import Derived.Test.YtnnkibhlildojaaDoorGImage
import Derived.Test.YtnnkibhlildojaaDoorERefO
namespace Go.Proofs.YtnnkibhlildojaaDoor
open Go.RowKit Go.WideShapes
set_option maxRecDepth 100000

theorem fit_any (s : ByteArray) (w : World) : Calls Tryd.prog 8 #[.string s] w fun e w' => e = .returned (.bool (decide (0 < s.size ∧ s.size % 256 = 0 ∧ s.size ≤ 32768))) ∧ w' = w := by
  by_cases h0 : 0 < s.size
  · by_cases h1 : s.size % 256 = 0
    · by_cases h2 : s.size ≤ 32768
      · have FIN := Lib.hid (show decide (0 < s.size ∧ s.size % 256 = 0 ∧ s.size ≤ 32768) = true from decide_eq_true ⟨h0, h1, h2⟩)
        have z1 : (s.size : Int) % 256 = 0 := by omega
        have z2 : (s.size : Int) ≤ 32768 := by omega
        clear h1
        go_enter Tryd.func8, Tryd.ntmps8
        go_wp2
        go_ret
        exact ⟨by rw [FIN.out]; rfl, rfl⟩
      · have FIN := Lib.hid (show decide (0 < s.size ∧ s.size % 256 = 0 ∧ s.size ≤ 32768) = false from decide_eq_false (fun k => h2 k.2.2))
        have z1 : (s.size : Int) % 256 = 0 := by omega
        have z2 : decide ((s.size : Int) ≤ 32768) = false := decide_eq_false (by omega)
        clear h1
        go_enter Tryd.func8, Tryd.ntmps8
        go_wp2
        go_ret
        exact ⟨by rw [FIN.out]; rfl, rfl⟩
    · have FIN := Lib.hid (show decide (0 < s.size ∧ s.size % 256 = 0 ∧ s.size ≤ 32768) = false from decide_eq_false (fun k => h1 k.2.1))
      have z2 : ((s.size : Int) % 256 == 0) = false := by rw [beq_eq_false_iff_ne]; omega
      go_enter Tryd.func8, Tryd.ntmps8
      go_wp2
      go_ret
      exact ⟨by rw [FIN.out]; rfl, rfl⟩
  · have FIN := Lib.hid (show decide (0 < s.size ∧ s.size % 256 = 0 ∧ s.size ≤ 32768) = false from decide_eq_false (fun k => h0 k.1))
    go_enter Tryd.func8, Tryd.ntmps8
    go_wp2
    go_ret
    exact ⟨by rw [FIN.out]; rfl, rfl⟩

theorem slotRef_any (s : ByteArray) (i : Nat) (hi : i < 2) (w : World) :
    Calls Tryd.prog 26 #[.string s, .int .i64 i] w fun e w' => e = .returned (slotT (G.slotV s.data.toList i)) ∧ Qt w w' := by
  have hl : s.data.toList.length = s.size := by simp
  have EN := refEnds_any s w
  obtain ⟨V, hV⟩ : ∃ V, V = G.slotV s.data.toList i := ⟨_, rfl⟩
  rw [← hV]
  have fr : V = if s.size = 256 ∧ E.front s.data.toList = E.back s.data.toList ∧ 1 ≤ E.front s.data.toList ∧ E.front s.data.toList ≤ 1099511627776 ∧ E.front s.data.toList % 2 = i then (E.openS (E.front s.data.toList) s.data.toList).map fun p => (E.front s.data.toList, p) else none := by rw [hV]; unfold G.slotV; rw [hl]
  clear hV
  by_cases hz : s.size = 256
  · rw [if_pos hz] at EN
    by_cases h0 : E.front s.data.toList = E.back s.data.toList
    · by_cases h1 : 1 ≤ E.front s.data.toList
      · by_cases h2 : E.front s.data.toList ≤ 1099511627776
        · by_cases h3 : E.front s.data.toList % 2 = i
          · have OP := refOpen_any (E.front s.data.toList) s
            rw [if_pos ⟨hz, h0, h1, h2, h3⟩] at fr
            cases hq : E.openS (E.front s.data.toList) s.data.toList with
            | none =>
              rw [hq] at fr OP
              have FIN := Lib.hid fr
              clear fr hl hq
              rw [← h0] at EN
              clear h0
              generalize E.front s.data.toList = f at *
              have z0 : decide ((f : Int) < 1) = false := decide_eq_false (by omega)
              have z1 : decide ((1099511627776 : Int) < (f : Int)) = false := decide_eq_false (by omega)
              have z2 : (((f : Int) % 2) != (i : Int)) = false := by simp; omega
              have z3 : wrap64 ((f : Int) % 2) = (f : Int) % 2 := by unfold wrap64; omega
              have OP2 := Lib.hid (show ∀ W, Calls Tryd.prog 42 #[.int .u64 f, .string s] W fun e w' => e = .returned (.tuple #[.string ⟨#[]⟩, .bool false]) ∧ Qt W w' from fun W => OP W (by omega))
              clear OP h1 h2 h3
              go_enter Tryd.func26, Tryd.ntmps26
              go_wp2_with fail
              refine EN.mono ?_
              rintro e w1 ⟨rfl, k⟩
              have K := Lib.hid k; clear k EN
              go_wp2_with fail
              refine (OP2.out _).mono ?_
              rintro e w2 ⟨rfl, k⟩
              have K2 := Lib.hid (Qt.trans K.out k); clear k
              go_wp2
              go_ret2
              exact ⟨by rw [FIN.out]; rfl, K2.out⟩
            | some p =>
              rw [hq] at fr OP
              have FIN := Lib.hid fr
              clear fr hl hq
              rw [← h0] at EN
              clear h0
              generalize E.front s.data.toList = f at *
              have z0 : decide ((f : Int) < 1) = false := decide_eq_false (by omega)
              have z1 : decide ((1099511627776 : Int) < (f : Int)) = false := decide_eq_false (by omega)
              have z2 : (((f : Int) % 2) != (i : Int)) = false := by simp; omega
              have z3 : wrap64 ((f : Int) % 2) = (f : Int) % 2 := by unfold wrap64; omega
              have z4 := wrap64_s h2
              have OP2 := Lib.hid (show ∀ W, Calls Tryd.prog 42 #[.int .u64 f, .string s] W fun e w' => e = .returned (.tuple #[.string ⟨p.toArray⟩, .bool true]) ∧ Qt W w' from fun W => OP W (by omega))
              clear OP h1 h2 h3
              go_enter Tryd.func26, Tryd.ntmps26
              go_wp2_with fail
              refine EN.mono ?_
              rintro e w1 ⟨rfl, k⟩
              have K := Lib.hid k; clear k EN
              go_wp2_with fail
              refine (OP2.out _).mono ?_
              rintro e w2 ⟨rfl, k⟩
              have K2 := Lib.hid (Qt.trans K.out k); clear k
              go_wp2
              go_ret2
              refine ⟨?_, K2.out⟩
              rw [FIN.out]
              show Ending.returned (.tuple #[.string ⟨p.toArray⟩, .int .i64 (wrap64 (f : Int))]) = _
              rw [z4]; rfl
          · have FIN := Lib.hid (fr.trans (if_neg (fun k => h3 k.2.2.2.2)))
            clear fr hl
            rw [← h0] at EN
            clear h0
            generalize E.front s.data.toList = f at *
            have z0 : decide ((f : Int) < 1) = false := decide_eq_false (by omega)
            have z1 : decide ((1099511627776 : Int) < (f : Int)) = false := decide_eq_false (by omega)
            have z2 : (((f : Int) % 2) != (i : Int)) = true := by simp; omega
            have z3 : wrap64 ((f : Int) % 2) = (f : Int) % 2 := by unfold wrap64; omega
            clear h1 h2 h3
            go_enter Tryd.func26, Tryd.ntmps26
            go_wp2_with fail
            refine EN.mono ?_
            rintro e w1 ⟨rfl, k⟩
            have K := Lib.hid k; clear k EN
            go_wp2
            go_ret2
            exact ⟨by rw [FIN.out]; rfl, K.out⟩
        · have FIN := Lib.hid (fr.trans (if_neg (fun k => h2 k.2.2.2.1)))
          clear fr hl
          rw [← h0] at EN
          clear h0
          generalize E.front s.data.toList = f at *
          have z0 : decide ((f : Int) < 1) = false := decide_eq_false (by omega)
          have z1 : decide ((1099511627776 : Int) < (f : Int)) = true := decide_eq_true (by omega)
          clear h1 h2
          go_enter Tryd.func26, Tryd.ntmps26
          go_wp2_with fail
          refine EN.mono ?_
          rintro e w1 ⟨rfl, k⟩
          have K := Lib.hid k; clear k EN
          go_wp2
          go_ret2
          exact ⟨by rw [FIN.out]; rfl, K.out⟩
      · have FIN := Lib.hid (fr.trans (if_neg (fun k => h1 k.2.2.1)))
        clear fr hl
        rw [← h0] at EN
        clear h0
        generalize E.front s.data.toList = f at *
        have z0 : decide ((f : Int) < 1) = true := decide_eq_true (by omega)
        clear h1
        go_enter Tryd.func26, Tryd.ntmps26
        go_wp2_with fail
        refine EN.mono ?_
        rintro e w1 ⟨rfl, k⟩
        have K := Lib.hid k; clear k EN
        go_wp2
        go_ret2
        exact ⟨by rw [FIN.out]; rfl, K.out⟩
    · have FIN := Lib.hid (fr.trans (if_neg (fun k => h0 k.2.1)))
      clear fr hl
      generalize E.front s.data.toList = f at *
      generalize E.back s.data.toList = g at *
      have z0 : ((f : Int) != (g : Int)) = true := by rw [bne_iff_ne]; omega
      clear h0
      go_enter Tryd.func26, Tryd.ntmps26
      go_wp2_with fail
      refine EN.mono ?_
      rintro e w1 ⟨rfl, k⟩
      have K := Lib.hid k; clear k EN
      go_wp2
      go_ret2
      exact ⟨by rw [FIN.out]; rfl, K.out⟩
  · rw [if_neg hz] at EN
    have FIN := Lib.hid (fr.trans (if_neg (fun k => hz k.1)))
    clear fr hl
    go_enter Tryd.func26, Tryd.ntmps26
    go_wp2_with fail
    refine EN.mono ?_
    rintro e w1 ⟨rfl, k⟩
    have K := Lib.hid k; clear k EN
    go_wp2
    go_ret2
    exact ⟨by rw [FIN.out]; rfl, K.out⟩
end Go.Proofs.YtnnkibhlildojaaDoor
