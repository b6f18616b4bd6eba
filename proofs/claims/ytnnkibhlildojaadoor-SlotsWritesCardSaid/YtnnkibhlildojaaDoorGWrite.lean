/-
  The contract of slots.Write.
-/
import Derived.Test.YtnnkibhlildojaaDoorGCode
import Derived.Test.YtnnkibhlildojaaDoorDAt
namespace Go.Proofs.YtnnkibhlildojaaDoor
open Go.RowKit Go.WideShapes
set_option maxRecDepth 100000

/-- What Seal, Write and Flush answer, by hypothesis. -/
def SealH (ad : Nat → Addr) (w : World) : Prop := ∀ (st : Nat) (s : ByteArray), st < 18446744073709551616 → ∀ W, Qt w W → Calls Tryd.prog 31 #[.int .u64 st, .string s] W fun e w' => e = .returned (if st = 0 then .tuple #[.string ⟨#[]⟩, errV ad 6] else if 234 < s.size then .tuple #[.string ⟨#[]⟩, errV ad 3] else .tuple #[.string ⟨(E.sct st s.data.toList).toArray⟩, .nilIface]) ∧ Qt W w'
def WriteH (ad : Nat → Addr) (S : Nat → Prop) (w0 : World) (b : Nat) : Prop := ∀ (W : World) (d : DS), Keeps S w0 W → DiskAt W b d S → d.Few → ∀ (i : Int) (s : List UInt8), Calls Tryd.prog 32 #[.pointer (some ⟨b, 0, none⟩), .int .i64 i, .string ⟨s.toArray⟩] W fun e w' => e = .returned (errV ad (d.writeE i s)) ∧ DiskAt w' b (d.writeD i s) S ∧ Keeps S w0 w'
def FlushH (ad : Nat → Addr) (S : Nat → Prop) (w0 : World) (b : Nat) : Prop := ∀ (W : World) (d : DS), Keeps S w0 W → DiskAt W b d S → d.Few → Calls Tryd.prog 33 #[.pointer (some ⟨b, 0, none⟩)] W fun e w' => e = .returned (errV ad d.flushE) ∧ DiskAt w' b d.flushD S ∧ Keeps S w0 w'
theorem DS.Few.write' {d : DS} (i : Int) (s : List UInt8) (h1 : d.ways.length ≤ 1073741823) (h2 : d.wr ≤ 1073741823) (h3 : d.fl ≤ 1073741824) (h4 : d.cr ≤ 1073741824) : (d.writeD i s).Few := by
  unfold DS.writeD
  split
  · exact ⟨by omega, by omega, h3, h4⟩
  · split
    · exact ⟨by omega, by omega, h3, h4⟩
    · split
      · exact ⟨by simp; omega, by simp only; omega, h3, h4⟩
      · exact ⟨by simp; omega, by simp only; omega, h3, h4⟩
structure DS.Fewer (d : DS) : Prop where
  ways : d.ways.length ≤ 1073741823
  wr : d.wr ≤ 1073741823
  fl : d.fl ≤ 1073741823
  cr : d.cr ≤ 1073741823

/-- What a Write leaves. -/
def SlotsP (ad : Nat → Addr) (S : Nat → Prop) (w0 : World) (b : Nat) (n : Nat) (d : DS) (e : Ending) (w' : World) : Prop := e = .returned (errV ad n) ∧ DiskAt w' b d S ∧ Keeps S w0 w'
theorem keeps_qt {S : Nat → Prop} {w0 w w' : World} (h : Keeps S w0 w) (q : Qt w w') : Keeps S w0 w' := Keeps.trans h q (fun _ _ e => e.elim)
theorem since_qt {w0 w w' : World} (h : Since w0.heap.size w0 w) (q : Qt w w') : Since w0.heap.size w0 w' := keeps_qt h q

set_option maxHeartbeats 1600000 in
theorem slotsWrite_h (ad : Nat → Addr) {S : Nat → Prop} {w0 w : World} {b : Nat} {d : DS} (hE : Errs ad w) (hS : Keeps S w0 w) (hSe : SealH ad w) (hW : WriteH ad S w0 b) (hF : FlushH ad S w0 b) (h : DiskAt w b d S) (hf : d.Fewer) (i v : Int) (hv0 : -9223372036854775808 ≤ v) (hv1 : v ≤ 9223372036854775807) (s : ByteArray) :
    Calls Tryd.prog 16 #[.pointer (some ⟨b, 0, none⟩), .int .i64 i, .int .i64 v, .string s] w (SlotsP ad S w0 b (d.slotsE i v s.data.toList) (d.slotsD i v s.data.toList)) := by
  have FT := fits_d h i
  have hl := h.ok.le
  have hz : s.data.toList.length = s.size := by simp
  have e6 : w.cell? ⟨4, 0, none⟩ = some (.iface 104 (.pointer (some (ad 6)))) := hE.cells 5 _ rfl
  by_cases hin : ¬ d.fitS i ∨ v < 1 ∨ 1099511627776 < v
  · have FIN := Lib.hid (show SlotsP ad S w0 b (d.slotsE i v s.data.toList) (d.slotsD i v s.data.toList) (.returned (.iface 104 (.pointer (some (ad 6))))) w from by
      unfold DS.slotsE DS.slotsD
      rw [if_pos hin, if_pos hin]
      exact ⟨rfl, h, hS⟩)
    by_cases hf : d.fitS i
    · rw [decide_eq_true hf] at FT
      by_cases h1 : v < 1
      · have z0 : decide (v < 1) = true := decide_eq_true h1
        clear hin hE hS hSe hW hF h
        go_enter Tryd.func16, Tryd.ntmps16
        go_wp2_with fail
        refine FT.mono ?_
        rintro e w1 ⟨rfl, rfl⟩
        go_wp2
        go_ret
        exact FIN.out
      · have z0 : decide (v < 1) = false := decide_eq_false h1
        have z1 : decide (1099511627776 < v) = true := decide_eq_true (by rcases hin with k | k | k; exact absurd hf k; omega; exact k)
        clear hin hE hS hSe hW hF h
        go_enter Tryd.func16, Tryd.ntmps16
        go_wp2_with fail
        refine FT.mono ?_
        rintro e w1 ⟨rfl, rfl⟩
        go_wp2
        go_ret
        exact FIN.out
    · rw [decide_eq_false hf] at FT
      clear hin hE hS hSe hW hF h
      go_enter Tryd.func16, Tryd.ntmps16
      go_wp2_with fail
      refine FT.mono ?_
      rintro e w1 ⟨rfl, rfl⟩
      go_wp2
      go_ret
      exact FIN.out
  · have hfit : d.fitS i := Decidable.not_not.1 (fun k => hin (.inl k))
    rw [decide_eq_true hfit] at FT
    obtain ⟨n, rfl⟩ := Int.eq_ofNat_of_zero_le (show 0 ≤ v by omega)
    have z0 : decide ((n : Int) < 1) = false := decide_eq_false (by omega)
    have z1 : decide (1099511627776 < (n : Int)) = false := decide_eq_false (by omega)
    have SE := fun W (q : Qt w W) => hSe n s (by omega) W q
    have zc : IntKind.u64.wrap (n : Int) = (n : Int) := by rw [IntKind.wrap_u64]; omega
    have hn0 : n ≠ 0 := by omega
    by_cases hp : 234 < s.size
    · have FIN := Lib.hid (fun W (q : Qt w W) => (show SlotsP ad S w0 b (d.slotsE i n s.data.toList) (d.slotsD i n s.data.toList) (.returned (.iface 104 (.pointer (some (ad 3))))) W from by
        unfold DS.slotsE DS.slotsD
        rw [if_neg hin, if_neg hin, if_pos (by omega), if_pos (by omega)]
        exact ⟨rfl, DiskAt.qt h q, keeps_qt hS q⟩))
      rw [if_neg hn0, if_pos hp, errV_pos ad (by omega)] at SE
      have S1 := Lib.hid SE
      clear hin hE hS hSe hW hF h SE
      go_enter Tryd.func16, Tryd.ntmps16
      go_wp2_with fail
      refine FT.mono ?_
      rintro e w1 ⟨rfl, rfl⟩
      go_wp2_with fail
      refine (S1.out _ (Qt.refl _)).mono ?_
      rintro e w2 ⟨rfl, q⟩
      have K := Lib.hid q; clear q
      go_wp2
      go_ret
      exact FIN.out _ K.out
    · rw [if_neg hn0, if_neg hp] at SE
      have S1 := Lib.hid SE
      have WR := Lib.hid (fun W (q : Qt w W) => hW W d (keeps_qt hS q) (DiskAt.qt h q) ⟨by have := hf.ways; omega, by have := hf.wr; omega, by have := hf.fl; omega, by have := hf.cr; omega⟩ (i + (n : Int) % 2) (E.sct n s.data.toList))
      have hi0 := hfit.1
      have hi1 := hfit.2
      have zm : wrap64 (i + (n : Int) % 2) = i + (n : Int) % 2 := by unfold wrap64; omega
      have FEW := Lib.hid (DS.Few.write' (d := d) (i + (n : Int) % 2) (E.sct n s.data.toList) hf.ways hf.wr (by have := hf.fl; omega) (by have := hf.cr; omega))
      by_cases he : d.writeE (i + (n : Int) % 2) (E.sct n s.data.toList) = 0
      · have FIN := Lib.hid (fun (W : World) (h : DiskAt W b (d.writeD (i + (n : Int) % 2) (E.sct n s.data.toList)).flushD S ∧ Keeps S w0 W) => (show SlotsP ad S w0 b (d.slotsE i n s.data.toList) (d.slotsD i n s.data.toList) (.returned (errV ad (d.writeD (i + (n : Int) % 2) (E.sct n s.data.toList)).flushE)) W from by
          unfold DS.slotsE DS.slotsD
          simp only [Int.toNat_natCast]
          rw [if_neg hin, if_neg hin, if_neg (show ¬ 234 < s.data.toList.length by omega), if_neg (show ¬ 234 < s.data.toList.length by omega), if_neg (fun k => k he), if_neg (fun k => k he)]
          exact ⟨rfl, h⟩))
        have HFL := Lib.hid (fun W (a : DiskAt W b (d.writeD (i + (n : Int) % 2) (E.sct n s.data.toList)) S) (q : Keeps S w0 W) => hF W _ q a FEW.out)
        rw [he, errV_zero] at WR
        clear hin hE hS hSe hW hF h SE he hi0 hi1 hf
        generalize E.sct n s.data.toList = Z at *
        go_enter Tryd.func16, Tryd.ntmps16
        go_wp2_with fail
        refine FT.mono ?_
        rintro e w1 ⟨rfl, rfl⟩
        go_wp2_with fail
        refine (S1.out _ (Qt.refl _)).mono ?_
        rintro e w2 ⟨rfl, q⟩
        have K := Lib.hid q; clear q
        go_wp2_with fail
        refine (WR.out _ K.out).mono ?_
        rintro e w3 ⟨rfl, o3, s3⟩
        have F3 := HFL.out _ o3 s3
        clear o3 s3
        go_wp2_with fail
        refine F3.mono ?_
        rintro e w4 ⟨rfl, o4, s4⟩
        have O4 := Lib.hid (FIN.out _ ⟨o4, s4⟩)
        clear o4 s4
        go_wp2
        go_ret
        exact O4.out
      · have FIN := Lib.hid (fun (W : World) (h : DiskAt W b (d.writeD (i + (n : Int) % 2) (E.sct n s.data.toList)) S ∧ Keeps S w0 W) => (show SlotsP ad S w0 b (d.slotsE i n s.data.toList) (d.slotsD i n s.data.toList) (.returned (.iface 104 (.pointer (some (ad (d.writeE (i + (n : Int) % 2) (E.sct n s.data.toList))))))) W from by
          unfold DS.slotsE DS.slotsD
          simp only [Int.toNat_natCast]
          rw [if_neg hin, if_neg hin, if_neg (show ¬ 234 < s.data.toList.length by omega), if_neg (show ¬ 234 < s.data.toList.length by omega), if_pos he, if_pos he]
          exact ⟨congrArg Ending.returned (errV_pos ad (Nat.pos_of_ne_zero he)).symm, h⟩))
        rw [errV_pos ad (Nat.pos_of_ne_zero he)] at WR
        clear hin hE hS hSe hW hF h SE hi0 hi1 hf
        generalize E.sct n s.data.toList = Z at *
        go_enter Tryd.func16, Tryd.ntmps16
        go_wp2_with fail
        refine FT.mono ?_
        rintro e w1 ⟨rfl, rfl⟩
        go_wp2_with fail
        refine (S1.out _ (Qt.refl _)).mono ?_
        rintro e w2 ⟨rfl, q⟩
        have K := Lib.hid q; clear q
        go_wp2_with fail
        refine (WR.out _ K.out).mono ?_
        rintro e w3 ⟨rfl, o3, s3⟩
        have O4 := Lib.hid (FIN.out _ ⟨o3, s3⟩)
        clear o3 s3
        go_wp2
        go_ret
        exact O4.out
end Go.Proofs.YtnnkibhlildojaaDoor
