/-
  The contract of remitref08.Write.
  SlotsWrites, plain: the three ways of a Write over a disk of an image.
  The contract of remitlaw08.SlotsWrites: it answers true.
-/
import Derived.Test.YtnnkibhlildojaaDoorGRefR
import Derived.BigQuiet
import Derived.Test.YtnnkibhlildojaaDoorGImage
import Derived.Test.YtnnkibhlildojaaDoorGWrite
import Derived.Test.YtnnkibhlildojaaDoorGReads
namespace Go.Proofs.YtnnkibhlildojaaDoor
open Go.RowKit Go.WideShapes
set_option maxRecDepth 100000

theorem sliceTo (s : ByteArray) (m : Nat) (hm : m ≤ s.size) (wx : World) : (Instr.slice 9 (.string s) none (some (.int .i64 (m : Int))) none).run Tryd.prog wx = .ok (.string (s.extract 0 m)) wx := by
  have := run_slice_string_h (P := Tryd.prog) wx 9 s Tryd.underlying9 .i64 (m : Int) (by omega) (by omega)
  rw [this, Int.toNat_natCast]
theorem sliceFrom (s : ByteArray) (m : Nat) (hm : m + 256 ≤ s.size) (wx : World) : (Instr.slice 9 (.string s) (some (.int .i64 ((m : Int) + 256))) none none).run Tryd.prog wx = .ok (.string (s.extract (m + 256) s.size)) wx := by
  have := run_slice_string_l (P := Tryd.prog) wx 9 s Tryd.underlying9 .i64 ((m : Int) + 256) (by omega) (by omega)
  rw [this, show ((m : Int) + 256).toNat = m + 256 by omega]

theorem lt40 {m : Nat} (h : m + 256 ≤ 32768) : (m : Int) + 256 < 40000 := by omega
/-- What Write answers over an image. -/
def writeT (r : List UInt8 × Nat) : Value := .tuple #[.string ⟨r.1.toArray⟩, .int .i64 r.2]

set_option maxHeartbeats 1600000 in
theorem writeRef_any (s : ByteArray) (n : Nat) (hz : s.size = n * 256) (hn : n ≤ 128) (i v : Int) (hv0 : -9223372036854775808 ≤ v) (hv1 : v ≤ 9223372036854775807) (t : ByteArray) (w : World) :
    Calls Tryd.prog 17 #[.string s, .int .i64 i, .int .i64 v, .string t] w fun e w' => e = .returned (writeT (writeI s.data.toList i v t.data.toList)) ∧ Qt w w' := by
  have hl : s.data.toList.length = s.size := by simp
  have ht : t.data.toList.length = t.size := by simp
  have hq : s.data.toList.length / 256 = n := by rw [hl, hz]; exact Nat.mul_div_cancel _ (by decide)
  have g2 : (s.size : Int) / 256 = (n : Int) := by rw [hz]; omega
  have hs : s = ⟨s.data.toList.toArray⟩ := of_list rfl
  by_cases hin : ¬ (0 ≤ i ∧ i + 2 ≤ (n : Int)) ∨ v < 1 ∨ 1099511627776 < v
  · have FIN := Lib.hid (show writeT (writeI s.data.toList i v t.data.toList) = .tuple #[.string s, .int .i64 6] by unfold writeI; rw [hq, if_pos hin]; unfold writeT; rw [← hs]; rfl)
    clear hl ht hq hz hs
    by_cases h0 : 0 ≤ i
    · have z0 : decide (i < 0) = false := decide_eq_false (by omega)
      by_cases h1 : i ≤ (n : Int) - 2
      · have z1 : decide ((n : Int) - 2 < i) = false := decide_eq_false (by omega)
        by_cases h2 : v < 1
        · have z2 : decide (v < 1) = true := decide_eq_true h2
          clear hin
          go_enter Tryd.func17, Tryd.ntmps17
          go_wp2
          go_ret2
          exact ⟨by rw [FIN.out]; rfl, Qt.refl _⟩
        · have z2 : decide (v < 1) = false := decide_eq_false h2
          have z3 : decide (1099511627776 < v) = true := decide_eq_true (by omega)
          clear hin
          go_enter Tryd.func17, Tryd.ntmps17
          go_wp2
          go_ret2
          exact ⟨by rw [FIN.out]; rfl, Qt.refl _⟩
      · have z1 : decide ((n : Int) - 2 < i) = true := decide_eq_true (by omega)
        clear hin
        go_enter Tryd.func17, Tryd.ntmps17
        go_wp2
        go_ret2
        exact ⟨by rw [FIN.out]; rfl, Qt.refl _⟩
    · have z0 : decide (i < 0) = true := decide_eq_true (by omega)
      clear hin
      go_enter Tryd.func17, Tryd.ntmps17
      go_wp2
      go_ret2
      exact ⟨by rw [FIN.out]; rfl, Qt.refl _⟩
  · have h0 : 0 ≤ i ∧ i + 2 ≤ (n : Int) := Decidable.not_not.1 (fun k => hin (.inl k))
    obtain ⟨i, rfl⟩ := Int.eq_ofNat_of_zero_le h0.1
    obtain ⟨v, rfl⟩ := Int.eq_ofNat_of_zero_le (show 0 ≤ v by omega)
    have z0 : decide ((i : Int) < 0) = false := decide_eq_false (by omega)
    have z1 : decide ((n : Int) - 2 < (i : Int)) = false := decide_eq_false (by omega)
    have z2 : decide ((v : Int) < 1) = false := decide_eq_false (by omega)
    have z3 : decide (1099511627776 < (v : Int)) = false := decide_eq_false (by omega)
    by_cases hp : 234 < t.size
    · have FIN := Lib.hid (show writeT (writeI s.data.toList i v t.data.toList) = .tuple #[.string s, .int .i64 3] by unfold writeI; rw [hq, if_neg hin, if_pos (by omega)]; unfold writeT; rw [← hs]; rfl)
      have z4 : decide ((234 : Int) < (t.size : Int)) = true := decide_eq_true (by omega)
      clear hl ht hq hz hs hin hp h0
      go_enter Tryd.func17, Tryd.ntmps17
      go_wp2
      go_ret2
      exact ⟨by rw [FIN.out]; rfl, Qt.refl _⟩
    · obtain ⟨m, hm⟩ : ∃ m, (i + v % 2) * 256 = m := ⟨_, rfl⟩
      have hmz : m + 256 ≤ s.size := by rw [hz, ← hm]; have : (i + v % 2 + 1) * 256 ≤ n * 256 := Nat.mul_le_mul_right _ (by omega); omega
      have SA := sliceTo s m (by omega)
      have SB := sliceFrom s m hmz
      have SE := refSeal_any v t
      rw [show E.sealR v t.data.toList = (E.sct v t.data.toList, 0) by unfold E.sealR; rw [if_neg (by omega), if_neg (by omega)]] at SE
      obtain ⟨S, hS⟩ : ∃ S : ByteArray, S = ⟨(E.sct v t.data.toList).toArray⟩ := ⟨_, rfl⟩
      have hSl : S.data.toList = E.sct v t.data.toList := by rw [hS]
      have hSz : S.size = 256 := by rw [← dlen7, hSl, E.sct_length v (by omega)]
      have S1 := Lib.hid (show ∀ W, Calls Tryd.prog 34 #[.int .u64 v, .string t] W fun e w' => e = .returned (.tuple #[.string S, .int .i64 0]) ∧ Qt W w' from fun W => by rw [hS]; exact SE W (by omega))
      have FIN := Lib.hid (show writeT (writeI s.data.toList i v t.data.toList) = .tuple #[.string (s.extract 0 m ++ S ++ s.extract (m + 256) s.size), .int .i64 0] by
        unfold writeI
        rw [hq, if_neg hin, if_neg (by omega)]
        unfold writeT
        simp only [Int.toNat_natCast, hm]
        refine congrArg (fun x => Value.tuple #[.string x, .int .i64 0]) (of_list ?_).symm
        rw [ByteArray.data_append, Array.toList_append, ByteArray.data_append, Array.toList_append, dslice, dslice, hSl]
        rw [show s.size - (m + 256) = (s.data.toList.drop (m + 256)).length by rw [List.length_drop, hl], List.take_length]
        rfl)
      have hA : (s.extract 0 m).size = m := by simp; omega
      have hB : (s.extract (m + 256) s.size).size = s.size - (m + 256) := by simp
      generalize s.extract 0 m = A at *
      generalize s.extract (m + 256) s.size = B at *
      have a1 : ¬ (9223372036854775807 < A.size + S.size) := by omega
      have a2 : ¬ (9223372036854775807 < (A ++ S).size + B.size) := by rw [ByteArray.size_append]; omega
      have z4 : decide ((234 : Int) < (t.size : Int)) = false := decide_eq_false (by omega)
      have wi : wrap64 ((i : Int) + (v : Int) % 2) = (i : Int) + (v : Int) % 2 := by unfold wrap64; omega
      have hmi : ((i : Int) + (v : Int) % 2) * 256 = (m : Int) := by rw [← hm]; push_cast; rfl
      have hmb : (m : Int) + 256 < 40000 := lt40 (Nat.le_trans hmz (by rw [hz]; exact Nat.mul_le_mul_right 256 hn))
      have wc : IntKind.u64.wrap (v : Int) = (v : Int) := by rw [IntKind.wrap_u64]; omega
      clear hl ht hq hz hs hin hp h0 SE hS hSl hm hmz hA hB
      go_enter Tryd.func17, Tryd.ntmps17
      go_wp2_with fail
      refine (S1.out _).mono ?_
      rintro e w3 ⟨rfl, q⟩
      have K3 := Lib.hid q; clear q
      go_wp2
      go_quiet (fail)
      go_wp2
      go_ret2
      exact ⟨by rw [FIN.out]; rfl, K3.out.drewN _⟩
end Go.Proofs.YtnnkibhlildojaaDoor
namespace Go.Proofs.YtnnkibhlildojaaDoor
set_option maxRecDepth 100000

def fateOne : FT := ⟨[true], -1, 0⟩
theorem fateOne_done : fateOne.done 0 = 256 := by decide

section
variable {l : List UInt8} {n : Nat} {i v : Int} {p : List UInt8} {arm : Int}

theorem writeI_in (h : l.length = n * 256) (hw : (writeI l i v p).2 = 0) : ∃ a c : Nat, i = a ∧ v = c ∧ a + 2 ≤ n ∧ 1 ≤ c ∧ c ≤ 1099511627776 ∧ p.length ≤ 234 ∧ (writeI l i v p).1 = l.take ((a + c % 2) * 256) ++ E.sct c p ++ l.drop ((a + c % 2) * 256 + 256) := by
  have hn : l.length / 256 = n := by rw [h]; exact Nat.mul_div_cancel _ (by decide)
  by_cases h1 : ¬ (0 ≤ i ∧ i + 2 ≤ (n : Int)) ∨ v < 1 ∨ 1099511627776 < v
  · unfold writeI at hw
    rw [hn, if_pos h1] at hw
    cases hw
  · have h2 : 0 ≤ i ∧ i + 2 ≤ (n : Int) := Decidable.not_not.1 (fun k => h1 (.inl k))
    obtain ⟨a, rfl⟩ := Int.eq_ofNat_of_zero_le h2.1
    obtain ⟨c, rfl⟩ := Int.eq_ofNat_of_zero_le (show 0 ≤ v by omega)
    by_cases h3 : 234 < p.length
    · unfold writeI at hw
      rw [hn, if_neg h1, if_pos h3] at hw
      cases hw
    · refine ⟨a, c, rfl, rfl, by omega, by omega, by omega, by omega, ?_⟩
      unfold writeI
      rw [hn, if_neg h1, if_neg h3]
      simp only [Int.toNat_natCast]
/-- Refused. -/
theorem writes_no (h : l.length = n * 256) (hw : (writeI l i v p).2 ≠ 0) :
    ((writeI l i v p).2 = 6 ∨ (writeI l i v p).2 = 3) ∧ ((DS.fromD l n).armD arm).slotsE i v p = (writeI l i v p).2 ∧ ((DS.fromD l n).armD arm).slotsD i v p = (DS.fromD l n).armD arm := by
  have hn : l.length / 256 = n := by rw [h]; exact Nat.mul_div_cancel _ (by decide)
  have hlen : ((DS.fromD l n).armD arm).dur.length = n := fromD_size l n
  have hfe : ((DS.fromD l n).armD arm).fitS i ↔ (0 ≤ i ∧ i + 2 ≤ (n : Int)) := by unfold DS.fitS; rw [hlen]
  unfold writeI at hw ⊢
  unfold DS.slotsE DS.slotsD
  rw [hn] at hw ⊢
  by_cases h1 : ¬ (0 ≤ i ∧ i + 2 ≤ (n : Int)) ∨ v < 1 ∨ 1099511627776 < v
  · have h2 : ¬ ((DS.fromD l n).armD arm).fitS i ∨ v < 1 ∨ 1099511627776 < v := by rw [hfe]; exact h1
    rw [if_pos h1, if_pos h2, if_pos h2]
    exact ⟨.inl rfl, rfl, rfl⟩
  · have h2 : ¬ (¬ ((DS.fromD l n).armD arm).fitS i ∨ v < 1 ∨ 1099511627776 < v) := by rw [hfe]; exact h1
    rw [if_neg h1] at hw ⊢
    by_cases h3 : 234 < p.length
    · rw [if_pos h3, if_neg h2, if_neg h2, if_pos h3, if_pos h3]
      exact ⟨.inr rfl, rfl, rfl⟩
    · rw [if_neg h3] at hw
      exact absurd rfl hw

/-- The power stays on. -/
theorem writes_on (h : l.length = n * 256) (hw : (writeI l i v p).2 = 0) (h0 : arm ≠ 0) (h1 : arm ≠ 1) :
    ∃ d, ((DS.fromD l n).armD arm).slotsE i v p = 0 ∧ ((DS.fromD l n).armD arm).slotsD i v p = d ∧ d.off = false ∧ d.ways.length = 0 ∧ d.wr = 1 ∧ d.fl = 1 ∧ d.image = (writeI l i v p).1 := by
  obtain ⟨a, c, rfl, rfl, ha, hc1, hc2, hp, hw1⟩ := writeI_in h hw
  have hC : ((DS.fromD l n).armD arm).Calm := ⟨rfl, rfl⟩
  have hlen : ((DS.fromD l n).armD arm).dur.length = n := fromD_size l n
  have k0 : ((DS.fromD l n).armD arm).armed ≠ 0 := by show max arm (-1) ≠ 0; omega
  have k1 : ((DS.fromD l n).armD arm).armed ≠ 1 := by show max arm (-1) ≠ 1; omega
  obtain ⟨e1, e2⟩ := hC.slots2 (i := a) (v := c) (p := p) (by rw [hlen]; exact ha) hc1 hc2 hp k0 k1
  refine ⟨_, e1, e2, rfl, rfl, rfl, rfl, ?_⟩
  rw [hw1]
  have hf := flat_set (D := cuts l n) (cuts_each h) (E.sct c p) (i := a + c % 2) (by rw [cuts_length]; omega)
  rw [cuts_flat n h] at hf
  exact hf
/-- The power goes. -/
theorem writes_off (h : l.length = n * 256) (hw : (writeI l i v p).2 = 0) (h0 : arm = 0 ∨ arm = 1) :
    ∃ d, ((DS.fromD l n).armD arm).slotsE i v p = 12 ∧ ((DS.fromD l n).armD arm).slotsD i v p = d ∧ d.off = true ∧ d.ways.length = 1 ∧ (d.wr : Int) = arm ∧ d.fl = 0 ∧ d.image = l ∧ d.cr = 0 ∧ d.wr ≤ 1 ∧ d.slotsR i = ([], 0, 12) ∧ d.slotsE i v p = 12 ∧ d.slotsD i v p = d ∧ (d.crashD fateOne).image = (writeI l i v p).1 := by
  obtain ⟨a, c, rfl, rfl, ha, hc1, hc2, hp, hw1⟩ := writeI_in h hw
  have hC : ((DS.fromD l n).armD arm).Calm := ⟨rfl, rfl⟩
  have hlen : ((DS.fromD l n).armD arm).dur.length = n := fromD_size l n
  have hcommon : ∀ d : DS, d.dur = cuts l n → d.ways = [(a + c % 2, E.sct c p)] → d.off = true → d.slotsR a = ([], 0, 12) ∧ d.slotsE a c p = 12 ∧ d.slotsD a c p = d ∧ d.image = l ∧ (d.crashD fateOne).image = (writeI l a c p).1 := by
    intro d hd hwy ho
    have hl : d.dur.length = n := by rw [hd, cuts_length]
    have hfit : d.fitS a := ⟨by omega, by omega⟩
    have hr : ∀ j, d.reach j = 12 := fun j => by unfold DS.reach; rw [if_pos ho]
    have hin := DS.slots_in (d := d) (i := a) (v := c) (by omega) hc1 hc2
    have hwe : d.writeE ((a : Int) + (c : Int) % 2) (E.sct c p) = 12 := by unfold DS.writeE; rw [hr, if_pos (by decide)]
    have hwd : d.writeD ((a : Int) + (c : Int) % 2) (E.sct c p) = d := by unfold DS.writeD; rw [hr, if_pos (by decide)]
    refine ⟨?_, ?_, ?_, ?_, ?_⟩
    · unfold DS.slotsR; rw [if_neg (fun k => k hfit), if_pos ho]
    · unfold DS.slotsE
      simp only [Int.toNat_natCast]
      rw [if_neg hin, if_neg (by omega), hwe, if_pos (by decide)]
    · unfold DS.slotsD
      simp only [Int.toNat_natCast]
      rw [if_neg hin, if_neg (by omega), hwe, if_pos (by decide), hwd]
    · unfold DS.image; rw [hd]; exact cuts_flat n h
    · rw [hw1]
      unfold DS.crashD DS.image
      simp only [hwy, hd, List.length_singleton]
      have hx : crashTo fateOne (cuts l n) [(a + c % 2, E.sct c p)] 1 = (cuts l n).set (a + c % 2) (tornBy ((cuts l n).getD (a + c % 2) []) (E.sct c p) 256) := by
        show (crashTo fateOne (cuts l n) [(a + c % 2, E.sct c p)] 0).set _ _ = _
        rw [fateOne_done]
        rfl
      rw [hx, tornBy_all (getD_length (cuts_each h) (by rw [cuts_length]; omega)) (E.sct_length c hp)]
      have hf := flat_set (D := cuts l n) (cuts_each h) (E.sct c p) (i := a + c % 2) (by rw [cuts_length]; omega)
      rw [cuts_flat n h] at hf
      exact hf
  rcases h0 with rfl | rfl
  · obtain ⟨e1, e2⟩ := hC.slots0 (i := a) (v := c) (p := p) (by rw [hlen]; exact ha) hc1 hc2 hp rfl
    obtain ⟨r1, r2, r3, r4, r5⟩ := hcommon { (DS.fromD l n).armD 0 with ways := [(a + c % 2, E.sct c p)], off := true } rfl rfl rfl
    exact ⟨_, e1, e2, rfl, rfl, rfl, rfl, r4, rfl, Nat.zero_le 1, r1, r2, r3, r5⟩
  · obtain ⟨e1, e2⟩ := hC.slots1 (i := a) (v := c) (p := p) (by rw [hlen]; exact ha) hc1 hc2 hp rfl
    obtain ⟨r1, r2, r3, r4, r5⟩ := hcommon { (DS.fromD l n).armD 1 with ways := [(a + c % 2, E.sct c p)], armed := 0, off := true, wr := ((DS.fromD l n).armD 1).wr + 1 } rfl rfl rfl
    exact ⟨_, e1, e2, rfl, rfl, rfl, rfl, r4, rfl, Nat.le_refl 1, r1, r2, r3, r5⟩
end
end Go.Proofs.YtnnkibhlildojaaDoor
namespace Go.Proofs.YtnnkibhlildojaaDoor
open Go.RowKit Go.WideShapes
set_option maxRecDepth 100000

section
variable {ad : Nat → Addr} {w0 w : World} {b : Nat} {d : DS}
/-- A crash by a fate of the call's own. -/
theorem own_crash2 (B1 : Nat) (hS : Since w0.heap.size w0 w) (h : DiskAt w b d (fun k => w0.heap.size ≤ k ∧ k < B1)) (hf : d.Few) (v : Value) (f : FT) (hv : Bools w v f.kept) (hb : ∀ a n c, v = .slice (some a) n c → n ≠ 0 → B1 ≤ a.block) :
    Calls Tryd.prog 20 #[.pointer (some ⟨b, 0, none⟩), fateV v f] w fun e w' => e = .returned (.tuple #[]) ∧ Own w0.heap.size w' b (d.crashD f) ∧ Since w0.heap.size w0 w' := by
  refine (crash_any w b d _ h hf v f hv (fun a n c e n0 k => by have := hb a n c e n0; have := k.2; omega)).mono ?_
  rintro e w' ⟨he, hD, hK⟩
  exact ⟨he, Own.grow hS.size (fun _ h => h.1) hD, hS.step hK (fun _ h => h.1)⟩
theorem Own.lt {B : Nat} (h : Own B w b d) : DiskAt w b d (fun k => B ≤ k ∧ k < w.heap.size) := by
  obtain ⟨gd, mb, uv, P, hS⟩ := h
  exact ⟨gd, mb, uv, P, fun k hk => ⟨hS k hk, P.lt k hk⟩⟩
/-- The new row of one true. -/
theorem bools_one (W W' : World) (q : Qt (W.alloc (.cells #[.bool true] 4)) W') : Bools W' (.slice (some ⟨W.heap.size, 0, none⟩) 1 1) [true] := by
  refine ⟨some ⟨W.heap.size, 0, none⟩, 1, rfl, fun k x hx => ?_⟩
  have hk : k = 0 := by have := (List.getElem?_eq_some_iff.1 hx).1; simp at this; omega
  subst hk
  have hxx : x = true := by simpa using hx.symm
  subst hxx
  refine ⟨W.heap.size, 0, rfl, q.cellv ?_⟩
  rw [Lib.cell_of_heap (heap_alloc_new W _)]
  rfl
end

set_option maxHeartbeats 3200000 in
theorem writes8_no (ad : Nat → Addr) (s t : ByteArray) (i v arm : Int) (n k : Nat) (w : World) (hE : Errs ad w) (hT : Tab w) (hz : s.size = n * 256) (h1 : 1 ≤ n) (h2 : n ≤ 128) (ht : t.size ≤ 65536) (hv0 : -9223372036854775808 ≤ v) (hv1 : v ≤ 9223372036854775807) (ha : arm ≤ 9223372036854775807) (hk : (writeI s.data.toList i v t.data.toList).2 = k) (hk0 : k ≠ 0) :
    Calls Tryd.prog 4 #[.string s, .int .i64 i, .int .i64 v, .string t, .int .i64 arm] w fun e w' => e = .returned (.bool true) ∧ Qt w w' := by
  have HE := Lib.hid hE
  have HT := Lib.hid hT
  have LV := lives8_any ad w hE hT
  have FI := fit_any s
  rw [decide_eq_true ⟨by omega, by omega, by omega⟩] at FI
  have hl : s.data.toList.length = n * 256 := by rw [dlen7]; exact hz
  have FR := Lib.hid (fun W (q : Since w.heap.size w W) => own_from HE.out q s n hz h1 (by omega))
  have RR := Lib.hid (fun W => writeRef_any s n hz h2 i v hv0 hv1 t W)
  obtain ⟨hkk, hse, hsd⟩ := writes_no (i := i) (v := v) (p := t.data.toList) (arm := arm) hl (by rw [hk]; exact hk0)
  have WR := fun W (q : Since w.heap.size w W) (b : Nat) (h : Own w.heap.size W b ((DS.fromD s.data.toList n).armD arm)) => own_slotsWrite HE.out HT.out q h (fewer_of (a := 0) (b := 0) rfl rfl rfl rfl (by decide) (by decide)) i v hv0 hv1 t
  have hrw : (writeI s.data.toList i v t.data.toList).2 = k := hk
  rw [hse, hsd, hk, errV_pos ad (by omega)] at WR
  have WR2 := Lib.hid WR
  have AR := Lib.hid (fun W (q : Since w.heap.size w W) (b : Nat) (h : Own w.heap.size W b (DS.fromD s.data.toList n)) => own_arm q h arm ha)
  have IM : (⟨((DS.fromD s.data.toList n).armD arm).image.toArray⟩ : ByteArray) = s := (of_list (fromD_image hl).symm).symm
  have D1 : ((DS.fromD s.data.toList n).armD arm).off = false := rfl
  have D2 : ((DS.fromD s.data.toList n).armD arm).ways.length = 0 := rfl
  have D3 : ((DS.fromD s.data.toList n).armD arm).wr = 0 := rfl
  have D4 : ((DS.fromD s.data.toList n).armD arm).fl = 0 := rfl
  rw [show writeI s.data.toList i v t.data.toList = ((writeI s.data.toList i v t.data.toList).1, k) from by rw [← hk]] at RR
  unfold writeT at RR
  generalize (writeI s.data.toList i v t.data.toList).1 = X at *
  have FI2 := Lib.hid FI
  generalize (DS.fromD s.data.toList n).armD arm = d1 at *
  generalize DS.fromD s.data.toList n = d at *
  have hk37 : k ≤ 37 := by omega
  have NU := fun W (q : Since w.heap.size w W) (b : Nat) (h : Own w.heap.size W b d1) => own_num HE.out q h k hk37
  rw [errV_pos ad (by omega)] at NU
  have NU2 := Lib.hid NU
  have I1 := Lib.hid IM
  have O1 := Lib.hid D1
  have P1 := Lib.hid D2
  have C1 := Lib.hid D3
  have C2 := Lib.hid D4
  have zt : decide ((65536 : Int) < (t.size : Int)) = false := decide_eq_false (by omega)
  have zk : ((k : Int) != 0) = true := by rw [bne_iff_ne]; omega
  have zk2 : ((k : Int) == 0) = false := by rw [beq_eq_false_iff_ne]; omega
  clear FI hl hz hE hT hrw hk hkk hse hsd WR IM D1 D2 D3 D4 h1 h2 ht NU hk37 hk0
  go_enter Tryd.func4, Tryd.ntmps4
  go_wp2_with fail
  refine LV.mono ?_
  rintro e w1 ⟨rfl, q1⟩
  have K1 := Lib.hid (Qt.since (B := w.heap.size) q1)
  clear q1 LV
  go_wp2_with fail
  refine (FI2.out w1).mono ?_
  rintro e w2 ⟨rfl, rfl⟩
  go_wp2_with fail
  refine (FR.out _ K1.out).mono ?_
  rintro e w3 ⟨b, rfl, h3, S3⟩
  have H3 := Lib.hid h3
  have K3 := Lib.hid S3
  clear h3 S3
  go_wp2_with fail
  refine (AR.out _ K3.out b H3.out).mono ?_
  rintro e w4 ⟨rfl, h4, S4⟩
  have H4 := Lib.hid h4
  have K4 := Lib.hid S4
  clear h4 S4
  go_wp2_with fail
  refine (WR2.out _ K4.out b H4.out).mono ?_
  rintro e w5 ⟨rfl, h5, S5⟩
  have H5 := Lib.hid h5
  have K5 := Lib.hid S5
  clear h5 S5
  go_wp2_with fail
  refine (RR.out _).mono ?_
  rintro e w6 ⟨rfl, q6⟩
  have H6 := Lib.hid (H5.out.qt q6)
  have K6 := Lib.hid (since_qt K5.out q6)
  clear q6
  go_wp2_with fail
  refine (counts_any H6.out).mono ?_
  rintro e w7 ⟨rfl, q7⟩
  have H7 := Lib.hid (H6.out.qt q7)
  have K7 := Lib.hid (since_qt K6.out q7)
  clear q7
  rw [C1.out, C2.out]
  go_wp2_with fail
  refine (NU2.out _ K7.out b H7.out).mono ?_
  rintro e w8 ⟨rfl, h8, S8, _⟩
  have H8 := Lib.hid h8
  have K8 := Lib.hid S8
  clear h8 S8
  go_wp2_with fail
  refine (off_any H8.out).mono ?_
  rintro e w9 ⟨rfl, rfl⟩
  rw [O1.out]
  go_wp2_with fail
  refine (pending_any H8.out).mono ?_
  rintro e w10 ⟨rfl, rfl⟩
  rw [P1.out]
  go_wp2_with fail
  refine (own_image K8.out H8.out).mono ?_
  rw [I1.out]
  rintro e w11 ⟨rfl, h11, S11, _⟩
  have K11 := Lib.hid S11
  clear h11 S11
  go_wp2
  go_ret
  exact ⟨rfl, K11.out.qt⟩

set_option maxHeartbeats 3200000 in
theorem writes8_on (ad : Nat → Addr) (s t : ByteArray) (i v arm : Int) (n : Nat) (w : World) (hE : Errs ad w) (hT : Tab w) (hz : s.size = n * 256) (h1 : 1 ≤ n) (h2 : n ≤ 128) (ht : t.size ≤ 65536) (hv0 : -9223372036854775808 ≤ v) (hv1 : v ≤ 9223372036854775807) (ha : arm ≤ 9223372036854775807) (hk : (writeI s.data.toList i v t.data.toList).2 = 0) (a0 : arm ≠ 0) (a1 : arm ≠ 1) :
    Calls Tryd.prog 4 #[.string s, .int .i64 i, .int .i64 v, .string t, .int .i64 arm] w fun e w' => e = .returned (.bool true) ∧ Qt w w' := by
  have HE := Lib.hid hE
  have HT := Lib.hid hT
  have LV := lives8_any ad w hE hT
  have FI := fit_any s
  rw [decide_eq_true ⟨by omega, by omega, by omega⟩] at FI
  have hl : s.data.toList.length = n * 256 := by rw [dlen7]; exact hz
  have FR := Lib.hid (fun W (q : Since w.heap.size w W) => own_from HE.out q s n hz h1 (by omega))
  have RR := Lib.hid (fun W => writeRef_any s n hz h2 i v hv0 hv1 t W)
  obtain ⟨d2, hse, hsd, D1, D2, D3, D4, D5⟩ := writes_on (i := i) (v := v) (p := t.data.toList) (arm := arm) hl hk a0 a1
  have WR := fun W (q : Since w.heap.size w W) (b : Nat) (h : Own w.heap.size W b ((DS.fromD s.data.toList n).armD arm)) => own_slotsWrite HE.out HT.out q h (fewer_of (a := 0) (b := 0) rfl rfl rfl rfl (by decide) (by decide)) i v hv0 hv1 t
  rw [hse, hsd, errV_zero] at WR
  have WR2 := Lib.hid WR
  have AR := Lib.hid (fun W (q : Since w.heap.size w W) (b : Nat) (h : Own w.heap.size W b (DS.fromD s.data.toList n)) => own_arm q h arm ha)
  rw [show writeI s.data.toList i v t.data.toList = ((writeI s.data.toList i v t.data.toList).1, 0) from by rw [← hk]] at RR
  unfold writeT at RR
  simp only at RR
  have IM : (⟨d2.image.toArray⟩ : ByteArray) = ⟨(writeI s.data.toList i v t.data.toList).1.toArray⟩ := by rw [D5]
  have FI2 := Lib.hid FI
  generalize (⟨(writeI s.data.toList i v t.data.toList).1.toArray⟩ : ByteArray) = X at *
  generalize (DS.fromD s.data.toList n).armD arm = d1 at *
  generalize DS.fromD s.data.toList n = d at *
  have I1 := Lib.hid IM
  have O1 := Lib.hid D1
  have P1 := Lib.hid D2
  have C1 := Lib.hid D3
  have C2 := Lib.hid D4
  have zt : decide ((65536 : Int) < (t.size : Int)) = false := decide_eq_false (by omega)
  have za0 : (arm == 0) = false := by rw [beq_eq_false_iff_ne]; exact a0
  have za1 : (arm == 1) = false := by rw [beq_eq_false_iff_ne]; exact a1
  clear FI hl hz hE hT hk hse hsd WR IM D1 D2 D3 D4 D5 h1 h2 ht a0 a1
  go_enter Tryd.func4, Tryd.ntmps4
  go_wp2_with fail
  refine LV.mono ?_
  rintro e w1 ⟨rfl, q1⟩
  have K1 := Lib.hid (Qt.since (B := w.heap.size) q1)
  clear q1 LV
  go_wp2_with fail
  refine (FI2.out w1).mono ?_
  rintro e w2 ⟨rfl, rfl⟩
  go_wp2_with fail
  refine (FR.out _ K1.out).mono ?_
  rintro e w3 ⟨b, rfl, h3, S3⟩
  have H3 := Lib.hid h3
  have K3 := Lib.hid S3
  clear h3 S3
  go_wp2_with fail
  refine (AR.out _ K3.out b H3.out).mono ?_
  rintro e w4 ⟨rfl, h4, S4⟩
  have H4 := Lib.hid h4
  have K4 := Lib.hid S4
  clear h4 S4
  go_wp2_with fail
  refine (WR2.out _ K4.out b H4.out).mono ?_
  rintro e w5 ⟨rfl, h5, S5⟩
  have H5 := Lib.hid h5
  have K5 := Lib.hid S5
  clear h5 S5
  go_wp2_with fail
  refine (RR.out _).mono ?_
  rintro e w6 ⟨rfl, q6⟩
  have H6 := Lib.hid (H5.out.qt q6)
  have K6 := Lib.hid (since_qt K5.out q6)
  clear q6
  go_wp2_with fail
  refine (counts_any H6.out).mono ?_
  rintro e w7 ⟨rfl, q7⟩
  have H7 := Lib.hid (H6.out.qt q7)
  have K7 := Lib.hid (since_qt K6.out q7)
  clear q7
  rw [C1.out, C2.out]
  go_wp2_with fail
  refine (off_any H7.out).mono ?_
  rintro e w9 ⟨rfl, rfl⟩
  rw [O1.out]
  go_wp2_with fail
  refine (pending_any H7.out).mono ?_
  rintro e w10 ⟨rfl, rfl⟩
  rw [P1.out]
  go_wp2_with fail
  refine (own_image K7.out H7.out).mono ?_
  rw [I1.out]
  rintro e w11 ⟨rfl, h11, S11, _⟩
  have K11 := Lib.hid S11
  clear h11 S11
  go_wp2
  go_ret
  exact ⟨rfl, K11.out.qt⟩

set_option maxHeartbeats 3200000 in
theorem writes8_off (ad : Nat → Addr) (s t : ByteArray) (i v arm : Int) (n : Nat) (w : World) (hE : Errs ad w) (hT : Tab w) (hz : s.size = n * 256) (h1 : 1 ≤ n) (h2 : n ≤ 128) (ht : t.size ≤ 65536) (hv0 : -9223372036854775808 ≤ v) (hv1 : v ≤ 9223372036854775807) (ha : arm ≤ 9223372036854775807) (hk : (writeI s.data.toList i v t.data.toList).2 = 0) (a0 : arm = 0 ∨ arm = 1) :
    Calls Tryd.prog 4 #[.string s, .int .i64 i, .int .i64 v, .string t, .int .i64 arm] w fun e w' => e = .returned (.bool true) ∧ Qt w w' := by
  have HE := Lib.hid hE
  have HT := Lib.hid hT
  have LV := lives8_any ad w hE hT
  have FI := fit_any s
  rw [decide_eq_true ⟨by omega, by omega, by omega⟩] at FI
  have hl : s.data.toList.length = n * 256 := by rw [dlen7]; exact hz
  have FR := Lib.hid (fun W (q : Since w.heap.size w W) => own_from HE.out q s n hz h1 (by omega))
  have RR := Lib.hid (fun W => writeRef_any s n hz h2 i v hv0 hv1 t W)
  obtain ⟨d2, hse, hsd, D1, D2, D3, D4, D5, D6, D7, R1, R2, R3, R4⟩ := writes_off (i := i) (v := v) (p := t.data.toList) (arm := arm) hl hk a0
  have WR := fun W (q : Since w.heap.size w W) (b : Nat) (h : Own w.heap.size W b ((DS.fromD s.data.toList n).armD arm)) => own_slotsWrite HE.out HT.out q h (fewer_of (a := 0) (b := 0) rfl rfl rfl rfl (by decide) (by decide)) i v hv0 hv1 t
  rw [hse, hsd, errV_pos ad (by decide)] at WR
  have WR2 := Lib.hid WR
  have AR := Lib.hid (fun W (q : Since w.heap.size w W) (b : Nat) (h : Own w.heap.size W b (DS.fromD s.data.toList n)) => own_arm q h arm ha)
  rw [show writeI s.data.toList i v t.data.toList = ((writeI s.data.toList i v t.data.toList).1, 0) from by rw [← hk]] at RR
  unfold writeT at RR
  simp only at RR
  have IM : (⟨d2.image.toArray⟩ : ByteArray) = s := (of_list D5.symm).symm
  have IC : (⟨(d2.crashD fateOne).image.toArray⟩ : ByteArray) = ⟨(writeI s.data.toList i v t.data.toList).1.toArray⟩ := by rw [R4]
  have FEW : d2.Fewer := ⟨by omega, by omega, by omega, by omega⟩
  have RD := fun W (q : Since w.heap.size w W) (b : Nat) (h : Own w.heap.size W b d2) => own_slotsRead HE.out HT.out q h i
  rw [R1] at RD
  unfold readT at RD
  rw [errV_pos ad (by decide)] at RD
  simp only at RD
  have RD2 := Lib.hid RD
  have WA := fun W (q : Since w.heap.size w W) (b : Nat) (h : Own w.heap.size W b d2) => own_slotsWrite HE.out HT.out q h FEW i v hv0 hv1 t
  rw [R2, R3, errV_pos ad (by decide)] at WA
  have WA2 := Lib.hid WA
  have FI2 := Lib.hid FI
  have FEW2 := Lib.hid (show d2.Few from ⟨by omega, by omega, by omega, by omega⟩)
  have c12 := fun W (q : Since w.heap.size w W) => (show W.cell? ⟨0, 0, none⟩ = some (.iface 104 (.pointer (some (ad 12)))) from (errs_since hE q).cells 11 _ rfl)
  have C12 := Lib.hid c12
  have EQ := eq_same (ad 12)
  generalize (⟨(writeI s.data.toList i v t.data.toList).1.toArray⟩ : ByteArray) = X at *
  generalize (DS.fromD s.data.toList n).armD arm = d1 at *
  generalize DS.fromD s.data.toList n = d at *
  have I1 := Lib.hid IM
  have I2 := Lib.hid IC
  have O1 := Lib.hid D1
  have P1 := Lib.hid D2
  have C1 := Lib.hid D3
  have C2 := Lib.hid D4
  have zt : decide ((65536 : Int) < (t.size : Int)) = false := decide_eq_false (by omega)
  have A0 := Lib.hid a0
  clear FI hl hz hE hT hk hse hsd WR IM IC D1 D2 D3 D4 D5 D6 D7 R1 R2 R3 R4 RD WA FEW h1 h2 ht c12
  rcases A0.out with rfl | rfl
  all_goals
    clear a0 A0
    go_enter Tryd.func4, Tryd.ntmps4
    go_wp2_with fail
    refine LV.mono ?_
    rintro e w1 ⟨rfl, q1⟩
    have K1 := Lib.hid (Qt.since (B := w.heap.size) q1)
    clear q1 LV
    go_wp2_with fail
    refine (FI2.out w1).mono ?_
    rintro e w2 ⟨rfl, rfl⟩
    go_wp2_with fail
    refine (FR.out _ K1.out).mono ?_
    rintro e w3 ⟨b, rfl, h3, S3⟩
    have H3 := Lib.hid h3
    have K3 := Lib.hid S3
    clear h3 S3
    go_wp2_with fail
    refine (AR.out _ K3.out b H3.out).mono ?_
    rintro e w4 ⟨rfl, h4, S4⟩
    have H4 := Lib.hid h4
    have K4 := Lib.hid S4
    clear h4 S4
    go_wp2_with fail
    refine (WR2.out _ K4.out b H4.out).mono ?_
    rintro e w5 ⟨rfl, h5, S5⟩
    have H5 := Lib.hid h5
    have K5 := Lib.hid S5
    clear h5 S5
    go_wp2_with fail
    refine (RR.out _).mono ?_
    rintro e w6 ⟨rfl, q6⟩
    have H6 := Lib.hid (H5.out.qt q6)
    have K6 := Lib.hid (since_qt K5.out q6)
    clear q6
    go_wp2_with fail
    refine (counts_any H6.out).mono ?_
    rintro e w7 ⟨rfl, q7⟩
    have H7 := Lib.hid (H6.out.qt q7)
    have K7 := Lib.hid (since_qt K6.out q7)
    clear q7
    rw [C1.out, C2.out]
    go_wp2_with fail
    refine (RD2.out _ K7.out b H7.out).mono ?_
    rintro e w8 ⟨rfl, h8, S8, _⟩
    have H8 := Lib.hid h8
    have K8 := Lib.hid S8
    clear h8 S8
    go_wp2_with fail
    refine (WA2.out _ K8.out b H8.out).mono ?_
    rintro e w9 ⟨rfl, h9, S9⟩
    have H9 := Lib.hid h9
    have K9 := Lib.hid S9
    have d12 := C12.out _ S9
    clear h9 S9
    go_wp2_with fail
    refine (off_any H9.out).mono ?_
    rintro e w10 ⟨rfl, rfl⟩
    rw [O1.out]
    go_wp2_with fail
    refine (pending_any H9.out).mono ?_
    rintro e w10 ⟨rfl, rfl⟩
    rw [P1.out]
    go_wp2_with fail
    refine (own_image K9.out H9.out).mono ?_
    rw [I1.out]
    rintro e w11 ⟨rfl, h11, S11, _⟩
    have H11 := Lib.hid h11
    have K11 := Lib.hid S11
    clear h11 S11 d12
    go_wp2_with fail
    refine (own_crash2 w11.heap.size (since_qt K11.out ((Qt.refl _).alloc _)) (DiskAt.qt (Own.lt H11.out) ((Qt.refl _).alloc _)) FEW2.out (.slice (some ⟨w11.heap.size, 0, none⟩) 1 1) fateOne (bools_one w11 _ (Qt.refl _)) (fun a n c e _ => by injection e with e1; injection e1 with e1; subst e1; exact Nat.le_refl _)).mono ?_
    rintro e w12 ⟨rfl, h12, S12⟩
    have H12 := Lib.hid h12
    have K12 := Lib.hid S12
    clear h12 S12
    go_wp2_with fail
    refine (own_image K12.out H12.out).mono ?_
    rw [I2.out]
    rintro e w13 ⟨rfl, h13, S13, _⟩
    have K13 := Lib.hid S13
    clear h13 S13
    go_wp2
    go_ret
    exact ⟨rfl, K13.out.qt⟩

theorem writes8_any (ad : Nat → Addr) (s t : ByteArray) (i v arm : Int) (w : World) (hE : Errs ad w) (hT : Tab w) (hv0 : -9223372036854775808 ≤ v) (hv1 : v ≤ 9223372036854775807) (ha : arm ≤ 9223372036854775807) :
    Calls Tryd.prog 4 #[.string s, .int .i64 i, .int .i64 v, .string t, .int .i64 arm] w fun e w' => e = .returned (.bool true) ∧ Qt w w' := by
  by_cases hf : 0 < s.size ∧ s.size % 256 = 0 ∧ s.size ≤ 32768
  · by_cases ht : t.size ≤ 65536
    · obtain ⟨n, hz⟩ : ∃ n, s.size = n * 256 := ⟨s.size / 256, by omega⟩
      have h1 : 1 ≤ n := by omega
      have h2 : n ≤ 128 := by omega
      by_cases hk : (writeI s.data.toList i v t.data.toList).2 = 0
      · by_cases a0 : arm = 0
        · exact writes8_off ad s t i v arm n w hE hT hz h1 h2 ht hv0 hv1 ha hk (.inl a0)
        · by_cases a1 : arm = 1
          · exact writes8_off ad s t i v arm n w hE hT hz h1 h2 ht hv0 hv1 ha hk (.inr a1)
          · exact writes8_on ad s t i v arm n w hE hT hz h1 h2 ht hv0 hv1 ha hk a0 a1
      · exact writes8_no ad s t i v arm n _ w hE hT hz h1 h2 ht hv0 hv1 ha rfl hk
    · have LV := lives8_any ad w hE hT
      have FI := fit_any s
      rw [decide_eq_true hf] at FI
      have zt : decide ((65536 : Int) < (t.size : Int)) = true := decide_eq_true (by omega)
      clear hf ht hE hT
      go_enter Tryd.func4, Tryd.ntmps4
      go_wp2_with fail
      refine LV.mono ?_
      rintro e w1 ⟨rfl, q1⟩
      have K1 := Lib.hid q1
      clear q1 LV
      go_wp2_with fail
      refine (FI w1).mono ?_
      rintro e w2 ⟨rfl, rfl⟩
      go_wp2
      go_ret
      exact ⟨rfl, K1.out⟩
  · have LV := lives8_any ad w hE hT
    have FI := fit_any s
    rw [decide_eq_false hf] at FI
    clear hf hE hT
    go_enter Tryd.func4, Tryd.ntmps4
    go_wp2_with fail
    refine LV.mono ?_
    rintro e w1 ⟨rfl, q1⟩
    have K1 := Lib.hid q1
    clear q1 LV
    go_wp2_with fail
    refine (FI w1).mono ?_
    rintro e w2 ⟨rfl, rfl⟩
    go_wp2
    go_ret
    exact ⟨rfl, K1.out⟩
end Go.Proofs.YtnnkibhlildojaaDoor
