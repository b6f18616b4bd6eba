/-
  The contract of remitref06's From.
-/
import Derived.Test.YtbifhnlinnokaaaDoorSNew
namespace Go.Proofs.YtbifhnlinnokaaaDoor
open Go.RowKit Go.WideShapes
set_option maxRecDepth 100000

theorem cut_text (s : ByteArray) (k : Nat) : s.extract (256 * k) (256 * k + 256) = ⟨(cutAt (strL s) k).toArray⟩ := by
  apply ByteArray.ext
  rw [ByteArray.data_extract]
  apply Array.toList_inj.1
  rw [Array.toList_extract, List.extract_eq_take_drop]
  unfold cutAt strL
  simp only
  rw [show 256 * k + 256 - 256 * k = 256 by omega, show 256 * k = k * 256 by omega]

theorem fromD_ok {l : List UInt8} {n : Nat} (h1 : 1 ≤ n) (h2 : n ≤ 65536) (hl : l.length = n * 256) : (DS.fromD l n).Ok := by
  have hc : (cuts l n).length = n := by simp [cuts]
  refine ⟨by simp only [DS.fromD]; omega, by simp only [DS.fromD]; omega, ?_, fun k x hx => by simp [DS.fromD] at hx, by simp [DS.fromD], by simp [DS.fromD]⟩
  intro i t ht
  simp only [DS.fromD] at ht
  exact fromTo_each hl (Nat.le_refl n) i t (by rw [fromTo_all]; exact ht)

/-- The state of From's loop. -/
def SFromAt (w : World) (b n : Nat) (l : List UInt8) (iv : Value) (wr : World) : Prop := ∃ (k : Nat) (sv : Value), k ≤ n ∧ iv = .int .i64 k ∧ NewI w wr b sv (cuts l k)

def SFromP (s : ByteArray) (w : World) (e : Ending) (w' : World) : Prop :=
  (s.size % 256 ≠ 0 ∧ e = .returned (.tuple #[.pointer none, .int .i64 7]) ∧ Qt w w') ∨
  (s.size % 256 = 0 ∧ ¬ (1 ≤ s.size / 256 ∧ s.size / 256 ≤ 65536) ∧ e = .returned (.tuple #[.pointer none, .int .i64 6]) ∧ Qt w w') ∨
  (s.size % 256 = 0 ∧ 1 ≤ s.size / 256 ∧ s.size / 256 ≤ 65536 ∧ ∃ b, e = .returned (.tuple #[.pointer (some ⟨b, 0, none⟩), .int .i64 0]) ∧ RefAt w' b (DS.fromD (strL s) (s.size / 256)) (Grow (fun _ => False) w w') ∧ Qt w w')

theorem ref_from_form (s : ByteArray) (w : World) (hs : s.size ≤ 4611686018427387904) (h : s.size % 256 ≠ 0) : Calls Tryd.prog 11 #[.string s] w (SFromP s w) := by
  have g1 : (s.size : Int).tmod 256 = ((s.size % 256 : Nat) : Int) := by rw [Int.tmod_eq_emod_of_nonneg (by omega)]; omega
  have g2 : (((s.size % 256 : Nat) : Int) != 0) = true := by rw [bne_iff_ne]; omega
  have FIN := Lib.hid (show SFromP s w (.returned (.tuple #[.pointer none, .int .i64 7])) w from .inl ⟨h, rfl, Qt.refl _⟩)
  go_enter Tryd.func11, Tryd.ntmps11
  go_wp2
  go_ret2
  exact FIN.out

theorem ref_from_range (s : ByteArray) (w : World) (hs : s.size ≤ 4611686018427387904) (h : s.size % 256 = 0) (hn : ¬ (1 ≤ s.size / 256 ∧ s.size / 256 ≤ 65536)) : Calls Tryd.prog 11 #[.string s] w (SFromP s w) := by
  have g1 : (s.size : Int).tmod 256 = 0 := by rw [Int.tmod_eq_emod_of_nonneg (by omega)]; omega
  obtain ⟨n, hnn⟩ : ∃ n, s.size / 256 = n := ⟨_, rfl⟩
  have FIN := Lib.hid (show SFromP s w (.returned (.tuple #[.pointer none, .int .i64 6])) w from .inr (.inl ⟨h, hn, rfl, Qt.refl _⟩))
  have g2 : (s.size : Int).tdiv 256 = (n : Int) := by rw [Int.tdiv_eq_ediv_of_nonneg (by omega)]; omega
  rw [hnn] at hn
  have hb : n ≤ 4611686018427387904 := by omega
  by_cases h1 : n < 1
  · have g3 : decide ((n : Int) < 1) = true := decide_eq_true (by omega)
    clear hn h hnn
    go_enter Tryd.func11, Tryd.ntmps11
    go_wp2
    go_ret2
    exact FIN.out
  · have g3 : decide ((n : Int) < 1) = false := decide_eq_false (by omega)
    have g4 : decide ((65536 : Int) < (n : Int)) = true := decide_eq_true (by omega)
    have g5 : 65536 < n := by omega
    clear hn h hnn
    go_enter Tryd.func11, Tryd.ntmps11
    go_wp2
    go_ret2
    exact FIN.out

set_option maxHeartbeats 3200000 in
theorem ref_from_ok (s : ByteArray) (w : World) (hs : s.size ≤ 4611686018427387904) (h : s.size % 256 = 0) (h1 : 1 ≤ s.size / 256) (h2 : s.size / 256 ≤ 65536) : Calls Tryd.prog 11 #[.string s] w (SFromP s w) := by
  have g1 : (s.size : Int).tmod 256 = 0 := by rw [Int.tmod_eq_emod_of_nonneg (by omega)]; omega
  have g2 : (s.size : Int).tdiv 256 = ((s.size / 256 : Nat) : Int) := by rw [Int.tdiv_eq_ediv_of_nonneg (by omega)]; omega
  have FIN := Lib.hid (fun b w' (h3 : RefAt w' b (DS.fromD (strL s) (s.size / 256)) (Grow (fun _ => False) w w')) (q : Qt w w') => (show SFromP s w (.returned (.tuple #[.pointer (some ⟨b, 0, none⟩), .int .i64 0])) w' from .inr (.inr ⟨h, h1, h2, b, rfl, h3, q⟩)))
  obtain ⟨n, hn⟩ : ∃ n, s.size / 256 = n := ⟨_, rfl⟩
  rw [hn] at h1 h2 g2 FIN
  have hsz : s.size = n * 256 := by omega
  have HSZ := Lib.hid hsz
  have g3 : ¬ n < 1 := by omega
  have g4 : ¬ 65536 < n := by omega
  have HST := Lib.hid (NewI.start w)
  obtain ⟨w1, hw1⟩ : ∃ W, w.alloc (.cells #[.slice none 0 0, .slice none 0 0, .bool false, .bool false, .int .i64 0, .int .i64 0, .int .i64 0, .int .i64 0] 61) = W := ⟨_, rfl⟩
  rw [hw1] at HST
  have HW1 := Lib.hid hw1
  obtain ⟨b, hb⟩ : ∃ b, w.heap.size = b := ⟨_, rfl⟩
  rw [hb] at HST
  have HBB := Lib.hid hb
  clear hw1 hb hn h hsz
  go_enter Tryd.func11, Tryd.ntmps11
  go_wp2_with fail
  rw [HW1.out, HBB.out]
  go_loopw [6] (fun iv wr => SFromAt w b n (strL s) iv wr) (fun iv _ => n - (intOf iv).toNat)
  case atStart => exact ⟨0, _, Nat.zero_le _, rfl, HST.out⟩
  case round =>
    obtain ⟨k, sv, hk, rfl, hI⟩ := hrel
    have hcl : (cuts (strL s) k).length = k := by simp [cuts]
    by_cases hlt : k < n
    · obtain ⟨sa, sc, hsv, _⟩ := own_slice hI.secs
      subst hsv
      rw [hcl] at hI
      have c0 : wr.cell? ⟨b, 0, none⟩ = some (.slice sa k sc) := by rw [cell_of_row _ _ _ _ _ _ hI.cells]; rfl
      have HI := Lib.hid hI
      have sA : ∀ wx : World, (Instr.slice 9 (.string s) (some (.int .i64 (256 * (k : Int)))) (some (.int .i64 (256 * (k : Int) + 256))) none).run Tryd.prog wx = .ok (.string ⟨(cutAt (strL s) k).toArray⟩) wx := fun wx => by
        rw [← cut_text s k]
        have hz := HSZ.out
        have := run_slice_string (P := Tryd.prog) wx 9 s .i64 .i64 (256 * (k : Int)) (256 * (k : Int) + 256) Tryd.underlying9 (by omega) (by omega) (by omega)
        rw [this, show (256 * (k : Int)).toNat = 256 * k by omega, show (256 * (k : Int) + 256).toNat = 256 * k + 256 by omega]
      have hw1 : IntKind.i64.wrap (256 * (k : Int)) = 256 * (k : Int) := IntWalk.i64_in _ (by omega)
      have hw2 : IntKind.i64.wrap (256 * (k : Int) + 256) = 256 * (k : Int) + 256 := IntWalk.i64_in _ (by omega)
      obtain ⟨Z, hZ⟩ : ∃ Z : ByteArray, ⟨(cutAt (strL s) k).toArray⟩ = Z := ⟨_, rfl⟩
      rw [hZ] at sA
      have hzv : Value.string Z = strV (cutAt (strL s) k) := by rw [← hZ]; rfl
      have qB : Qt wr (wr.alloc (.cells #[.string Z] 9)).drew := Keeps.drew ((Qt.refl wr).alloc (.cells #[.string Z] 9))
      have cB : (wr.alloc (.cells #[.string Z] 9)).cell? ⟨b, 0, none⟩ = some (.slice sa k sc) := Qt.cellv ((Qt.refl wr).alloc (.cells #[.string Z] 9)) c0
      have OW := Lib.hid (show ((wr.alloc (.cells #[.string Z] 9)).drew).ownsRow 0 9 1 (.slice sa k sc) k ((cuts (strL s) k).map strV) from by have := (HI.out.qt' qB).secs; rw [hcl] at this; exact this)
      have nw := World.news_of_block (cs := #[.string Z]) (heap_alloc_new wr (.cells #[.string Z] 9))
      have NW := Lib.hid (show ∀ (j : Nat) (y : Value), [Value.string Z][j]? = some y → ((wr.alloc (.cells #[.string Z] 9)).drew).cell? ((⟨wr.heap.size, 0, none⟩ : Addr).add j) = some y from nw)
      have F := Lib.hid (fun (g' cap' : Nat) (w4 : World) (ho : w4.ownsRow 0 9 1 (.slice (some ⟨g', 0, none⟩) (k + 1) cap') (k + 1) ((cuts (strL s) k).map strV ++ [.string Z]))
        (hc : (some g' = (Value.slice sa k sc).ownBlock ∧ ((wr.alloc (.cells #[.string Z] 9)).drew).grownBy w4 (Value.slice sa k sc).ownBlock) ∨ (((wr.alloc (.cells #[.string Z] 9)).drew).heap.size ≤ g' ∧ ((wr.alloc (.cells #[.string Z] 9)).drew).grownBy w4 none)) => NewI.push2 (s := cutAt (strL s) k) (HI.out.qt' qB) hcl hzv ho hc)
      obtain ⟨j0, hi, hz0, hz1, hz2⟩ := info_parts infoStr7
      have HCL := Lib.hid hcl
      clear qB hZ nw hzv hcl hI
      go_wp2_with fail
      go_region_law ((refine step_append_one _ (by rfl) _ _ _ (by rfl) 9 j0 (.string ⟨#[]⟩) 16 Tryd.underlying58 hi hz0 hz1 hz2 rfl _ k _ (by rfl) OW.out ⟨wr.heap.size, 0, none⟩ 1 (.string Z) (by rfl) NW.out rfl (by unfold maxLen; omega) (by omega) ?_; intro g' cap' w4 hown4 hcase4; obtain ⟨q1, q2, q3⟩ := F.out g' cap' w4 hown4 hcase4; have HQ1 := Lib.hid q1; clear hown4 hcase4 q1))
      all_goals
        have FF := Lib.hid (show SFromAt w b n (strL s) (.int .i64 ((k : Int) + 1)) (w4.setCell ⟨b, 0, none⟩ (.slice (some ⟨g', 0, none⟩) (k + 1) cap')) from ⟨k + 1, _, hlt, by simp, by rw [show cuts (strL s) (k + 1) = cuts (strL s) k ++ [cutAt (strL s) k] by simp [cuts, List.range_succ]]; exact HQ1.out⟩)
        clear cB sA q2 q3 c0
        go_wp2_with fail
        go_roundw
        case rel => exact FF.out
        case measure => simp [intOf]; omega
    · obtain rfl : k = n := by omega
      have FIN2 := Lib.hid (FIN.out b wr (hI.done (fromD_ok h1 h2 (show (strL s).length = k * 256 from HSZ.out))) hI.qt)
      clear hI hlt hcl
      go_wp2_with fail
      go_ret2
      exact FIN2.out

theorem ref_from (s : ByteArray) (w : World) (hs : s.size ≤ 4611686018427387904) : Calls Tryd.prog 11 #[.string s] w (SFromP s w) := by
  by_cases h : s.size % 256 = 0
  · by_cases hn : 1 ≤ s.size / 256 ∧ s.size / 256 ≤ 65536
    · exact ref_from_ok s w hs h hn.1 hn.2
    · exact ref_from_range s w hs h hn
  · exact ref_from_form s w hs h
end Go.Proofs.YtbifhnlinnokaaaDoor
