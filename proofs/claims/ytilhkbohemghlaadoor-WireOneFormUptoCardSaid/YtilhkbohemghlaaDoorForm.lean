/-
  The contract of remitlaw01.WireOneForm: it answers true.
-/
import Derived.Test.YtilhkbohemghlaaDoorAgain
import Derived.Test.YtilhkbohemghlaaDoorBack
import Derived.IntWalk
import Derived.Deep.RegionHeld

namespace Go.Proofs.YtilhkbohemghlaaDoor
open Go.ChangeShapes Go.WideShapes Go.ChangeAt Go.RowKit
set_option maxRecDepth 100000

/-- The loop: k Ops done, the Reader at p. -/
def FormAt (os : List OpD) (b : Nat) (s : ByteArray) (w : World) (v i : Value) (wr : World) : Prop :=
  ∃ (k p : Nat), k ≤ os.length ∧ i = .int .i64 k ∧ v = .int .i64 p ∧ Rd b s p wr ∧ Since w.heap.size w wr

set_option maxHeartbeats 1600000 in
theorem form_any (ad : Nat → Addr) (s : ByteArray) (v : Value) (g off : Nat) (os : List OpD) (w : World) (hE : Errs ad w) (hs : Script w v g off os) (hs40 : s.size ≤ 16777216) :
    Calls Tryd.prog 6 #[.string s, v] w fun e w' => e = .returned (.bool true) ∧ Keeps (fun _ => False) w w' := by
  obtain ⟨a, cap, rfl, ha⟩ := hs.val
  have hle := hs.le
  have HS := Lib.hid hs
  have HE := Lib.hid hE
  clear hs ha
  go_enter Tryd.func6, Tryd.ntmps6
  go_wp2_with fail
  refine (fixed_any ad w HE.out).mono ?_
  rintro e W1 ⟨rfl, k1⟩
  go_wp2_with fail
  refine (rread_any s W1 (by omega)).mono ?_
  rintro e W2 ⟨rfl, h2, k2⟩
  have hb1 := k1.size
  have S2 : Since w.heap.size w W2 := (k1.trans k2 (fun _ _ h => h)).mono (fun _ _ h => h.elim)
  have S2' := Lib.hid S2
  generalize W1.heap.size = b at *
  clear k1 k2 S2 hE
  go_wp2
  go_loopw [6, 20] (fun v i wr => FormAt os b s w v i wr) (fun _ i _ => os.length - (intOf i).toNat)
  case atStart => exact ⟨0, 0, Nat.zero_le _, rfl, rfl, h2, S2'.out⟩
  case round =>
    obtain ⟨k, p, hk, rfl, rfl, hr, hS⟩ := hrel
    by_cases hlt : k < os.length
    · obtain ⟨o, cap', hok, hv⟩ := HS.out.elem hlt
      injection hv with hv q1 q2
      clear q1 q2
      subst hv
      have hc := HS.out.cells k o hok
      obtain ⟨oOk, oSm, g', g0, hst⟩ := HS.out.each k o hok
      have hcell : ∀ (j : Nat) (u : Value), o.list[j]? = some u → wr.cell? ⟨g, off + k * 8 + j, none⟩ = some u := fun j u hj => by
        have h1 := hc j u hj
        have h2 := World.block_lt_of_cell? w _ h1
        rw [hS.cell h2 (fun e => by simp only at e h2; omega)]
        exact h1
      have hOw := OffErrs.of_ge HE.out (S := fun k => k = b) (fun k e => by omega)
      have hEr := HE.out.since (Nat.le_refl _) hS
      have hws := hS.size
      have hple := hr.le
      have hbl := hr.lt
      have H1 := Lib.hid (fun (W : World) (c : Nat) (hw : Wr c none [] W) (hbc : c ≠ b) (k1 : Keeps (fun _ => False) wr W) => again_any ad b c s p o W (hr.kept k1 (fun h => h)) (hEr.kept k1 (OffErrs.none ad)) hOw hw hbc oOk (by omega))
      have hone : o.v.oneCell' = true := by obtain ⟨ta, tc, e, _⟩ := hst.val; rw [e]; rfl
      have hone8 : o.list.toArray.all (·.oneCell') = true := by simp only [OpD.list, List.all_toArray, List.all_cons, List.all_nil, hone]; rfl
      have Hone := Lib.hid hone8
      have HSw := Lib.hid hS
      clear hc hst oOk oSm hone hone8 hEr hOw h2 hok hr hS
      obtain ⟨kind, sec, u, i, nn, m, os1, tv, ss⟩ := o
      have c0 : wr.cell? ⟨g, off + k * 8, none⟩ = some (.int .i64 kind) := hcell 0 _ rfl
      have c1 := hcell 1 (.bool sec) rfl
      have c2 := hcell 2 (.int .u64 u) rfl
      have c3 := hcell 3 (.int .i64 i) rfl
      have c4 := hcell 4 (.int .i64 nn) rfl
      have c5 := hcell 5 (.int .i64 m) rfl
      have c6 := hcell 6 (.string os1) rfl
      have c7 := hcell 7 tv rfl
      have cbox : ∀ C t j, (wr.alloc (.cells C t)).cell? ⟨wr.heap.size, j, none⟩ = C[j]? := fun C t j => cell_of_row _ _ _ _ _ _ (heap_alloc_new wr _)
      have hk0' := Lib.hid (fun o => (Keeps.refl (fun _ => False) wr).alloc o)
      have hs0' := Lib.hid (fun o => show wr.heap.size < (wr.alloc o).heap.size by simp)
      clear hcell
      go_wp2_with (refine wpList_store_row _ rfl 30 _ _ rfl wr.heap.size _ _ 30 rfl rfl (heap_alloc_new wr _) (by kernel_rfl) rfl Hone.out ?_; rw [World.setRow_alloc_new])
      generalize hW : wr.alloc _ = W
      have hcW : ∀ j, W.cell? ⟨wr.heap.size, j, none⟩ = (#[Value.int .i64 kind, .bool sec, .int .u64 u, .int .i64 i, .int .i64 nn, .int .i64 m, .string os1, tv] : Array Value)[j]? := fun j => by rw [← hW, cbox]
      have hcW' := Lib.hid hcW
      have hKW := Lib.hid (hW ▸ hk0'.out _)
      have hSW := (hW ▸ hs0'.out _ : wr.heap.size < W.heap.size)
      clear cbox hk0' hs0' hW c0 c1 c2 c3 c4 c5 c6 c7 hcW
      refine (wnew_any W).mono ?_
      rintro e W3 ⟨rfl, h3, k3, s3⟩
      have K3 := Lib.hid (hKW.out.trans k3 (fun _ _ h => h))
      have hB3 : ∀ j, W3.cell? ⟨wr.heap.size, j, none⟩ = (#[Value.int .i64 kind, .bool sec, .int .u64 u, .int .i64 i, .int .i64 nn, .int .i64 m, .string os1, tv] : Array Value)[j]? := fun j => (k3.cell hSW (fun e => e)).trans (hcW'.out j)
      have c0 := hB3 0; have c1 := hB3 1; have c2 := hB3 2; have c3 := hB3 3; have c4 := hB3 4; have c5 := hB3 5; have c6 := hB3 6; have c7 := hB3 7
      have hcb : W.heap.size ≠ b := by omega
      have hcw : w.heap.size ≤ W.heap.size := by omega
      clear hB3 k3
      generalize W.heap.size = c at *
      go_wp2_with fail
      refine (H1.out W3 c h3 hcb K3.out).mono ?_
      rintro e W4 ⟨k4, hcase⟩
      have S4 := Lib.hid (Since.step (HSw.out.step K3.out (fun _ h => h.elim)) k4 (fun i e => by rcases e with e | e <;> omega))
      have hs4 := k4.size
      have hs5 := K3.out.size
      clear k4 H1 h3 c0 c1 c2 c3 c4 c5 c6 c7
      rcases hcase with ⟨n, r, hn, rfl, hr4, hw4, hrn⟩ | ⟨rfl, hr4, r, l, hw4⟩
      · go_wp2_with fail
        refine (rat_any _ _ _ _ hr4).mono ?_
        rintro e W5 ⟨rfl, rfl⟩
        have hpq : p ≤ p + n := by omega
        have hX : s.extract p (p + n) = ⟨((rest s p).take n).toArray⟩ := string_of_list (extract_take s p n)
        have hcl : ¬ (p + n < p) := by omega
        have hcs : ¬ (s.size < p + n) := by omega
        have hO := Lib.hid (fun n => wout_any c r _ (W5.drewN n) (hw4.kept (S := fun _ => False) ((Keeps.refl _ _).drewN n) (fun h => h) (fun _ _ h => h)))
        clear hw4
        generalize p + n = q at *
        generalize (⟨((rest s p).take n).toArray⟩ : ByteArray) = X at *
        go_wp2
        have hsub : IntKind.i64.wrap ((s.size : Int) - (q : Int)) = (s.size : Int) - q := IntWalk.i64_in _ (by omega)
        have hL := Lib.hid (fun n => rleft_any b s q (W5.drewN n) (hr4.drewN n))
        first | (go_region_held (fun _ => True) (trivial) (first | (go_at_call 17; refine (hL.out 1).mono ?_; rintro e w' ⟨rfl, n', rfl⟩) | (go_at_call 13; refine (hO.out _).mono ?_; rintro e w' ⟨rfl, h6, k6⟩))) | fail
        all_goals (
          have h7 : ∀ g, r = some g → g ≠ b := fun g hg => by have := hrn g hg; omega
          have fin := Lib.hid (show FormAt os b s w (.int .i64 q) (.int .i64 ((k + 1 : Nat) : Int)) w' from ⟨k + 1, q, by omega, rfl, rfl, (hr4.drewN (1 + n')).kept k6 (fun e => h7 b e.symm rfl), Since.step (S4.out.drewN (1 + n')) k6 (fun i e => by have := hrn i e.symm; omega)⟩)
          clear h6 k6 hL hO
          go_wp2
          go_roundw
          case rel => exact fin.out
          case measure => simp [intOf]; omega)
      · go_wp2_with fail
        refine (rat_any _ _ _ _ hr4).mono ?_
        rintro e W5 ⟨rfl, rfl⟩
        have hcs : ¬ (s.size < p) := by omega
        have hpp : ¬ (p < p) := by omega
        go_wp2
        have hsub : IntKind.i64.wrap ((s.size : Int) - (p : Int)) = (s.size : Int) - p := IntWalk.i64_in _ (by omega)
        have hL := Lib.hid (fun n => rleft_any b s p (W5.drewN n) (hr4.drewN n))
        go_quiet ((go_at_call 17; exact Calls.quiet_of (hL.out _)))
        have fin := Lib.hid (show FormAt os b s w (.int .i64 p) (.int .i64 ((k + 1 : Nat) : Int)) (W5.drewN nq) from ⟨k + 1, p, by omega, rfl, rfl, hr4.drewN nq, S4.out.drewN nq⟩)
        clear hL hw4 hr4
        go_wp2
        go_roundw
        case rel => exact fin.out
        case measure => simp [intOf]; omega
    · obtain rfl : k = os.length := by omega
      have fin := Lib.hid (Keeps.fresh hS)
      clear hS hr h2
      go_wp2
      go_ret
      exact ⟨rfl, fin.out⟩
end Go.Proofs.YtilhkbohemghlaaDoor
