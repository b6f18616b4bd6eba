/-
  The contract of clean.
-/
import Derived.Test.YtfhfbpjhjigbnaaDoorKSame
namespace Go.Proofs.YtfhfbpjhjigbnaaDoor
open Go.RowKit Go.WideShapes
set_option maxRecDepth 100000

/-! ### clean -/
theorem plain_clean (p : PD) (h : p.plain = p) (W : World) : Calls Tryd.prog 34 #[p.val] W fun e w' => e = .returned p.val ∧ Qt W w' := by
  have q := plain_any p W
  rw [h] at q
  exact q
set_option maxHeartbeats 1600000 in
theorem clean_any (v : Value) (g off : Nat) (ps : List PD) (w : World) (hs : Parts w v g off ps) (hc : ∀ p ∈ ps, p.plain = p) :
    Calls Tryd.prog 22 #[v] w fun e w' => e = .returned (.bool true) ∧ Qt w w' := by
  obtain ⟨a, cap, rfl, ha⟩ := hs.val
  have hle := hs.le
  have HS := Lib.hid hs
  have HP := Lib.hid hc
  clear hs ha hc
  go_enter Tryd.func22, Tryd.ntmps22
  go_wp2
  go_loopw [7] (fun i wr => ∃ k : Nat, k ≤ ps.length ∧ i = .int .i64 k ∧ Qt w wr) (fun i _ => ps.length - (intOf i).toNat)
  case atStart => exact ⟨0, Nat.zero_le _, rfl, Qt.refl _⟩
  case round =>
    obtain ⟨k, hk, rfl, hq⟩ := hrel
    have HQ := Lib.hid hq
    by_cases hlt : k < ps.length
    · obtain ⟨p, cap', hpk, hv⟩ := HS.out.elem hlt
      injection hv with hv q1 q2
      clear q1 q2
      subst hv
      obtain ⟨c0, c1, c2⟩ := (HS.out.qt hq).cells k p hpk
      have hb := heap_alloc_new wr (.cells #[.bool p.b, .int .i64 p.n, .string p.s] 25)
      have HC := Lib.hid (fun (W' : World) (kq : Qt (wr.alloc (.cells #[.bool p.b, .int .i64 p.n, .string p.s] 25)).drew W') => show W'.cell? ⟨wr.heap.size, 0, none⟩ = some (.bool p.b) ∧ W'.cell? ⟨wr.heap.size, 1, none⟩ = some (.int .i64 p.n) ∧ W'.cell? ⟨wr.heap.size, 2, none⟩ = some (.string p.s) from
        ⟨kq.cellv (by show (wr.alloc _).cell? _ = _; rw [cell_of_row _ _ _ _ _ _ hb]; rfl), kq.cellv (by show (wr.alloc _).cell? _ = _; rw [cell_of_row _ _ _ _ _ _ hb]; rfl), kq.cellv (by show (wr.alloc _).cell? _ = _; rw [cell_of_row _ _ _ _ _ _ hb]; rfl)⟩)
      have hpl := HP.out p (List.mem_of_getElem? hpk)
      have q1 := Lib.hid (fun W => plain_clean p hpl W)
      have n1 : ∀ W, (binOp .neq 25 p.val p.val).run Tryd.prog W = .ok (.bool false) W := fun W => by rw [run_neq_part]; simp
      clear hpl hq hpk hb
      go_wp2
      go_region_held3 (fun W' => W'.cell? ⟨wr.heap.size, 0, none⟩ = some (.bool p.b) ∧ W'.cell? ⟨wr.heap.size, 1, none⟩ = some (.int .i64 p.n) ∧ W'.cell? ⟨wr.heap.size, 2, none⟩ = some (.string p.s))
        (first | go_keep | exact HC.out _ kT)
        ((go_at_call 34; refine (q1.out _).mono ?_; rintro e wT ⟨rfl, kT⟩))
      have fin := Lib.hid (Qt.trans ((HQ.out.alloc (.cells #[.bool p.b, .int .i64 p.n, .string p.s] 25)).drew) kT)
      clear kT c0 c1 c2 HC n1
      go_wp2
      go_roundw
      case rel => exact ⟨k + 1, by omega, by simp, fin.out⟩
      case measure => simp [intOf]; omega
    · obtain rfl : k = ps.length := by omega
      clear hq hlt
      go_wp2
      go_ret
      exact ⟨rfl, HQ.out⟩
end Go.Proofs.YtfhfbpjhjigbnaaDoor
