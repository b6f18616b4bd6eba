/-
  The contract of remitlaw04.MoneyMemory: it answers true.
-/
import Derived.Test.YtjjlpjfojgkpkaaDoorMMem
import Derived.Test.YtjjlpjfojgkpkaaDoorMNew
import Derived.Test.YtjjlpjfojgkpkaaDoorMSameQ
namespace Go.Proofs.YtjjlpjfojgkpkaaDoor
open Go.RowKit Go.WideShapes
set_option maxRecDepth 100000

theorem sumM_errV (ad : Nat → Addr) (v : Int) : ∃ (x : Int) (n : Nat), n ≤ 37 ∧ sumM ad v = .tuple #[.int .i64 x, errV ad n] := by
  cases h : M.fit v with
  | some x => exact ⟨x, 0, by decide, by rw [sumM_some h]; rfl⟩
  | none => exact ⟨0, 10, by decide, by rw [sumM_none h]; rfl⟩
theorem splitE_le (a : Int) (ws : List Int) : M.splitE a ws ≤ 37 := by
  unfold M.splitE
  split
  · decide
  · split <;> decide
theorem memory_any (ad : Nat → Addr) (a : Int) (v : Value) (g off : Nat) (ws : List Int) (v' : Value) (g' off' : Nat) (xs : List Int) (w : World) (a0 : -9223372036854775808 ≤ a) (a1 : a < 9223372036854775808) (wl : ws.length ≤ 17592186043904) (xl : xs.length ≤ 17592186043904)
    (hE : Errs ad w) (hT : Tab10 w) (hv : IntsAt .i64 w v g off ws) (hv' : IntsAt .i64 w v' g' off' xs) (hx : ∀ x ∈ xs, -9223372036854775808 ≤ x ∧ x < 9223372036854775808) :
    Calls Tryd.prog 3 #[.int .i64 a, v, v'] w fun e w' => e = .returned (.bool true) ∧ Qt w w' := by
  obtain ⟨X, m, hm, hs⟩ := sumM_errV ad (M.sumI xs)
  refine memory4_any ad a v g off ws v' g' off' xs w wl xl (ansS a) (M.splitE a) X m hm (splitE_le a) (ansS_len a) (Lib.hid (fixed_any ad w hE hT)) hE (Lib.hid ?_) (Lib.hid ?_) (Lib.hid ?_) hv hv'
  · intro W q va ga oa ys hy
    exact (split4_any ad a va ga oa ys W a0 a1 (hE.qt q) hy).mono fun e W' h => h.new hy.le
  · intro W q va ga oa hy
    rw [← hs]
    exact sum4_any ad va ga oa xs W (hE.qt q) hy hx
  · intro W va ga oa vb gb ob ys h1 h2
    exact same_alike va vb ga oa gb ob ys W h1 h2
end Go.Proofs.YtjjlpjfojgkpkaaDoor
