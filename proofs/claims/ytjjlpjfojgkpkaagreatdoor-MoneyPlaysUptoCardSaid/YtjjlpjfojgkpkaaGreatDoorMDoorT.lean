/-
  What the listed variables of MoneyTexts and MoneyPlays give: all errors, the library's table of powers and its ErrRange; the witnesses' starts.
-/
import Derived.Test.YtjjlpjfojgkpkaaGreatDoorLaid
import Derived.Test.YtjjlpjfojgkpkaaGreatDoorMFmt
import Derived.Test.YtjjlpjfojgkpkaaGreatDoorMParseM
namespace Go.Proofs.YtjjlpjfojgkpkaaGreatDoor
open Go.ChangeShapes Go.WideShapes Go.ChangeAt Go.RowKit
set_option maxRecDepth 100000

def rangeText : List UInt8 := [118, 97, 108, 117, 101, 32, 111, 117, 116, 32, 111, 102, 32, 114, 97, 110, 103, 101]
def syntaxText : List UInt8 := [105, 110, 118, 97, 108, 105, 100, 32, 115, 121, 110, 116, 97, 120]
def aheadT : List (String × DataW Unit) := [("math/bits.deBruijn32tab", Rows.laid_math_bits_deBruijn32tab), ("math/bits.deBruijn64tab", Rows.laid_math_bits_deBruijn64tab), ("internal/strconv.uint64pow10", Rows.laid_internal_strconv_uint64pow10), ("unicode/utf8.acceptRanges", Rows.laid_unicode_utf8_acceptRanges)]
def errsT : List (String × DataW Unit) := errTexts.map fun x => (x.1, errD x.2)
def behindT : List (String × DataW Unit) := [("strconv.ErrRange", errD rangeText), ("strconv.ErrSyntax", errD syntaxText), ("unicode/utf8.first", Rows.laid_unicode_utf8_first)]
theorem rowsT : aheadT ++ (errsT ++ behindT) = Rows.moneyTextsUptoRow.laid := rfl
theorem rowsP : aheadT ++ (errsT ++ behindT) = Rows.moneyPlaysUptoRow.laid := rfl
theorem tab10_ofT {W : World} (h : laidMet Tryz.prog [("internal/strconv.uint64pow10", (Rows.laid_internal_strconv_uint64pow10 : DataW Unit))] W) : Tab10 W :=
  Lib.tabIs_of_head (P := Tryz.prog) (W := W) (name := "internal/strconv.uint64pow10") (k := .u64) (zs := Lib.pow10Tab) (rest := []) (g := 39) (t := 132) (e := 56) (n := 20) (by kernel_rfl) (by kernel_rfl) Tryz.underlying132 Tryz.underlying56 (by kernel_rfl) (by kernel_rfl) h
theorem var_of_laid {W : World} {n : String} {text : List UInt8} {g : Nat} (hn : Tryz.prog.globalNamed n = some g) (ht : (Tryz.prog.globals[g]?).map (·.type) = some 32) (h : laidMet Tryz.prog [(n, errD text)] W) : ∃ tp p, W.var? Tryz.prog n = some #[.iface tp p] := by
  obtain ⟨ps, hv, hnd, hrows⟩ := h
  obtain ⟨g0, t0, cs0, f0, p0, q0, hg0, ht0, hv0, hd0, hq, e0⟩ := hv
  obtain rfl := Option.some.inj (hn.symm.trans hg0)
  obtain rfl := Option.some.inj (ht.symm.trans ht0)
  obtain ⟨l0⟩ := cs0
  have ok0 : ∀ u v, l0 = [.iface u v] → Value.okWide Tryz.prog W .any 0 u v := fun u v e => by
    subst e
    exact (hrows g 0 (by rw [e0]; simp [MemPlace.row])).2 u v (by simpa using World.var?_cell hg0 hv0 0)
  obtain ⟨a0, s0, rfl, hc0, hs0, hz0, rfl⟩ := errorString_of_trod Tryz.underlying32 rowErr Tryz.underlying158 Tryz.underlying160 rfl rfl Tryz.underlying9 cellsErr cellsString hd0 ok0
  exact ⟨_, _, hv0⟩
theorem all_of {W : World} (h : laidMet Tryz.prog (aheadT ++ (errsT ++ behindT)) W) : (∃ ad, Errs ad W) ∧ Tab10 W ∧ VarR W :=
  ⟨errs_of_texts (laidMet_sub ((List.sublist_append_left _ _).trans (List.sublist_append_right _ _)) h), tab10_ofT (laidMet_sub ((List.Sublist.cons _ (.cons _ (.cons_cons _ (.cons _ .slnil)))).trans (List.sublist_append_left _ _)) h),
    var_of_laid (g := 41) (by kernel_rfl) (by kernel_rfl) (laidMet_sub ((List.Sublist.cons_cons _ (.cons _ (.cons _ .slnil))).trans ((List.sublist_append_right _ _).trans (List.sublist_append_right _ _))) h)⟩
theorem maxL4_of {W : World} (h : W.ShapedOpen Tryz.prog) : ∃ m, MaxL4 m W := Tryz.laysM145.s1_3 W h
theorem door_texts {W : World} (h : laidMetH Tryz.prog Rows.moneyTextsUptoRow.laid W) : (∃ ad, Errs ad W) ∧ Tab10 W ∧ VarR W := by
  rw [MakeChecks.laidMetH_plain _ _ _ (by kernel_rfl), ← rowsT] at h
  exact all_of h
noncomputable def doorT (os : Os) : World := World.laidAll Tryz.prog os Rows.moneyTextsUptoRow.laid
theorem doorT_met (os : Os) (args : Array Value) : laidMetH Tryz.prog Rows.moneyTextsUptoRow.laid ((doorT os).forCall (fun _ _ => 0) ⟨#[], args, []⟩).memory := by
  rw [MakeChecks.laidMetH_plain _ _ _ (by kernel_rfl)]
  exact laidMet_laidAll _ (by kernel_rfl) (by kernel_rfl)
theorem door_plays {W : World} (h : laidMetH Tryz.prog Rows.moneyPlaysUptoRow.laid W) : (∃ ad, Errs ad W) ∧ Tab10 W ∧ VarR W := by
  rw [MakeChecks.laidMetH_plain _ _ _ (by kernel_rfl), ← rowsP] at h
  exact all_of h
noncomputable def doorP (os : Os) : World := World.laidAll Tryz.prog os Rows.moneyPlaysUptoRow.laid
theorem doorP_met (os : Os) (args : Array Value) : laidMetH Tryz.prog Rows.moneyPlaysUptoRow.laid ((doorP os).forCall (fun _ _ => 0) ⟨#[], args, []⟩).memory := by
  rw [MakeChecks.laidMetH_plain _ _ _ (by kernel_rfl)]
  exact laidMet_laidAll _ (by kernel_rfl) (by kernel_rfl)
end Go.Proofs.YtjjlpjfojgkpkaaGreatDoor
