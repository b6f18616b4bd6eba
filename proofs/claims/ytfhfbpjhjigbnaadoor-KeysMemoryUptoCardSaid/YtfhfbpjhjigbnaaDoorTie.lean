/-
  DERIVED. GIVEN WITH THE SEED: THE PROGRAM's TIES (one call each: nine closed facts by the kernel) AND EACH ROW's TIE, after the 31st guide's Derived/Test/Toyas{Tie, Card}.lean. No idea stands in it: it is a product of the set-up. Laid BY PROGRAM, IN A SANDBOX (cutbox-door.mjs). By AI agents, Wed Nov 11 2026. No macro, syntax, notation, axiom, sorry.
-/
import Derived.Test.YtfhfbpjhjigbnaaDoorRows
import Derived.LaidByTextLater
import Derived.SevenTiedAt
import Derived.LaidSub
import Derived.LaidOnce
namespace Go.Proofs.YtfhfbpjhjigbnaaDoor
open Go
set_option maxRecDepth 100000
theorem seatTie1 : Tryd.prog.laidByTextLater [("unicode/utf8.acceptRanges", Rows.laid_unicode_utf8_acceptRanges), ("remit/api.ErrShort", Rows.laid_remit_api_ErrShort), ("remit/api.ErrVarint", Rows.laid_remit_api_ErrVarint), ("remit/api.ErrLimit", Rows.laid_remit_api_ErrLimit), ("remit/api.ErrOrder", Rows.laid_remit_api_ErrOrder), ("remit/api.ErrTail", Rows.laid_remit_api_ErrTail), ("remit/api.ErrRange", Rows.laid_remit_api_ErrRange), ("remit/api.ErrForm", Rows.laid_remit_api_ErrForm), ("remit/api.ErrDigits", Rows.laid_remit_api_ErrDigits), ("remit/api.ErrAmount", Rows.laid_remit_api_ErrAmount), ("remit/api.ErrOverflow", Rows.laid_remit_api_ErrOverflow), ("remit/api.ErrCurrency", Rows.laid_remit_api_ErrCurrency), ("remit/api.ErrDown", Rows.laid_remit_api_ErrDown), ("remit/api.ErrSmall", Rows.laid_remit_api_ErrSmall), ("remit/api.ErrBlank", Rows.laid_remit_api_ErrBlank), ("remit/api.ErrCorrupt", Rows.laid_remit_api_ErrCorrupt), ("remit/api.ErrWorn", Rows.laid_remit_api_ErrWorn), ("remit/api.ErrFull", Rows.laid_remit_api_ErrFull), ("remit/api.ErrLarge", Rows.laid_remit_api_ErrLarge), ("remit/api.ErrClosed", Rows.laid_remit_api_ErrClosed), ("remit/api.ErrAccount", Rows.laid_remit_api_ErrAccount), ("remit/api.ErrExists", Rows.laid_remit_api_ErrExists), ("remit/api.ErrFrozen", Rows.laid_remit_api_ErrFrozen), ("remit/api.ErrFunds", Rows.laid_remit_api_ErrFunds), ("remit/api.ErrLegs", Rows.laid_remit_api_ErrLegs), ("remit/api.ErrConflict", Rows.laid_remit_api_ErrConflict), ("remit/api.ErrId", Rows.laid_remit_api_ErrId), ("remit/api.ErrPayee", Rows.laid_remit_api_ErrPayee), ("remit/api.ErrRail", Rows.laid_remit_api_ErrRail), ("remit/api.ErrBusy", Rows.laid_remit_api_ErrBusy), ("remit/api.ErrWindow", Rows.laid_remit_api_ErrWindow), ("remit/api.ErrPhase", Rows.laid_remit_api_ErrPhase), ("remit/api.ErrToken", Rows.laid_remit_api_ErrToken), ("remit/api.ErrTime", Rows.laid_remit_api_ErrTime), ("remit/api.ErrUnknown", Rows.laid_remit_api_ErrUnknown), ("remit/api.ErrConfig", Rows.laid_remit_api_ErrConfig), ("remit/api.ErrCommand", Rows.laid_remit_api_ErrCommand), ("remit/api.ErrUse", Rows.laid_remit_api_ErrUse)] [.data, .sentinel, .sentinel, .sentinel, .sentinel, .sentinel, .sentinel, .sentinel, .sentinel, .sentinel, .sentinel, .sentinel, .sentinel, .sentinel, .sentinel, .sentinel, .sentinel, .sentinel, .sentinel, .sentinel, .sentinel, .sentinel, .sentinel, .sentinel, .sentinel, .sentinel, .sentinel, .sentinel, .sentinel, .sentinel, .sentinel, .sentinel, .sentinel, .sentinel, .sentinel, .sentinel, .sentinel, .sentinel] true :=
  Program.laidByTextLater_by_one 722 8 33 (by kernel_rfl) (by kernel_rfl) (by kernel_rfl) (by kernel_rfl) (by kernel_rfl) (by kernel_rfl) (fun _ _ => by kernel_rfl)
theorem pin_laid_unicode_utf8_first : Tryd.pinned.checked.prog.pinnedFits "unicode/utf8.first" = true := by kernel_rfl
theorem noOwnUnsafe : Tryd.pinned.checked.prog.headLifts.contains "ownunsafe" = false := by kernel_rfl
theorem fits1 : Tryd.pinned.checked.prog.listedFits [("unicode/utf8.acceptRanges", Rows.laid_unicode_utf8_acceptRanges), ("unicode/utf8.first", Rows.laid_unicode_utf8_first)] = true := by
  unfold Program.listedFits
  rw [noOwnUnsafe]
  kernel_rfl
theorem tie : Tryd.prog.laidByTextLater [("unicode/utf8.acceptRanges", Rows.laid_unicode_utf8_acceptRanges)] [.data] true :=
  Program.laidByTextLater.sub seatTie1 ["unicode/utf8.acceptRanges"] (by kernel_rfl) (by kernel_rfl)
theorem keysJoins_row_tie : Rows.keysJoinsRow.laidByTextAt .later Tryd.pinned [.data, .pinned] true :=
  OpenClaim.laidByTextAt_pinned rfl rfl tie rfl rfl rfl rfl (fun y hy _e => by
    simp only [Rows.keysJoinsRow, List.zip_cons_cons, List.zip_nil_right, List.mem_cons, List.mem_nil_iff, or_false] at hy
    rcases hy with rfl | rfl
    · cases _e
    · exact ⟨pin_laid_unicode_utf8_first, by kernel_rfl⟩) fits1
theorem keysOrder_row_tie : Rows.keysOrderRow.laidByTextAt .later Tryd.pinned [.data, .pinned] true :=
  OpenClaim.laidByTextAt_pinned rfl rfl tie rfl rfl rfl rfl (fun y hy _e => by
    simp only [Rows.keysOrderRow, List.zip_cons_cons, List.zip_nil_right, List.mem_cons, List.mem_nil_iff, or_false] at hy
    rcases hy with rfl | rfl
    · cases _e
    · exact ⟨pin_laid_unicode_utf8_first, by kernel_rfl⟩) fits1
theorem keysHeads_row_tie : Rows.keysHeadsRow.laidByTextAt .later Tryd.pinned [.data, .pinned] true :=
  OpenClaim.laidByTextAt_pinned rfl rfl tie rfl rfl rfl rfl (fun y hy _e => by
    simp only [Rows.keysHeadsRow, List.zip_cons_cons, List.zip_nil_right, List.mem_cons, List.mem_nil_iff, or_false] at hy
    rcases hy with rfl | rfl
    · cases _e
    · exact ⟨pin_laid_unicode_utf8_first, by kernel_rfl⟩) fits1
theorem fits2 : Tryd.pinned.checked.prog.listedFits [("unicode/utf8.acceptRanges", Rows.laid_unicode_utf8_acceptRanges), ("remit/api.ErrShort", Rows.laid_remit_api_ErrShort), ("remit/api.ErrVarint", Rows.laid_remit_api_ErrVarint), ("remit/api.ErrLimit", Rows.laid_remit_api_ErrLimit), ("remit/api.ErrOrder", Rows.laid_remit_api_ErrOrder), ("remit/api.ErrTail", Rows.laid_remit_api_ErrTail), ("remit/api.ErrRange", Rows.laid_remit_api_ErrRange), ("remit/api.ErrForm", Rows.laid_remit_api_ErrForm), ("remit/api.ErrDigits", Rows.laid_remit_api_ErrDigits), ("remit/api.ErrAmount", Rows.laid_remit_api_ErrAmount), ("remit/api.ErrOverflow", Rows.laid_remit_api_ErrOverflow), ("remit/api.ErrCurrency", Rows.laid_remit_api_ErrCurrency), ("remit/api.ErrDown", Rows.laid_remit_api_ErrDown), ("remit/api.ErrSmall", Rows.laid_remit_api_ErrSmall), ("remit/api.ErrBlank", Rows.laid_remit_api_ErrBlank), ("remit/api.ErrCorrupt", Rows.laid_remit_api_ErrCorrupt), ("remit/api.ErrWorn", Rows.laid_remit_api_ErrWorn), ("remit/api.ErrFull", Rows.laid_remit_api_ErrFull), ("remit/api.ErrLarge", Rows.laid_remit_api_ErrLarge), ("remit/api.ErrClosed", Rows.laid_remit_api_ErrClosed), ("remit/api.ErrAccount", Rows.laid_remit_api_ErrAccount), ("remit/api.ErrExists", Rows.laid_remit_api_ErrExists), ("remit/api.ErrFrozen", Rows.laid_remit_api_ErrFrozen), ("remit/api.ErrFunds", Rows.laid_remit_api_ErrFunds), ("remit/api.ErrLegs", Rows.laid_remit_api_ErrLegs), ("remit/api.ErrConflict", Rows.laid_remit_api_ErrConflict), ("remit/api.ErrId", Rows.laid_remit_api_ErrId), ("remit/api.ErrPayee", Rows.laid_remit_api_ErrPayee), ("remit/api.ErrRail", Rows.laid_remit_api_ErrRail), ("remit/api.ErrBusy", Rows.laid_remit_api_ErrBusy), ("remit/api.ErrWindow", Rows.laid_remit_api_ErrWindow), ("remit/api.ErrPhase", Rows.laid_remit_api_ErrPhase), ("remit/api.ErrToken", Rows.laid_remit_api_ErrToken), ("remit/api.ErrTime", Rows.laid_remit_api_ErrTime), ("remit/api.ErrUnknown", Rows.laid_remit_api_ErrUnknown), ("remit/api.ErrConfig", Rows.laid_remit_api_ErrConfig), ("remit/api.ErrCommand", Rows.laid_remit_api_ErrCommand), ("remit/api.ErrUse", Rows.laid_remit_api_ErrUse), ("unicode/utf8.first", Rows.laid_unicode_utf8_first)] = true := by
  unfold Program.listedFits
  rw [noOwnUnsafe]
  kernel_rfl
theorem tie2 : Tryd.prog.laidByTextLater [("unicode/utf8.acceptRanges", Rows.laid_unicode_utf8_acceptRanges), ("remit/api.ErrShort", Rows.laid_remit_api_ErrShort), ("remit/api.ErrVarint", Rows.laid_remit_api_ErrVarint), ("remit/api.ErrLimit", Rows.laid_remit_api_ErrLimit), ("remit/api.ErrOrder", Rows.laid_remit_api_ErrOrder), ("remit/api.ErrTail", Rows.laid_remit_api_ErrTail), ("remit/api.ErrRange", Rows.laid_remit_api_ErrRange), ("remit/api.ErrForm", Rows.laid_remit_api_ErrForm), ("remit/api.ErrDigits", Rows.laid_remit_api_ErrDigits), ("remit/api.ErrAmount", Rows.laid_remit_api_ErrAmount), ("remit/api.ErrOverflow", Rows.laid_remit_api_ErrOverflow), ("remit/api.ErrCurrency", Rows.laid_remit_api_ErrCurrency), ("remit/api.ErrDown", Rows.laid_remit_api_ErrDown), ("remit/api.ErrSmall", Rows.laid_remit_api_ErrSmall), ("remit/api.ErrBlank", Rows.laid_remit_api_ErrBlank), ("remit/api.ErrCorrupt", Rows.laid_remit_api_ErrCorrupt), ("remit/api.ErrWorn", Rows.laid_remit_api_ErrWorn), ("remit/api.ErrFull", Rows.laid_remit_api_ErrFull), ("remit/api.ErrLarge", Rows.laid_remit_api_ErrLarge), ("remit/api.ErrClosed", Rows.laid_remit_api_ErrClosed), ("remit/api.ErrAccount", Rows.laid_remit_api_ErrAccount), ("remit/api.ErrExists", Rows.laid_remit_api_ErrExists), ("remit/api.ErrFrozen", Rows.laid_remit_api_ErrFrozen), ("remit/api.ErrFunds", Rows.laid_remit_api_ErrFunds), ("remit/api.ErrLegs", Rows.laid_remit_api_ErrLegs), ("remit/api.ErrConflict", Rows.laid_remit_api_ErrConflict), ("remit/api.ErrId", Rows.laid_remit_api_ErrId), ("remit/api.ErrPayee", Rows.laid_remit_api_ErrPayee), ("remit/api.ErrRail", Rows.laid_remit_api_ErrRail), ("remit/api.ErrBusy", Rows.laid_remit_api_ErrBusy), ("remit/api.ErrWindow", Rows.laid_remit_api_ErrWindow), ("remit/api.ErrPhase", Rows.laid_remit_api_ErrPhase), ("remit/api.ErrToken", Rows.laid_remit_api_ErrToken), ("remit/api.ErrTime", Rows.laid_remit_api_ErrTime), ("remit/api.ErrUnknown", Rows.laid_remit_api_ErrUnknown), ("remit/api.ErrConfig", Rows.laid_remit_api_ErrConfig), ("remit/api.ErrCommand", Rows.laid_remit_api_ErrCommand), ("remit/api.ErrUse", Rows.laid_remit_api_ErrUse)] [.data, .sentinel, .sentinel, .sentinel, .sentinel, .sentinel, .sentinel, .sentinel, .sentinel, .sentinel, .sentinel, .sentinel, .sentinel, .sentinel, .sentinel, .sentinel, .sentinel, .sentinel, .sentinel, .sentinel, .sentinel, .sentinel, .sentinel, .sentinel, .sentinel, .sentinel, .sentinel, .sentinel, .sentinel, .sentinel, .sentinel, .sentinel, .sentinel, .sentinel, .sentinel, .sentinel, .sentinel, .sentinel] true :=
  Program.laidByTextLater.sub seatTie1 ["unicode/utf8.acceptRanges", "remit/api.ErrShort", "remit/api.ErrVarint", "remit/api.ErrLimit", "remit/api.ErrOrder", "remit/api.ErrTail", "remit/api.ErrRange", "remit/api.ErrForm", "remit/api.ErrDigits", "remit/api.ErrAmount", "remit/api.ErrOverflow", "remit/api.ErrCurrency", "remit/api.ErrDown", "remit/api.ErrSmall", "remit/api.ErrBlank", "remit/api.ErrCorrupt", "remit/api.ErrWorn", "remit/api.ErrFull", "remit/api.ErrLarge", "remit/api.ErrClosed", "remit/api.ErrAccount", "remit/api.ErrExists", "remit/api.ErrFrozen", "remit/api.ErrFunds", "remit/api.ErrLegs", "remit/api.ErrConflict", "remit/api.ErrId", "remit/api.ErrPayee", "remit/api.ErrRail", "remit/api.ErrBusy", "remit/api.ErrWindow", "remit/api.ErrPhase", "remit/api.ErrToken", "remit/api.ErrTime", "remit/api.ErrUnknown", "remit/api.ErrConfig", "remit/api.ErrCommand", "remit/api.ErrUse"] (by kernel_rfl) (by kernel_rfl)
theorem keysSplits_row_tie : Rows.keysSplitsRow.laidByTextAt .later Tryd.pinned [.data, .sentinel, .sentinel, .sentinel, .sentinel, .sentinel, .sentinel, .sentinel, .sentinel, .sentinel, .sentinel, .sentinel, .sentinel, .sentinel, .sentinel, .sentinel, .sentinel, .sentinel, .sentinel, .sentinel, .sentinel, .sentinel, .sentinel, .sentinel, .sentinel, .sentinel, .sentinel, .sentinel, .sentinel, .sentinel, .sentinel, .sentinel, .sentinel, .sentinel, .sentinel, .sentinel, .sentinel, .sentinel, .pinned] true :=
  OpenClaim.laidByTextAt_pinned rfl rfl tie2 rfl rfl rfl rfl (fun y hy _e => by
    simp only [Rows.keysSplitsRow, List.zip_cons_cons, List.zip_nil_right, List.mem_cons, List.mem_nil_iff, or_false] at hy
    rcases hy with rfl | rfl | rfl | rfl | rfl | rfl | rfl | rfl | rfl | rfl | rfl | rfl | rfl | rfl | rfl | rfl | rfl | rfl | rfl | rfl | rfl | rfl | rfl | rfl | rfl | rfl | rfl | rfl | rfl | rfl | rfl | rfl | rfl | rfl | rfl | rfl | rfl | rfl | rfl
    · cases _e
    · cases _e
    · cases _e
    · cases _e
    · cases _e
    · cases _e
    · cases _e
    · cases _e
    · cases _e
    · cases _e
    · cases _e
    · cases _e
    · cases _e
    · cases _e
    · cases _e
    · cases _e
    · cases _e
    · cases _e
    · cases _e
    · cases _e
    · cases _e
    · cases _e
    · cases _e
    · cases _e
    · cases _e
    · cases _e
    · cases _e
    · cases _e
    · cases _e
    · cases _e
    · cases _e
    · cases _e
    · cases _e
    · cases _e
    · cases _e
    · cases _e
    · cases _e
    · cases _e
    · exact ⟨pin_laid_unicode_utf8_first, by kernel_rfl⟩) fits2
theorem fits3 : Tryd.pinned.checked.prog.listedFits [("unicode/utf8.acceptRanges", Rows.laid_unicode_utf8_acceptRanges), ("remit/api.ErrForm", Rows.laid_remit_api_ErrForm), ("unicode/utf8.first", Rows.laid_unicode_utf8_first)] = true := by
  unfold Program.listedFits
  rw [noOwnUnsafe]
  kernel_rfl
theorem tie3 : Tryd.prog.laidByTextLater [("unicode/utf8.acceptRanges", Rows.laid_unicode_utf8_acceptRanges), ("remit/api.ErrForm", Rows.laid_remit_api_ErrForm)] [.data, .sentinel] true :=
  Program.laidByTextLater.sub seatTie1 ["unicode/utf8.acceptRanges", "remit/api.ErrForm"] (by kernel_rfl) (by kernel_rfl)
theorem keysBack_row_tie : Rows.keysBackRow.laidByTextAt .later Tryd.pinned [.data, .sentinel, .pinned] true :=
  OpenClaim.laidByTextAt_pinned rfl rfl tie3 rfl rfl rfl rfl (fun y hy _e => by
    simp only [Rows.keysBackRow, List.zip_cons_cons, List.zip_nil_right, List.mem_cons, List.mem_nil_iff, or_false] at hy
    rcases hy with rfl | rfl | rfl
    · cases _e
    · cases _e
    · exact ⟨pin_laid_unicode_utf8_first, by kernel_rfl⟩) fits3
theorem keysMemory_row_tie : Rows.keysMemoryRow.laidByTextAt .later Tryd.pinned [.data, .sentinel, .pinned] true :=
  OpenClaim.laidByTextAt_pinned rfl rfl tie3 rfl rfl rfl rfl (fun y hy _e => by
    simp only [Rows.keysMemoryRow, List.zip_cons_cons, List.zip_nil_right, List.mem_cons, List.mem_nil_iff, or_false] at hy
    rcases hy with rfl | rfl | rfl
    · cases _e
    · cases _e
    · exact ⟨pin_laid_unicode_utf8_first, by kernel_rfl⟩) fits3
theorem keysJoinsUpto_row_tie : Rows.keysJoinsUptoRow.laidByTextAt .later Tryd.pinned [.data, .pinned] true :=
  OpenClaim.laidByTextAt_pinned rfl rfl tie rfl rfl rfl rfl (fun y hy _e => by
    simp only [Rows.keysJoinsUptoRow, List.zip_cons_cons, List.zip_nil_right, List.mem_cons, List.mem_nil_iff, or_false] at hy
    rcases hy with rfl | rfl
    · cases _e
    · exact ⟨pin_laid_unicode_utf8_first, by kernel_rfl⟩) fits1
theorem keysSplitsUpto_row_tie : Rows.keysSplitsUptoRow.laidByTextAt .later Tryd.pinned [.data, .sentinel, .sentinel, .sentinel, .sentinel, .sentinel, .sentinel, .sentinel, .sentinel, .sentinel, .sentinel, .sentinel, .sentinel, .sentinel, .sentinel, .sentinel, .sentinel, .sentinel, .sentinel, .sentinel, .sentinel, .sentinel, .sentinel, .sentinel, .sentinel, .sentinel, .sentinel, .sentinel, .sentinel, .sentinel, .sentinel, .sentinel, .sentinel, .sentinel, .sentinel, .sentinel, .sentinel, .sentinel, .pinned] true :=
  OpenClaim.laidByTextAt_pinned rfl rfl tie2 rfl rfl rfl rfl (fun y hy _e => by
    simp only [Rows.keysSplitsUptoRow, List.zip_cons_cons, List.zip_nil_right, List.mem_cons, List.mem_nil_iff, or_false] at hy
    rcases hy with rfl | rfl | rfl | rfl | rfl | rfl | rfl | rfl | rfl | rfl | rfl | rfl | rfl | rfl | rfl | rfl | rfl | rfl | rfl | rfl | rfl | rfl | rfl | rfl | rfl | rfl | rfl | rfl | rfl | rfl | rfl | rfl | rfl | rfl | rfl | rfl | rfl | rfl | rfl
    · cases _e
    · cases _e
    · cases _e
    · cases _e
    · cases _e
    · cases _e
    · cases _e
    · cases _e
    · cases _e
    · cases _e
    · cases _e
    · cases _e
    · cases _e
    · cases _e
    · cases _e
    · cases _e
    · cases _e
    · cases _e
    · cases _e
    · cases _e
    · cases _e
    · cases _e
    · cases _e
    · cases _e
    · cases _e
    · cases _e
    · cases _e
    · cases _e
    · cases _e
    · cases _e
    · cases _e
    · cases _e
    · cases _e
    · cases _e
    · cases _e
    · cases _e
    · cases _e
    · cases _e
    · exact ⟨pin_laid_unicode_utf8_first, by kernel_rfl⟩) fits2
theorem keysOrderUpto_row_tie : Rows.keysOrderUptoRow.laidByTextAt .later Tryd.pinned [.data, .pinned] true :=
  OpenClaim.laidByTextAt_pinned rfl rfl tie rfl rfl rfl rfl (fun y hy _e => by
    simp only [Rows.keysOrderUptoRow, List.zip_cons_cons, List.zip_nil_right, List.mem_cons, List.mem_nil_iff, or_false] at hy
    rcases hy with rfl | rfl
    · cases _e
    · exact ⟨pin_laid_unicode_utf8_first, by kernel_rfl⟩) fits1
theorem keysBackUpto_row_tie : Rows.keysBackUptoRow.laidByTextAt .later Tryd.pinned [.data, .sentinel, .pinned] true :=
  OpenClaim.laidByTextAt_pinned rfl rfl tie3 rfl rfl rfl rfl (fun y hy _e => by
    simp only [Rows.keysBackUptoRow, List.zip_cons_cons, List.zip_nil_right, List.mem_cons, List.mem_nil_iff, or_false] at hy
    rcases hy with rfl | rfl | rfl
    · cases _e
    · cases _e
    · exact ⟨pin_laid_unicode_utf8_first, by kernel_rfl⟩) fits3
theorem keysHeadsUpto_row_tie : Rows.keysHeadsUptoRow.laidByTextAt .later Tryd.pinned [.data, .pinned] true :=
  OpenClaim.laidByTextAt_pinned rfl rfl tie rfl rfl rfl rfl (fun y hy _e => by
    simp only [Rows.keysHeadsUptoRow, List.zip_cons_cons, List.zip_nil_right, List.mem_cons, List.mem_nil_iff, or_false] at hy
    rcases hy with rfl | rfl
    · cases _e
    · exact ⟨pin_laid_unicode_utf8_first, by kernel_rfl⟩) fits1
theorem keysMemoryUpto_row_tie : Rows.keysMemoryUptoRow.laidByTextAt .later Tryd.pinned [.data, .sentinel, .pinned] true :=
  OpenClaim.laidByTextAt_pinned rfl rfl tie3 rfl rfl rfl rfl (fun y hy _e => by
    simp only [Rows.keysMemoryUptoRow, List.zip_cons_cons, List.zip_nil_right, List.mem_cons, List.mem_nil_iff, or_false] at hy
    rcases hy with rfl | rfl | rfl
    · cases _e
    · cases _e
    · exact ⟨pin_laid_unicode_utf8_first, by kernel_rfl⟩) fits3
end Go.Proofs.YtfhfbpjhjigbnaaDoor
