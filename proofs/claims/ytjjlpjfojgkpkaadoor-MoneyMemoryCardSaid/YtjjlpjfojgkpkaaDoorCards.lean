/-
  DERIVED. GIVEN WITH THE SEED: THE CARDS: each row of YtjjlpjfojgkpkaaDoorRows.lean that lists a variable, with what it lists TIED to the program's text (the seventh form; the later family's looks); each row that meets fmt, with fmt's text TOLD by the authors' own Lean function (tested against real Go, not proved from fmt's source: count such statements apart). THE CARD IS WHAT COUNTS. Prove the row's statement (the work); the ties are given (YtjjlpjfojgkpkaaDoorTie.lean); close each card by the builder's one call (the guide's Derived/Test/ToyasCard.lean, 'card_holds'). Laid BY PROGRAM, IN A SANDBOX (cutbox-door.mjs). By AI agents, Wed Nov 11 2026. No macro, syntax, notation, axiom, sorry.
-/
import Derived.Test.YtjjlpjfojgkpkaaDoorRows
import GoSem.ClaimSeven
namespace Go.Proofs.YtjjlpjfojgkpkaaDoor
namespace Rows

/-- THE TIED CARD OF 'remitlaw04.MoneyMemory'. -/
def moneyMemoryCard : Claim7 := { stood := { row := moneyMemoryRow, standIns := [], harness := (true, "8994ee537e7ba4b1ed25b2c1fa12bd63f88ea837ccebcfdce5c745d99e7ac811"), looks := true }, kinds := [], alts := [], laidByText := true, laidKinds := [.data, .data, .data, .sentinel, .sentinel, .sentinel, .sentinel, .sentinel, .sentinel, .sentinel, .sentinel, .sentinel, .sentinel, .sentinel, .sentinel, .sentinel, .sentinel, .sentinel, .sentinel, .sentinel, .sentinel, .sentinel, .sentinel, .sentinel, .sentinel, .sentinel, .sentinel, .sentinel, .sentinel, .sentinel, .sentinel, .sentinel, .sentinel, .sentinel, .sentinel, .sentinel, .sentinel, .sentinel, .sentinel, .sentinel], laidTests := true, laidLooks := .later }
def MoneyMemoryCardSaid : Prop := Claim7.holds Tryd.pinned (.plain (OpenSpec.ofChange moneyMemorySpec)) moneyMemoryCard

/-- THE SECOND FORM's CARD OF 'remitlaw04.MoneyMemory'. -/
def moneyMemoryUptoCard : Claim7 := { stood := { row := moneyMemoryUptoRow, standIns := [], harness := (true, "8994ee537e7ba4b1ed25b2c1fa12bd63f88ea837ccebcfdce5c745d99e7ac811"), looks := true }, kinds := [], alts := [], laidByText := true, laidKinds := [.data, .data, .data, .sentinel, .sentinel, .sentinel, .sentinel, .sentinel, .sentinel, .sentinel, .sentinel, .sentinel, .sentinel, .sentinel, .sentinel, .sentinel, .sentinel, .sentinel, .sentinel, .sentinel, .sentinel, .sentinel, .sentinel, .sentinel, .sentinel, .sentinel, .sentinel, .sentinel, .sentinel, .sentinel, .sentinel, .sentinel, .sentinel, .sentinel, .sentinel, .sentinel, .sentinel, .sentinel, .sentinel, .sentinel], laidTests := true, laidLooks := .later }
def MoneyMemoryUptoCardSaid : Prop := Claim7.holds Tryd.pinned (.plain (OpenSpec.upto moneyMemorySpec)) moneyMemoryUptoCard
end Rows
end Go.Proofs.YtjjlpjfojgkpkaaDoor
