/-
  DERIVED. GIVEN WITH THE SEED: THE CARDS: each row of YtkmemjljoeokhaaDoorRows.lean that lists a variable, with what it lists TIED to the program's text (the seventh form; the later family's looks); each row that meets fmt, with fmt's text TOLD by the authors' own Lean function (tested against real Go, not proved from fmt's source: count such statements apart). THE CARD IS WHAT COUNTS. Prove the row's statement (the work); the ties are given (YtkmemjljoeokhaaDoorTie.lean); close each card by the builder's one call (the guide's Derived/Test/ToyasCard.lean, 'card_holds'). Laid BY PROGRAM, IN A SANDBOX (cutbox-door.mjs). By AI agents, Wed Nov 11 2026. No macro, syntax, notation, axiom, sorry.
-/
import Derived.Test.YtkmemjljoeokhaaDoorRows
import GoSem.ClaimSeven
namespace Go.Proofs.YtkmemjljoeokhaaDoor
namespace Rows

/-- THE TIED CARD OF 'remitlaw03.ChecksSums'. -/
def checksSumsCard : Claim7 := { stood := { row := checksSumsRow, standIns := [], harness := (true, "5f5d2357cc82d53ec26a779a9f78ed48ab9b3be8efa37debc1cc2cf2cf9df496"), looks := true }, kinds := [], alts := [], laidByText := true, laidKinds := [.sentinel, .data], laidTests := true, laidLooks := .later }
def ChecksSumsCardSaid : Prop := Claim7.holds Tryd.pinned (.plain (OpenSpec.ofChange checksSumsSpec)) checksSumsCard

/-- THE TIED CARD OF 'remitlaw03.ChecksBursts'. -/
def checksBurstsCard : Claim7 := { stood := { row := checksBurstsRow, standIns := [], harness := (true, "5f5d2357cc82d53ec26a779a9f78ed48ab9b3be8efa37debc1cc2cf2cf9df496"), looks := true }, kinds := [], alts := [], laidByText := true, laidKinds := [.sentinel, .data], laidTests := true, laidLooks := .later }
def ChecksBurstsCardSaid : Prop := Claim7.holds Tryd.pinned (.plain (OpenSpec.ofChange checksBurstsSpec)) checksBurstsCard

/-- THE TIED CARD OF 'remitlaw03.ChecksRests'. -/
def checksRestsCard : Claim7 := { stood := { row := checksRestsRow, standIns := [], harness := (true, "5f5d2357cc82d53ec26a779a9f78ed48ab9b3be8efa37debc1cc2cf2cf9df496"), looks := true }, kinds := [], alts := [], laidByText := true, laidKinds := [.sentinel, .sentinel, .sentinel, .sentinel, .sentinel, .sentinel, .sentinel, .sentinel, .sentinel, .sentinel, .sentinel, .sentinel, .sentinel, .sentinel, .sentinel, .sentinel, .sentinel, .sentinel, .sentinel, .sentinel, .sentinel, .sentinel, .sentinel, .sentinel, .sentinel, .sentinel, .sentinel, .sentinel, .sentinel, .sentinel, .sentinel, .sentinel, .sentinel, .sentinel, .sentinel, .sentinel, .sentinel, .data], laidTests := true, laidLooks := .later }
def ChecksRestsCardSaid : Prop := Claim7.holds Tryd.pinned (.plain (OpenSpec.ofChange checksRestsSpec)) checksRestsCard

/-- THE TIED CARD OF 'remitlaw03.ChecksFits'. -/
def checksFitsCard : Claim7 := { stood := { row := checksFitsRow, standIns := [], harness := (true, "5f5d2357cc82d53ec26a779a9f78ed48ab9b3be8efa37debc1cc2cf2cf9df496"), looks := true }, kinds := [], alts := [], laidByText := true, laidKinds := [.sentinel, .sentinel, .sentinel, .sentinel, .sentinel, .sentinel, .sentinel, .sentinel, .sentinel, .sentinel, .sentinel, .sentinel, .sentinel, .sentinel, .sentinel, .sentinel, .sentinel, .sentinel, .sentinel, .sentinel, .sentinel, .sentinel, .sentinel, .sentinel, .sentinel, .sentinel, .sentinel, .sentinel, .sentinel, .sentinel, .sentinel, .sentinel, .sentinel, .sentinel, .sentinel, .sentinel, .sentinel, .data], laidTests := true, laidLooks := .later }
def ChecksFitsCardSaid : Prop := Claim7.holds Tryd.pinned (.plain (OpenSpec.ofChange checksFitsSpec)) checksFitsCard

/-- THE TIED CARD OF 'remitlaw03.ChecksSlips'. -/
def checksSlipsCard : Claim7 := { stood := { row := checksSlipsRow, standIns := [], harness := (true, "5f5d2357cc82d53ec26a779a9f78ed48ab9b3be8efa37debc1cc2cf2cf9df496"), looks := true }, kinds := [], alts := [], laidByText := true, laidKinds := [.sentinel, .data], laidTests := true, laidLooks := .later }
def ChecksSlipsCardSaid : Prop := Claim7.holds Tryd.pinned (.plain (OpenSpec.ofChange checksSlipsSpec)) checksSlipsCard

/-- THE TIED CARD OF 'remitlaw03.ChecksLuhn'. -/
def checksLuhnCard : Claim7 := { stood := { row := checksLuhnRow, standIns := [], harness := (true, "5f5d2357cc82d53ec26a779a9f78ed48ab9b3be8efa37debc1cc2cf2cf9df496"), looks := true }, kinds := [], alts := [], laidByText := true, laidKinds := [.sentinel, .sentinel, .sentinel, .sentinel, .sentinel, .sentinel, .sentinel, .sentinel, .sentinel, .sentinel, .sentinel, .sentinel, .sentinel, .sentinel, .sentinel, .sentinel, .sentinel, .sentinel, .sentinel, .sentinel, .sentinel, .sentinel, .sentinel, .sentinel, .sentinel, .sentinel, .sentinel, .sentinel, .sentinel, .sentinel, .sentinel, .sentinel, .sentinel, .sentinel, .sentinel, .sentinel, .sentinel, .data], laidTests := true, laidLooks := .later }
def ChecksLuhnCardSaid : Prop := Claim7.holds Tryd.pinned (.plain (OpenSpec.ofChange checksLuhnSpec)) checksLuhnCard

/-- THE SECOND FORM's CARD OF 'remitlaw03.ChecksSums'. -/
def checksSumsUptoCard : Claim7 := { stood := { row := checksSumsUptoRow, standIns := [], harness := (true, "5f5d2357cc82d53ec26a779a9f78ed48ab9b3be8efa37debc1cc2cf2cf9df496"), looks := true }, kinds := [], alts := [], laidByText := true, laidKinds := [.sentinel, .data], laidTests := true, laidLooks := .later }
def ChecksSumsUptoCardSaid : Prop := Claim7.holds Tryd.pinned (.plain (OpenSpec.upto checksSumsSpec)) checksSumsUptoCard

/-- THE SECOND FORM's CARD OF 'remitlaw03.ChecksBursts'. -/
def checksBurstsUptoCard : Claim7 := { stood := { row := checksBurstsUptoRow, standIns := [], harness := (true, "5f5d2357cc82d53ec26a779a9f78ed48ab9b3be8efa37debc1cc2cf2cf9df496"), looks := true }, kinds := [], alts := [], laidByText := true, laidKinds := [.sentinel, .data], laidTests := true, laidLooks := .later }
def ChecksBurstsUptoCardSaid : Prop := Claim7.holds Tryd.pinned (.plain (OpenSpec.upto checksBurstsSpec)) checksBurstsUptoCard

/-- THE SECOND FORM's CARD OF 'remitlaw03.ChecksRests'. -/
def checksRestsUptoCard : Claim7 := { stood := { row := checksRestsUptoRow, standIns := [], harness := (true, "5f5d2357cc82d53ec26a779a9f78ed48ab9b3be8efa37debc1cc2cf2cf9df496"), looks := true }, kinds := [], alts := [], laidByText := true, laidKinds := [.sentinel, .sentinel, .sentinel, .sentinel, .sentinel, .sentinel, .sentinel, .sentinel, .sentinel, .sentinel, .sentinel, .sentinel, .sentinel, .sentinel, .sentinel, .sentinel, .sentinel, .sentinel, .sentinel, .sentinel, .sentinel, .sentinel, .sentinel, .sentinel, .sentinel, .sentinel, .sentinel, .sentinel, .sentinel, .sentinel, .sentinel, .sentinel, .sentinel, .sentinel, .sentinel, .sentinel, .sentinel, .data], laidTests := true, laidLooks := .later }
def ChecksRestsUptoCardSaid : Prop := Claim7.holds Tryd.pinned (.plain (OpenSpec.upto checksRestsSpec)) checksRestsUptoCard

/-- THE SECOND FORM's CARD OF 'remitlaw03.ChecksFits'. -/
def checksFitsUptoCard : Claim7 := { stood := { row := checksFitsUptoRow, standIns := [], harness := (true, "5f5d2357cc82d53ec26a779a9f78ed48ab9b3be8efa37debc1cc2cf2cf9df496"), looks := true }, kinds := [], alts := [], laidByText := true, laidKinds := [.sentinel, .sentinel, .sentinel, .sentinel, .sentinel, .sentinel, .sentinel, .sentinel, .sentinel, .sentinel, .sentinel, .sentinel, .sentinel, .sentinel, .sentinel, .sentinel, .sentinel, .sentinel, .sentinel, .sentinel, .sentinel, .sentinel, .sentinel, .sentinel, .sentinel, .sentinel, .sentinel, .sentinel, .sentinel, .sentinel, .sentinel, .sentinel, .sentinel, .sentinel, .sentinel, .sentinel, .sentinel, .data], laidTests := true, laidLooks := .later }
def ChecksFitsUptoCardSaid : Prop := Claim7.holds Tryd.pinned (.plain (OpenSpec.upto checksFitsSpec)) checksFitsUptoCard

/-- THE SECOND FORM's CARD OF 'remitlaw03.ChecksSlips'. -/
def checksSlipsUptoCard : Claim7 := { stood := { row := checksSlipsUptoRow, standIns := [], harness := (true, "5f5d2357cc82d53ec26a779a9f78ed48ab9b3be8efa37debc1cc2cf2cf9df496"), looks := true }, kinds := [], alts := [], laidByText := true, laidKinds := [.sentinel, .data], laidTests := true, laidLooks := .later }
def ChecksSlipsUptoCardSaid : Prop := Claim7.holds Tryd.pinned (.plain (OpenSpec.upto checksSlipsSpec)) checksSlipsUptoCard

/-- THE SECOND FORM's CARD OF 'remitlaw03.ChecksLuhn'. -/
def checksLuhnUptoCard : Claim7 := { stood := { row := checksLuhnUptoRow, standIns := [], harness := (true, "5f5d2357cc82d53ec26a779a9f78ed48ab9b3be8efa37debc1cc2cf2cf9df496"), looks := true }, kinds := [], alts := [], laidByText := true, laidKinds := [.sentinel, .sentinel, .sentinel, .sentinel, .sentinel, .sentinel, .sentinel, .sentinel, .sentinel, .sentinel, .sentinel, .sentinel, .sentinel, .sentinel, .sentinel, .sentinel, .sentinel, .sentinel, .sentinel, .sentinel, .sentinel, .sentinel, .sentinel, .sentinel, .sentinel, .sentinel, .sentinel, .sentinel, .sentinel, .sentinel, .sentinel, .sentinel, .sentinel, .sentinel, .sentinel, .sentinel, .sentinel, .data], laidTests := true, laidLooks := .later }
def ChecksLuhnUptoCardSaid : Prop := Claim7.holds Tryd.pinned (.plain (OpenSpec.upto checksLuhnSpec)) checksLuhnUptoCard
end Rows
end Go.Proofs.YtkmemjljoeokhaaDoor
