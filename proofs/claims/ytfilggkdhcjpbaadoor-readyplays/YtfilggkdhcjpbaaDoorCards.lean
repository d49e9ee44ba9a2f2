/-
  DERIVED. GIVEN WITH THE SEED: THE CARDS: each row of YtfilggkdhcjpbaaDoorRows.lean that lists a variable, with what it lists TIED to the program's text (the seventh form; the later family's looks); each row that meets fmt, with fmt's text TOLD by the authors' own Lean function (tested against real Go, not proved from fmt's source: count such statements apart). THE CARD IS WHAT COUNTS. Prove the row's statement (the work); the ties are given (YtfilggkdhcjpbaaDoorTie.lean); close each card by the builder's one call (the guide's Derived/Test/ToyasCard.lean, 'card_holds'). Laid BY PROGRAM, IN A SANDBOX (cutbox-door.mjs). By AI agents, Wed Nov 11 2026. No macro, syntax, notation, axiom, sorry.
-/
import Derived.Test.YtfilggkdhcjpbaaDoorRows
import GoSem.ClaimSeven
namespace Go.Proofs.YtfilggkdhcjpbaaDoor
namespace Rows

/-- THE TIED CARD OF 'detentlaw9.ReadyPlays'. -/
def readyPlaysCard : Claim7 := { stood := { row := readyPlaysRow, standIns := [], harness := (true, "56ef61586bef6fe5c595b1202d1345f2f5402d1f6a41d988c3b89ee999ec1b78"), looks := false }, kinds := [], alts := [], laidByText := true, laidKinds := [.data], laidTests := true, laidLooks := .later }
def ReadyPlaysCardSaid : Prop := Claim7.holds Tryd.pinned (.plain (OpenSpec.ofChange readyPlaysSpec)) readyPlaysCard

/-- THE TIED CARD OF 'detentlaw9.ReadyTurns'. -/
def readyTurnsCard : Claim7 := { stood := { row := readyTurnsRow, standIns := [], harness := (true, "56ef61586bef6fe5c595b1202d1345f2f5402d1f6a41d988c3b89ee999ec1b78"), looks := false }, kinds := [], alts := [], laidByText := true, laidKinds := [.data], laidTests := true, laidLooks := .later }
def ReadyTurnsCardSaid : Prop := Claim7.holds Tryd.pinned (.plain (OpenSpec.ofChange readyTurnsSpec)) readyTurnsCard

/-- THE TIED CARD OF 'detentlaw9.ReadyFirst'. -/
def readyFirstCard : Claim7 := { stood := { row := readyFirstRow, standIns := [], harness := (true, "56ef61586bef6fe5c595b1202d1345f2f5402d1f6a41d988c3b89ee999ec1b78"), looks := false }, kinds := [], alts := [], laidByText := true, laidKinds := [.data], laidTests := true, laidLooks := .later }
def ReadyFirstCardSaid : Prop := Claim7.holds Tryd.pinned (.plain (OpenSpec.ofChange readyFirstSpec)) readyFirstCard

/-- THE TIED CARD OF 'detentlaw9.ReadyAgain'. -/
def readyAgainCard : Claim7 := { stood := { row := readyAgainRow, standIns := [], harness := (true, "56ef61586bef6fe5c595b1202d1345f2f5402d1f6a41d988c3b89ee999ec1b78"), looks := false }, kinds := [], alts := [], laidByText := true, laidKinds := [.data], laidTests := true, laidLooks := .later }
def ReadyAgainCardSaid : Prop := Claim7.holds Tryd.pinned (.plain (OpenSpec.ofChange readyAgainSpec)) readyAgainCard

/-- THE TIED CARD OF 'detentlaw9.ReadyRefuses'. -/
def readyRefusesCard : Claim7 := { stood := { row := readyRefusesRow, standIns := [], harness := (true, "56ef61586bef6fe5c595b1202d1345f2f5402d1f6a41d988c3b89ee999ec1b78"), looks := false }, kinds := [], alts := [], laidByText := true, laidKinds := [.data], laidTests := true, laidLooks := .later }
def ReadyRefusesCardSaid : Prop := Claim7.holds Tryd.pinned (.plain (OpenSpec.ofChange readyRefusesSpec)) readyRefusesCard

/-- THE SECOND FORM's CARD OF 'detentlaw9.ReadyPlays'. -/
def readyPlaysUptoCard : Claim7 := { stood := { row := readyPlaysUptoRow, standIns := [], harness := (true, "56ef61586bef6fe5c595b1202d1345f2f5402d1f6a41d988c3b89ee999ec1b78"), looks := false }, kinds := [], alts := [], laidByText := true, laidKinds := [.data], laidTests := true, laidLooks := .later }
def ReadyPlaysUptoCardSaid : Prop := Claim7.holds Tryd.pinned (.plain (OpenSpec.upto readyPlaysSpec)) readyPlaysUptoCard

/-- THE SECOND FORM's CARD OF 'detentlaw9.ReadyTurns'. -/
def readyTurnsUptoCard : Claim7 := { stood := { row := readyTurnsUptoRow, standIns := [], harness := (true, "56ef61586bef6fe5c595b1202d1345f2f5402d1f6a41d988c3b89ee999ec1b78"), looks := false }, kinds := [], alts := [], laidByText := true, laidKinds := [.data], laidTests := true, laidLooks := .later }
def ReadyTurnsUptoCardSaid : Prop := Claim7.holds Tryd.pinned (.plain (OpenSpec.upto readyTurnsSpec)) readyTurnsUptoCard

/-- THE SECOND FORM's CARD OF 'detentlaw9.ReadyFirst'. -/
def readyFirstUptoCard : Claim7 := { stood := { row := readyFirstUptoRow, standIns := [], harness := (true, "56ef61586bef6fe5c595b1202d1345f2f5402d1f6a41d988c3b89ee999ec1b78"), looks := false }, kinds := [], alts := [], laidByText := true, laidKinds := [.data], laidTests := true, laidLooks := .later }
def ReadyFirstUptoCardSaid : Prop := Claim7.holds Tryd.pinned (.plain (OpenSpec.upto readyFirstSpec)) readyFirstUptoCard

/-- THE SECOND FORM's CARD OF 'detentlaw9.ReadyAgain'. -/
def readyAgainUptoCard : Claim7 := { stood := { row := readyAgainUptoRow, standIns := [], harness := (true, "56ef61586bef6fe5c595b1202d1345f2f5402d1f6a41d988c3b89ee999ec1b78"), looks := false }, kinds := [], alts := [], laidByText := true, laidKinds := [.data], laidTests := true, laidLooks := .later }
def ReadyAgainUptoCardSaid : Prop := Claim7.holds Tryd.pinned (.plain (OpenSpec.upto readyAgainSpec)) readyAgainUptoCard

/-- THE SECOND FORM's CARD OF 'detentlaw9.ReadyRefuses'. -/
def readyRefusesUptoCard : Claim7 := { stood := { row := readyRefusesUptoRow, standIns := [], harness := (true, "56ef61586bef6fe5c595b1202d1345f2f5402d1f6a41d988c3b89ee999ec1b78"), looks := false }, kinds := [], alts := [], laidByText := true, laidKinds := [.data], laidTests := true, laidLooks := .later }
def ReadyRefusesUptoCardSaid : Prop := Claim7.holds Tryd.pinned (.plain (OpenSpec.upto readyRefusesSpec)) readyRefusesUptoCard
end Rows
end Go.Proofs.YtfilggkdhcjpbaaDoor
