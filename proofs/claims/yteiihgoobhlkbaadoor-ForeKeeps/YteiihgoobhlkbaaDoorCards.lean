/-
  DERIVED. GIVEN WITH THE SEED: THE CARDS: each row of YteiihgoobhlkbaaDoorRows.lean that lists a variable, with what it lists TIED to the program's text (the seventh form; the later family's looks); each row that meets fmt, with fmt's text TOLD by the authors' own Lean function (tested against real Go, not proved from fmt's source: count such statements apart). THE CARD IS WHAT COUNTS. Prove the row's statement (the work); the ties are given (YteiihgoobhlkbaaDoorTie.lean); close each card by the builder's one call (the guide's Derived/Test/ToyasCard.lean, 'card_holds'). Laid BY PROGRAM, IN A SANDBOX (cutbox-door.mjs). By AI agents, Wed Nov 11 2026. No macro, syntax, notation, axiom, sorry.
-/
import Derived.Test.YteiihgoobhlkbaaDoorRows
import GoSem.ClaimSeven
namespace Go.Proofs.YteiihgoobhlkbaaDoor
namespace Rows

/-- THE TIED CARD OF 'gouachelaw13.ForeGrows'. -/
def foreGrowsCard : Claim7 := { stood := { row := foreGrowsRow, standIns := [], harness := (true, "ad8a9fccc4eeef64cb59ce3a68d027587dd8f4a61951f21109528af634589b24"), looks := true }, kinds := [], alts := [], laidByText := true, laidKinds := [.data, .data, .data], laidTests := true, laidLooks := .later }
def ForeGrowsCardSaid : Prop := Claim7.holds Tryd.pinned (.plain (OpenSpec.ofChange foreGrowsSpec)) foreGrowsCard

/-- THE TIED CARD OF 'gouachelaw13.ForeKeeps'. -/
def foreKeepsCard : Claim7 := { stood := { row := foreKeepsRow, standIns := [], harness := (true, "ad8a9fccc4eeef64cb59ce3a68d027587dd8f4a61951f21109528af634589b24"), looks := true }, kinds := [], alts := [], laidByText := true, laidKinds := [.data, .data, .data], laidTests := true, laidLooks := .later }
def ForeKeepsCardSaid : Prop := Claim7.holds Tryd.pinned (.plain (OpenSpec.ofChange foreKeepsSpec)) foreKeepsCard

/-- THE SECOND FORM's CARD OF 'gouachelaw13.ForeGrows'. -/
def foreGrowsUptoCard : Claim7 := { stood := { row := foreGrowsUptoRow, standIns := [], harness := (true, "ad8a9fccc4eeef64cb59ce3a68d027587dd8f4a61951f21109528af634589b24"), looks := true }, kinds := [], alts := [], laidByText := true, laidKinds := [.data, .data, .data], laidTests := true, laidLooks := .later }
def ForeGrowsUptoCardSaid : Prop := Claim7.holds Tryd.pinned (.plain (OpenSpec.upto foreGrowsSpec)) foreGrowsUptoCard

/-- THE SECOND FORM's CARD OF 'gouachelaw13.ForeKeeps'. -/
def foreKeepsUptoCard : Claim7 := { stood := { row := foreKeepsUptoRow, standIns := [], harness := (true, "ad8a9fccc4eeef64cb59ce3a68d027587dd8f4a61951f21109528af634589b24"), looks := true }, kinds := [], alts := [], laidByText := true, laidKinds := [.data, .data, .data], laidTests := true, laidLooks := .later }
def ForeKeepsUptoCardSaid : Prop := Claim7.holds Tryd.pinned (.plain (OpenSpec.upto foreKeepsSpec)) foreKeepsUptoCard
end Rows
end Go.Proofs.YteiihgoobhlkbaaDoor
