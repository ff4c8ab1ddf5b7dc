/-
  DERIVED. GIVEN WITH THE SEED: THE CARDS: each row of YtleclkjinkbebaaDoorRows.lean that lists a variable, with what it lists TIED to the program's text (the seventh form; the later family's looks); each row that meets fmt, with fmt's text TOLD by the authors' own Lean function (tested against real Go, not proved from fmt's source: count such statements apart). THE CARD IS WHAT COUNTS. Prove the row's statement (the work); the ties are given (YtleclkjinkbebaaDoorTie.lean); close each card by the builder's one call (the guide's Derived/Test/ToyasCard.lean, 'card_holds'). Laid BY PROGRAM, IN A SANDBOX (cutbox-door.mjs). By AI agents, Wed Nov 11 2026. No macro, syntax, notation, axiom, sorry.
-/
import Derived.Test.YtleclkjinkbebaaDoorRows
import GoSem.ClaimSeven
namespace Go.Proofs.YtleclkjinkbebaaDoor
namespace Rows

/-- THE TIED CARD OF 'gouachelaw12.NodeArities'. -/
def nodeAritiesCard : Claim7 := { stood := { row := nodeAritiesRow, standIns := [], harness := (true, "caa8efdcad327d938fdddf48bb1deda03d5f891d1f8a73311d11ec830190d6e0"), looks := true }, kinds := [], alts := [], laidByText := true, laidKinds := [.data, .data, .data], laidTests := true, laidLooks := .later }
def NodeAritiesCardSaid : Prop := Claim7.holds Tryd.pinned (.plain (OpenSpec.ofChange nodeAritiesSpec)) nodeAritiesCard

/-- THE TIED CARD OF 'gouachelaw12.NodeOnes'. -/
def nodeOnesCard : Claim7 := { stood := { row := nodeOnesRow, standIns := [], harness := (true, "caa8efdcad327d938fdddf48bb1deda03d5f891d1f8a73311d11ec830190d6e0"), looks := true }, kinds := [], alts := [], laidByText := true, laidKinds := [.data, .data, .data], laidTests := true, laidLooks := .later }
def NodeOnesCardSaid : Prop := Claim7.holds Tryd.pinned (.plain (OpenSpec.ofChange nodeOnesSpec)) nodeOnesCard

/-- THE TIED CARD OF 'gouachelaw12.NodeChecks'. -/
def nodeChecksCard : Claim7 := { stood := { row := nodeChecksRow, standIns := [], harness := (true, "caa8efdcad327d938fdddf48bb1deda03d5f891d1f8a73311d11ec830190d6e0"), looks := true }, kinds := [], alts := [], laidByText := true, laidKinds := [.data, .data, .data], laidTests := true, laidLooks := .later }
def NodeChecksCardSaid : Prop := Claim7.holds Tryd.pinned (.plain (OpenSpec.ofChange nodeChecksSpec)) nodeChecksCard

/-- THE SECOND FORM's CARD OF 'gouachelaw12.NodeArities'. -/
def nodeAritiesUptoCard : Claim7 := { stood := { row := nodeAritiesUptoRow, standIns := [], harness := (true, "caa8efdcad327d938fdddf48bb1deda03d5f891d1f8a73311d11ec830190d6e0"), looks := true }, kinds := [], alts := [], laidByText := true, laidKinds := [.data, .data, .data], laidTests := true, laidLooks := .later }
def NodeAritiesUptoCardSaid : Prop := Claim7.holds Tryd.pinned (.plain (OpenSpec.upto nodeAritiesSpec)) nodeAritiesUptoCard

/-- THE SECOND FORM's CARD OF 'gouachelaw12.NodeOnes'. -/
def nodeOnesUptoCard : Claim7 := { stood := { row := nodeOnesUptoRow, standIns := [], harness := (true, "caa8efdcad327d938fdddf48bb1deda03d5f891d1f8a73311d11ec830190d6e0"), looks := true }, kinds := [], alts := [], laidByText := true, laidKinds := [.data, .data, .data], laidTests := true, laidLooks := .later }
def NodeOnesUptoCardSaid : Prop := Claim7.holds Tryd.pinned (.plain (OpenSpec.upto nodeOnesSpec)) nodeOnesUptoCard

/-- THE SECOND FORM's CARD OF 'gouachelaw12.NodeChecks'. -/
def nodeChecksUptoCard : Claim7 := { stood := { row := nodeChecksUptoRow, standIns := [], harness := (true, "caa8efdcad327d938fdddf48bb1deda03d5f891d1f8a73311d11ec830190d6e0"), looks := true }, kinds := [], alts := [], laidByText := true, laidKinds := [.data, .data, .data], laidTests := true, laidLooks := .later }
def NodeChecksUptoCardSaid : Prop := Claim7.holds Tryd.pinned (.plain (OpenSpec.upto nodeChecksSpec)) nodeChecksUptoCard
end Rows
end Go.Proofs.YtleclkjinkbebaaDoor
