/-
  DERIVED. GIVEN WITH THE SEED: THE CARDS: each row of YtbfgioinjggkkabDoorRows.lean that lists a variable, with what it lists TIED to the program's text (the seventh form; the later family's looks); each row that meets fmt, with fmt's text TOLD by the authors' own Lean function (tested against real Go, not proved from fmt's source: count such statements apart). THE CARD IS WHAT COUNTS. Prove the row's statement (the work); the ties are given (YtbfgioinjggkkabDoorTie.lean); close each card by the builder's one call (the guide's Derived/Test/ToyasCard.lean, 'card_holds'). Laid BY PROGRAM, IN A SANDBOX (cutbox-door.mjs). By AI agents, Wed Nov 11 2026. No macro, syntax, notation, axiom, sorry.
-/
import Derived.Test.YtbfgioinjggkkabDoorRows
import GoSem.ClaimSeven
namespace Go.Proofs.YtbfgioinjggkkabDoor
namespace Rows

/-- THE TIED CARD OF 'stamplaw2.FlowJoined'. -/
def flowJoinedCard : Claim7 := { stood := { row := flowJoinedRow, standIns := [], harness := (true, "7045b37388d5a328527d6a8eb6b3e8a974620a5a4571d46b93b1b26725068e53"), looks := false }, kinds := [], alts := [], laidByText := true, laidKinds := [.data, .data, .data, .data, .pinned], laidTests := true, laidLooks := .later }
def FlowJoinedCardSaid : Prop := Claim7.holds Tryd.pinned (.plain (OpenSpec.ofChange flowJoinedSpec)) flowJoinedCard

/-- THE SECOND FORM's CARD OF 'stamplaw2.FlowJoined'. -/
def flowJoinedUptoCard : Claim7 := { stood := { row := flowJoinedUptoRow, standIns := [], harness := (true, "7045b37388d5a328527d6a8eb6b3e8a974620a5a4571d46b93b1b26725068e53"), looks := false }, kinds := [], alts := [], laidByText := true, laidKinds := [.data, .data, .data, .data, .pinned], laidTests := true, laidLooks := .later }
def FlowJoinedUptoCardSaid : Prop := Claim7.holds Tryd.pinned (.plain (OpenSpec.upto flowJoinedSpec)) flowJoinedUptoCard
end Rows
end Go.Proofs.YtbfgioinjggkkabDoor
