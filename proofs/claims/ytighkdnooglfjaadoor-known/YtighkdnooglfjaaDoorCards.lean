/-
  DERIVED. GIVEN WITH THE SEED: THE CARDS: each row of YtighkdnooglfjaaDoorRows.lean that lists a variable, with what it lists TIED to the program's text (the seventh form; the later family's looks); each row that meets fmt, with fmt's text TOLD by the authors' own Lean function (tested against real Go, not proved from fmt's source: count such statements apart). THE CARD IS WHAT COUNTS. Prove the row's statement (the work); the ties are given (YtighkdnooglfjaaDoorTie.lean); close each card by the builder's one call (the guide's Derived/Test/ToyasCard.lean, 'card_holds'). Laid BY PROGRAM, IN A SANDBOX (cutbox-door.mjs). By AI agents, Wed Nov 11 2026. No macro, syntax, notation, axiom, sorry.
-/
import Derived.Test.YtighkdnooglfjaaDoorRows
import GoSem.ClaimSeven
namespace Go.Proofs.YtighkdnooglfjaaDoor
namespace Rows

/-- THE TIED CARD OF 'trovelaw.Known'. -/
def knownCard : Claim7 := { stood := { row := knownRow, standIns := [], harness := (true, "7c55dc942610f4c8f45c66e16bb5de67c0036e66dea75b6769129860423a95ca"), looks := true }, kinds := [], alts := [], laidByText := true, laidKinds := [.sentinel, .sentinel, .sentinel, .sentinel, .sentinel, .sentinel, .sentinel, .sentinel, .data], laidTests := true, laidLooks := .later }
def KnownCardSaid : Prop := Claim7.holds Tryd.pinned (.plain (OpenSpec.ofChange knownSpec)) knownCard

/-- THE SECOND FORM's CARD OF 'trovelaw.Known'. -/
def knownUptoCard : Claim7 := { stood := { row := knownUptoRow, standIns := [], harness := (true, "7c55dc942610f4c8f45c66e16bb5de67c0036e66dea75b6769129860423a95ca"), looks := true }, kinds := [], alts := [], laidByText := true, laidKinds := [.sentinel, .sentinel, .sentinel, .sentinel, .sentinel, .sentinel, .sentinel, .sentinel, .data], laidTests := true, laidLooks := .later }
def KnownUptoCardSaid : Prop := Claim7.holds Tryd.pinned (.plain (OpenSpec.upto knownSpec)) knownUptoCard
end Rows
end Go.Proofs.YtighkdnooglfjaaDoor
