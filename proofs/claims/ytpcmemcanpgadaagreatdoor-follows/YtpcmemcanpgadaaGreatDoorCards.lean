/-
  DERIVED. GIVEN WITH THE SEED: THE CARDS: each row of YtpcmemcanpgadaaGreatDoorRows.lean that lists a variable, with what it lists TIED to the program's text (the seventh form; the later family's looks); each row that meets fmt, with fmt's text TOLD by the authors' own Lean function (tested against real Go, not proved from fmt's source: count such statements apart). THE CARD IS WHAT COUNTS. Prove the row's statement (the work); the ties are given (YtpcmemcanpgadaaGreatDoorTie.lean); close each card by the builder's one call (the guide's Derived/Test/ToyasCard.lean, 'card_holds'). Laid BY PROGRAM, IN A SANDBOX (cutbox-door.mjs). By AI agents, Wed Nov 11 2026. No macro, syntax, notation, axiom, sorry.
-/
import Derived.Test.YtpcmemcanpgadaaGreatDoorRows
import GoSem.ClaimSeven
namespace Go.Proofs.YtpcmemcanpgadaaGreatDoor
namespace Rows

/-- THE TIED CARD OF 'predictlaw.Compiles'. -/
def compilesCard : Claim7 := { stood := { row := compilesRow, standIns := [], harness := (true, "f34de1325f36615dca4301730de8ae8e4d0ca36c22fa5609e2aba9e5d6acc22c"), looks := true }, kinds := [], alts := [], laidByText := true, laidKinds := [.data, .handle, .sentinel, .sentinel, .sentinel, .sentinel, .sentinel, .sentinel, .pinned], laidTests := true, laidLooks := .later }
def CompilesCardSaid : Prop := Claim7.holds Tryz.pinned (.plain (OpenSpec.ofChange compilesSpec)) compilesCard

/-- THE TIED CARD OF 'predictlaw.Rules'. -/
def rulesCard : Claim7 := { stood := { row := rulesRow, standIns := [], harness := (true, "f34de1325f36615dca4301730de8ae8e4d0ca36c22fa5609e2aba9e5d6acc22c"), looks := true }, kinds := [], alts := [], laidByText := true, laidKinds := [.data, .handle, .sentinel, .sentinel, .sentinel, .sentinel, .sentinel, .sentinel, .pinned], laidTests := true, laidLooks := .later }
def RulesCardSaid : Prop := Claim7.holds Tryz.pinned (.plain (OpenSpec.ofChange rulesSpec)) rulesCard

/-- THE TIED CARD OF 'predictlaw.Firsts'. -/
def firstsCard : Claim7 := { stood := { row := firstsRow, standIns := [], harness := (true, "f34de1325f36615dca4301730de8ae8e4d0ca36c22fa5609e2aba9e5d6acc22c"), looks := true }, kinds := [], alts := [], laidByText := true, laidKinds := [.data, .handle, .sentinel, .sentinel, .sentinel, .sentinel, .sentinel, .sentinel, .pinned], laidTests := true, laidLooks := .later }
def FirstsCardSaid : Prop := Claim7.holds Tryz.pinned (.plain (OpenSpec.ofChange firstsSpec)) firstsCard

/-- THE TIED CARD OF 'predictlaw.Follows'. -/
def followsCard : Claim7 := { stood := { row := followsRow, standIns := [], harness := (true, "f34de1325f36615dca4301730de8ae8e4d0ca36c22fa5609e2aba9e5d6acc22c"), looks := true }, kinds := [], alts := [], laidByText := true, laidKinds := [.data, .handle, .sentinel, .sentinel, .sentinel, .sentinel, .sentinel, .sentinel, .pinned], laidTests := true, laidLooks := .later }
def FollowsCardSaid : Prop := Claim7.holds Tryz.pinned (.plain (OpenSpec.ofChange followsSpec)) followsCard

/-- THE TIED CARD OF 'predictkeep.Refuses'. -/
def refusesCard : Claim7 := { stood := { row := refusesRow, standIns := [], harness := (true, "f34de1325f36615dca4301730de8ae8e4d0ca36c22fa5609e2aba9e5d6acc22c"), looks := true }, kinds := [], alts := [], laidByText := true, laidKinds := [.data, .handle, .sentinel, .sentinel, .sentinel, .sentinel, .sentinel, .sentinel, .pinned], laidTests := true, laidLooks := .later }
def RefusesCardSaid : Prop := Claim7.holds Tryz.pinned (.plain (OpenSpec.ofChange refusesSpec)) refusesCard

/-- THE SECOND FORM's CARD OF 'predictlaw.Compiles'. -/
def compilesUptoCard : Claim7 := { stood := { row := compilesUptoRow, standIns := [], harness := (true, "f34de1325f36615dca4301730de8ae8e4d0ca36c22fa5609e2aba9e5d6acc22c"), looks := true }, kinds := [], alts := [], laidByText := true, laidKinds := [.data, .handle, .sentinel, .sentinel, .sentinel, .sentinel, .sentinel, .sentinel, .pinned], laidTests := true, laidLooks := .later }
def CompilesUptoCardSaid : Prop := Claim7.holds Tryz.pinned (.plain (OpenSpec.upto compilesSpec)) compilesUptoCard

/-- THE SECOND FORM's CARD OF 'predictlaw.Rules'. -/
def rulesUptoCard : Claim7 := { stood := { row := rulesUptoRow, standIns := [], harness := (true, "f34de1325f36615dca4301730de8ae8e4d0ca36c22fa5609e2aba9e5d6acc22c"), looks := true }, kinds := [], alts := [], laidByText := true, laidKinds := [.data, .handle, .sentinel, .sentinel, .sentinel, .sentinel, .sentinel, .sentinel, .pinned], laidTests := true, laidLooks := .later }
def RulesUptoCardSaid : Prop := Claim7.holds Tryz.pinned (.plain (OpenSpec.upto rulesSpec)) rulesUptoCard

/-- THE SECOND FORM's CARD OF 'predictlaw.Firsts'. -/
def firstsUptoCard : Claim7 := { stood := { row := firstsUptoRow, standIns := [], harness := (true, "f34de1325f36615dca4301730de8ae8e4d0ca36c22fa5609e2aba9e5d6acc22c"), looks := true }, kinds := [], alts := [], laidByText := true, laidKinds := [.data, .handle, .sentinel, .sentinel, .sentinel, .sentinel, .sentinel, .sentinel, .pinned], laidTests := true, laidLooks := .later }
def FirstsUptoCardSaid : Prop := Claim7.holds Tryz.pinned (.plain (OpenSpec.upto firstsSpec)) firstsUptoCard

/-- THE SECOND FORM's CARD OF 'predictlaw.Follows'. -/
def followsUptoCard : Claim7 := { stood := { row := followsUptoRow, standIns := [], harness := (true, "f34de1325f36615dca4301730de8ae8e4d0ca36c22fa5609e2aba9e5d6acc22c"), looks := true }, kinds := [], alts := [], laidByText := true, laidKinds := [.data, .handle, .sentinel, .sentinel, .sentinel, .sentinel, .sentinel, .sentinel, .pinned], laidTests := true, laidLooks := .later }
def FollowsUptoCardSaid : Prop := Claim7.holds Tryz.pinned (.plain (OpenSpec.upto followsSpec)) followsUptoCard

/-- THE SECOND FORM's CARD OF 'predictkeep.Refuses'. -/
def refusesUptoCard : Claim7 := { stood := { row := refusesUptoRow, standIns := [], harness := (true, "f34de1325f36615dca4301730de8ae8e4d0ca36c22fa5609e2aba9e5d6acc22c"), looks := true }, kinds := [], alts := [], laidByText := true, laidKinds := [.data, .handle, .sentinel, .sentinel, .sentinel, .sentinel, .sentinel, .sentinel, .pinned], laidTests := true, laidLooks := .later }
def RefusesUptoCardSaid : Prop := Claim7.holds Tryz.pinned (.plain (OpenSpec.upto refusesSpec)) refusesUptoCard
end Rows
end Go.Proofs.YtpcmemcanpgadaaGreatDoor
