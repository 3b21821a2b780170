/-
  DERIVED. GIVEN WITH THE SEED: THE CARDS: each row of YtinifnpajkldbaaDoorRows.lean that lists a variable, with what it lists TIED to the program's text (the seventh form; the later family's looks); each row that meets fmt, with fmt's text TOLD by the authors' own Lean function (tested against real Go, not proved from fmt's source: count such statements apart). THE CARD IS WHAT COUNTS. Prove the row's statement (the work); the ties are given (YtinifnpajkldbaaDoorTie.lean); close each card by the builder's one call (the guide's Derived/Test/ToyasCard.lean, 'card_holds'). Laid BY PROGRAM, IN A SANDBOX (cutbox-door.mjs). By AI agents, Wed Nov 11 2026. No macro, syntax, notation, axiom, sorry.
-/
import Derived.Test.YtinifnpajkldbaaDoorRows
import GoSem.ClaimSeven
namespace Go.Proofs.YtinifnpajkldbaaDoor
namespace Rows

/-- THE TIED CARD OF 'comitialaw9.SignDeltas'. -/
def signDeltasCard : Claim7 := { stood := { row := signDeltasRow, standIns := [], harness := (true, "029562b88be0d19c438b913f693d0a628486782822964bd04e354e3e52d4c67f"), looks := false }, kinds := [], alts := [], laidByText := true, laidKinds := [.data, .data], laidTests := true, laidLooks := .later }
def SignDeltasCardSaid : Prop := Claim7.holds Tryd.pinned (.plain (OpenSpec.ofChange signDeltasSpec)) signDeltasCard

/-- THE TIED CARD OF 'comitialaw9.SignOpens'. -/
def signOpensCard : Claim7 := { stood := { row := signOpensRow, standIns := [], harness := (true, "029562b88be0d19c438b913f693d0a628486782822964bd04e354e3e52d4c67f"), looks := false }, kinds := [], alts := [], laidByText := true, laidKinds := [.data, .data], laidTests := true, laidLooks := .later }
def SignOpensCardSaid : Prop := Claim7.holds Tryd.pinned (.plain (OpenSpec.ofChange signOpensSpec)) signOpensCard

/-- THE TIED CARD OF 'comitialaw9.SignEntries'. -/
def signEntriesCard : Claim7 := { stood := { row := signEntriesRow, standIns := [], harness := (true, "029562b88be0d19c438b913f693d0a628486782822964bd04e354e3e52d4c67f"), looks := false }, kinds := [], alts := [], laidByText := true, laidKinds := [.data, .data], laidTests := true, laidLooks := .later }
def SignEntriesCardSaid : Prop := Claim7.holds Tryd.pinned (.plain (OpenSpec.ofChange signEntriesSpec)) signEntriesCard

/-- THE TIED CARD OF 'comitialaw9.SignOwn'. -/
def signOwnCard : Claim7 := { stood := { row := signOwnRow, standIns := [], harness := (true, "029562b88be0d19c438b913f693d0a628486782822964bd04e354e3e52d4c67f"), looks := false }, kinds := [], alts := [], laidByText := true, laidKinds := [.data, .data], laidTests := true, laidLooks := .later }
def SignOwnCardSaid : Prop := Claim7.holds Tryd.pinned (.plain (OpenSpec.ofChange signOwnSpec)) signOwnCard

/-- THE TIED CARD OF 'comitialaw9.SignChain'. -/
def signChainCard : Claim7 := { stood := { row := signChainRow, standIns := [], harness := (true, "029562b88be0d19c438b913f693d0a628486782822964bd04e354e3e52d4c67f"), looks := false }, kinds := [], alts := [], laidByText := true, laidKinds := [.data, .data], laidTests := true, laidLooks := .later }
def SignChainCardSaid : Prop := Claim7.holds Tryd.pinned (.plain (OpenSpec.ofChange signChainSpec)) signChainCard

/-- THE SECOND FORM's CARD OF 'comitialaw9.SignDeltas'. -/
def signDeltasUptoCard : Claim7 := { stood := { row := signDeltasUptoRow, standIns := [], harness := (true, "029562b88be0d19c438b913f693d0a628486782822964bd04e354e3e52d4c67f"), looks := false }, kinds := [], alts := [], laidByText := true, laidKinds := [.data, .data], laidTests := true, laidLooks := .later }
def SignDeltasUptoCardSaid : Prop := Claim7.holds Tryd.pinned (.plain (OpenSpec.upto signDeltasSpec)) signDeltasUptoCard

/-- THE SECOND FORM's CARD OF 'comitialaw9.SignOpens'. -/
def signOpensUptoCard : Claim7 := { stood := { row := signOpensUptoRow, standIns := [], harness := (true, "029562b88be0d19c438b913f693d0a628486782822964bd04e354e3e52d4c67f"), looks := false }, kinds := [], alts := [], laidByText := true, laidKinds := [.data, .data], laidTests := true, laidLooks := .later }
def SignOpensUptoCardSaid : Prop := Claim7.holds Tryd.pinned (.plain (OpenSpec.upto signOpensSpec)) signOpensUptoCard

/-- THE SECOND FORM's CARD OF 'comitialaw9.SignEntries'. -/
def signEntriesUptoCard : Claim7 := { stood := { row := signEntriesUptoRow, standIns := [], harness := (true, "029562b88be0d19c438b913f693d0a628486782822964bd04e354e3e52d4c67f"), looks := false }, kinds := [], alts := [], laidByText := true, laidKinds := [.data, .data], laidTests := true, laidLooks := .later }
def SignEntriesUptoCardSaid : Prop := Claim7.holds Tryd.pinned (.plain (OpenSpec.upto signEntriesSpec)) signEntriesUptoCard

/-- THE SECOND FORM's CARD OF 'comitialaw9.SignOwn'. -/
def signOwnUptoCard : Claim7 := { stood := { row := signOwnUptoRow, standIns := [], harness := (true, "029562b88be0d19c438b913f693d0a628486782822964bd04e354e3e52d4c67f"), looks := false }, kinds := [], alts := [], laidByText := true, laidKinds := [.data, .data], laidTests := true, laidLooks := .later }
def SignOwnUptoCardSaid : Prop := Claim7.holds Tryd.pinned (.plain (OpenSpec.upto signOwnSpec)) signOwnUptoCard

/-- THE SECOND FORM's CARD OF 'comitialaw9.SignChain'. -/
def signChainUptoCard : Claim7 := { stood := { row := signChainUptoRow, standIns := [], harness := (true, "029562b88be0d19c438b913f693d0a628486782822964bd04e354e3e52d4c67f"), looks := false }, kinds := [], alts := [], laidByText := true, laidKinds := [.data, .data], laidTests := true, laidLooks := .later }
def SignChainUptoCardSaid : Prop := Claim7.holds Tryd.pinned (.plain (OpenSpec.upto signChainSpec)) signChainUptoCard
end Rows
end Go.Proofs.YtinifnpajkldbaaDoor
