/-
  DERIVED. GIVEN WITH THE SEED: THE CARDS: each row of YtnflkibkionjmaaDoorRows.lean that lists a variable, with what it lists TIED to the program's text (the seventh form; the later family's looks); each row that meets fmt, with fmt's text TOLD by the authors' own Lean function (tested against real Go, not proved from fmt's source: count such statements apart). THE CARD IS WHAT COUNTS. Prove the row's statement (the work); the ties are given (YtnflkibkionjmaaDoorTie.lean); close each card by the builder's one call (the guide's Derived/Test/ToyasCard.lean, 'card_holds'). Laid BY PROGRAM, IN A SANDBOX (cutbox-door.mjs). By AI agents, Wed Nov 11 2026. No macro, syntax, notation, axiom, sorry.
-/
import Derived.Test.YtnflkibkionjmaaDoorRows
import GoSem.ClaimSeven
namespace Go.Proofs.YtnflkibkionjmaaDoor
namespace Rows

/-- THE TIED CARD OF 'comitialaw3.HmacSigns'. -/
def hmacSignsCard : Claim7 := { stood := { row := hmacSignsRow, standIns := [], harness := (true, "3b2b59e62f2b0e9b1c997aca2d2dba668975c925658eb67777b638d30d9c5f44"), looks := false }, kinds := [], alts := [], laidByText := true, laidKinds := [.data, .data], laidTests := true, laidLooks := .later }
def HmacSignsCardSaid : Prop := Claim7.holds Tryd.pinned (.plain (OpenSpec.ofChange hmacSignsSpec)) hmacSignsCard

/-- THE TIED CARD OF 'comitialaw3.HmacKeys'. -/
def hmacKeysCard : Claim7 := { stood := { row := hmacKeysRow, standIns := [], harness := (true, "3b2b59e62f2b0e9b1c997aca2d2dba668975c925658eb67777b638d30d9c5f44"), looks := false }, kinds := [], alts := [], laidByText := true, laidKinds := [.data, .data], laidTests := true, laidLooks := .later }
def HmacKeysCardSaid : Prop := Claim7.holds Tryd.pinned (.plain (OpenSpec.ofChange hmacKeysSpec)) hmacKeysCard

/-- THE TIED CARD OF 'comitialaw3.HmacApart'. -/
def hmacApartCard : Claim7 := { stood := { row := hmacApartRow, standIns := [], harness := (true, "3b2b59e62f2b0e9b1c997aca2d2dba668975c925658eb67777b638d30d9c5f44"), looks := false }, kinds := [], alts := [], laidByText := true, laidKinds := [.data, .data], laidTests := true, laidLooks := .later }
def HmacApartCardSaid : Prop := Claim7.holds Tryd.pinned (.plain (OpenSpec.ofChange hmacApartSpec)) hmacApartCard

/-- THE TIED CARD OF 'comitialaw3.HmacLays'. -/
def hmacLaysCard : Claim7 := { stood := { row := hmacLaysRow, standIns := [], harness := (true, "3b2b59e62f2b0e9b1c997aca2d2dba668975c925658eb67777b638d30d9c5f44"), looks := false }, kinds := [], alts := [], laidByText := true, laidKinds := [.data, .data], laidTests := true, laidLooks := .later }
def HmacLaysCardSaid : Prop := Claim7.holds Tryd.pinned (.plain (OpenSpec.ofChange hmacLaysSpec)) hmacLaysCard

/-- THE TIED CARD OF 'comitialaw3.HmacKeeps'. -/
def hmacKeepsCard : Claim7 := { stood := { row := hmacKeepsRow, standIns := [], harness := (true, "3b2b59e62f2b0e9b1c997aca2d2dba668975c925658eb67777b638d30d9c5f44"), looks := false }, kinds := [], alts := [], laidByText := true, laidKinds := [.data, .data], laidTests := true, laidLooks := .later }
def HmacKeepsCardSaid : Prop := Claim7.holds Tryd.pinned (.plain (OpenSpec.ofChange hmacKeepsSpec)) hmacKeepsCard

/-- THE SECOND FORM's CARD OF 'comitialaw3.HmacSigns'. -/
def hmacSignsUptoCard : Claim7 := { stood := { row := hmacSignsUptoRow, standIns := [], harness := (true, "3b2b59e62f2b0e9b1c997aca2d2dba668975c925658eb67777b638d30d9c5f44"), looks := false }, kinds := [], alts := [], laidByText := true, laidKinds := [.data, .data], laidTests := true, laidLooks := .later }
def HmacSignsUptoCardSaid : Prop := Claim7.holds Tryd.pinned (.plain (OpenSpec.upto hmacSignsSpec)) hmacSignsUptoCard

/-- THE SECOND FORM's CARD OF 'comitialaw3.HmacKeys'. -/
def hmacKeysUptoCard : Claim7 := { stood := { row := hmacKeysUptoRow, standIns := [], harness := (true, "3b2b59e62f2b0e9b1c997aca2d2dba668975c925658eb67777b638d30d9c5f44"), looks := false }, kinds := [], alts := [], laidByText := true, laidKinds := [.data, .data], laidTests := true, laidLooks := .later }
def HmacKeysUptoCardSaid : Prop := Claim7.holds Tryd.pinned (.plain (OpenSpec.upto hmacKeysSpec)) hmacKeysUptoCard

/-- THE SECOND FORM's CARD OF 'comitialaw3.HmacApart'. -/
def hmacApartUptoCard : Claim7 := { stood := { row := hmacApartUptoRow, standIns := [], harness := (true, "3b2b59e62f2b0e9b1c997aca2d2dba668975c925658eb67777b638d30d9c5f44"), looks := false }, kinds := [], alts := [], laidByText := true, laidKinds := [.data, .data], laidTests := true, laidLooks := .later }
def HmacApartUptoCardSaid : Prop := Claim7.holds Tryd.pinned (.plain (OpenSpec.upto hmacApartSpec)) hmacApartUptoCard

/-- THE SECOND FORM's CARD OF 'comitialaw3.HmacLays'. -/
def hmacLaysUptoCard : Claim7 := { stood := { row := hmacLaysUptoRow, standIns := [], harness := (true, "3b2b59e62f2b0e9b1c997aca2d2dba668975c925658eb67777b638d30d9c5f44"), looks := false }, kinds := [], alts := [], laidByText := true, laidKinds := [.data, .data], laidTests := true, laidLooks := .later }
def HmacLaysUptoCardSaid : Prop := Claim7.holds Tryd.pinned (.plain (OpenSpec.upto hmacLaysSpec)) hmacLaysUptoCard

/-- THE SECOND FORM's CARD OF 'comitialaw3.HmacKeeps'. -/
def hmacKeepsUptoCard : Claim7 := { stood := { row := hmacKeepsUptoRow, standIns := [], harness := (true, "3b2b59e62f2b0e9b1c997aca2d2dba668975c925658eb67777b638d30d9c5f44"), looks := false }, kinds := [], alts := [], laidByText := true, laidKinds := [.data, .data], laidTests := true, laidLooks := .later }
def HmacKeepsUptoCardSaid : Prop := Claim7.holds Tryd.pinned (.plain (OpenSpec.upto hmacKeepsSpec)) hmacKeepsUptoCard
end Rows
end Go.Proofs.YtnflkibkionjmaaDoor
