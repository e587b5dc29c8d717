/-
  DERIVED. GIVEN WITH THE SEED: THE CARDS: each row of YtbpnllhhmookcaaGreatDoorRows.lean that lists a variable, with what it lists TIED to the program's text (the seventh form; the later family's looks); each row that meets fmt, with fmt's text TOLD by the authors' own Lean function (tested against real Go, not proved from fmt's source: count such statements apart). THE CARD IS WHAT COUNTS. Prove the row's statement (the work); the ties are given (YtbpnllhhmookcaaGreatDoorTie.lean); close each card by the builder's one call (the guide's Derived/Test/ToyasCard.lean, 'card_holds'). Laid BY PROGRAM, IN A SANDBOX (cutbox-door.mjs). By AI agents, Wed Nov 11 2026. No macro, syntax, notation, axiom, sorry.
-/
import Derived.Test.YtbpnllhhmookcaaGreatDoorRows
import GoSem.ClaimSeven
namespace Go.Proofs.YtbpnllhhmookcaaGreatDoor
namespace Rows

/-- THE TIED CARD OF 'firnlaw.Does'. -/
def doesCard : Claim7 := { stood := { row := doesRow, standIns := [], harness := (true, "12de8b7f49acbbcbc10c7a7e36a504ef805acf3bb81f1afc6079669064ac4c59"), looks := false }, kinds := [], alts := [], laidByText := true, laidKinds := [.data, .pinned], laidTests := true, laidLooks := .later }
def DoesCardSaid : Prop := Claim7.holds Tryz.pinned (.plain (OpenSpec.ofChange doesSpec)) doesCard

/-- THE TIED CARD OF 'firnkeep.Kept'. -/
def keptCard : Claim7 := { stood := { row := keptRow, standIns := [], harness := (true, "12de8b7f49acbbcbc10c7a7e36a504ef805acf3bb81f1afc6079669064ac4c59"), looks := false }, kinds := [], alts := [], laidByText := true, laidKinds := [.data, .pinned], laidTests := true, laidLooks := .later }
def KeptCardSaid : Prop := Claim7.holds Tryz.pinned (.plain (OpenSpec.ofChange keptSpec)) keptCard

/-- THE TIED CARD OF 'firnkeep.Apart'. -/
def apartCard : Claim7 := { stood := { row := apartRow, standIns := [], harness := (true, "12de8b7f49acbbcbc10c7a7e36a504ef805acf3bb81f1afc6079669064ac4c59"), looks := false }, kinds := [], alts := [], laidByText := true, laidKinds := [.data, .pinned], laidTests := true, laidLooks := .later }
def ApartCardSaid : Prop := Claim7.holds Tryz.pinned (.plain (OpenSpec.ofChange apartSpec)) apartCard

/-- THE TIED CARD OF 'firnkeep.Withdrawn'. -/
def withdrawnCard : Claim7 := { stood := { row := withdrawnRow, standIns := [], harness := (true, "12de8b7f49acbbcbc10c7a7e36a504ef805acf3bb81f1afc6079669064ac4c59"), looks := false }, kinds := [], alts := [], laidByText := true, laidKinds := [.data, .pinned], laidTests := true, laidLooks := .later }
def WithdrawnCardSaid : Prop := Claim7.holds Tryz.pinned (.plain (OpenSpec.ofChange withdrawnSpec)) withdrawnCard

/-- THE TIED CARD OF 'firnkeep.Turned'. -/
def turnedCard : Claim7 := { stood := { row := turnedRow, standIns := [], harness := (true, "12de8b7f49acbbcbc10c7a7e36a504ef805acf3bb81f1afc6079669064ac4c59"), looks := false }, kinds := [], alts := [], laidByText := true, laidKinds := [.data, .pinned], laidTests := true, laidLooks := .later }
def TurnedCardSaid : Prop := Claim7.holds Tryz.pinned (.plain (OpenSpec.ofChange turnedSpec)) turnedCard

/-- THE SECOND FORM's CARD OF 'firnlaw.Does'. -/
def doesUptoCard : Claim7 := { stood := { row := doesUptoRow, standIns := [], harness := (true, "12de8b7f49acbbcbc10c7a7e36a504ef805acf3bb81f1afc6079669064ac4c59"), looks := false }, kinds := [], alts := [], laidByText := true, laidKinds := [.data, .pinned], laidTests := true, laidLooks := .later }
def DoesUptoCardSaid : Prop := Claim7.holds Tryz.pinned (.plain (OpenSpec.upto doesSpec)) doesUptoCard

/-- THE SECOND FORM's CARD OF 'firnkeep.Kept'. -/
def keptUptoCard : Claim7 := { stood := { row := keptUptoRow, standIns := [], harness := (true, "12de8b7f49acbbcbc10c7a7e36a504ef805acf3bb81f1afc6079669064ac4c59"), looks := false }, kinds := [], alts := [], laidByText := true, laidKinds := [.data, .pinned], laidTests := true, laidLooks := .later }
def KeptUptoCardSaid : Prop := Claim7.holds Tryz.pinned (.plain (OpenSpec.upto keptSpec)) keptUptoCard

/-- THE SECOND FORM's CARD OF 'firnkeep.Apart'. -/
def apartUptoCard : Claim7 := { stood := { row := apartUptoRow, standIns := [], harness := (true, "12de8b7f49acbbcbc10c7a7e36a504ef805acf3bb81f1afc6079669064ac4c59"), looks := false }, kinds := [], alts := [], laidByText := true, laidKinds := [.data, .pinned], laidTests := true, laidLooks := .later }
def ApartUptoCardSaid : Prop := Claim7.holds Tryz.pinned (.plain (OpenSpec.upto apartSpec)) apartUptoCard

/-- THE SECOND FORM's CARD OF 'firnkeep.Withdrawn'. -/
def withdrawnUptoCard : Claim7 := { stood := { row := withdrawnUptoRow, standIns := [], harness := (true, "12de8b7f49acbbcbc10c7a7e36a504ef805acf3bb81f1afc6079669064ac4c59"), looks := false }, kinds := [], alts := [], laidByText := true, laidKinds := [.data, .pinned], laidTests := true, laidLooks := .later }
def WithdrawnUptoCardSaid : Prop := Claim7.holds Tryz.pinned (.plain (OpenSpec.upto withdrawnSpec)) withdrawnUptoCard

/-- THE SECOND FORM's CARD OF 'firnkeep.Turned'. -/
def turnedUptoCard : Claim7 := { stood := { row := turnedUptoRow, standIns := [], harness := (true, "12de8b7f49acbbcbc10c7a7e36a504ef805acf3bb81f1afc6079669064ac4c59"), looks := false }, kinds := [], alts := [], laidByText := true, laidKinds := [.data, .pinned], laidTests := true, laidLooks := .later }
def TurnedUptoCardSaid : Prop := Claim7.holds Tryz.pinned (.plain (OpenSpec.upto turnedSpec)) turnedUptoCard
end Rows
end Go.Proofs.YtbpnllhhmookcaaGreatDoor
