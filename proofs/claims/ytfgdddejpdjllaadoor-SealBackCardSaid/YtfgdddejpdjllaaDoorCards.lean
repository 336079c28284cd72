/-
  DERIVED. GIVEN WITH THE SEED: THE CARDS: each row of YtfgdddejpdjllaaDoorRows.lean that lists a variable, with what it lists TIED to the program's text (the seventh form; the later family's looks); each row that meets fmt, with fmt's text TOLD by the authors' own Lean function (tested against real Go, not proved from fmt's source: count such statements apart). THE CARD IS WHAT COUNTS. Prove the row's statement (the work); the ties are given (YtfgdddejpdjllaaDoorTie.lean); close each card by the builder's one call (the guide's Derived/Test/ToyasCard.lean, 'card_holds'). Laid BY PROGRAM, IN A SANDBOX (cutbox-door.mjs). By AI agents, Wed Nov 11 2026. No macro, syntax, notation, axiom, sorry.
-/
import Derived.Test.YtfgdddejpdjllaaDoorRows
import GoSem.ClaimSeven
namespace Go.Proofs.YtfgdddejpdjllaaDoor
namespace Rows

/-- THE TIED CARD OF 'banyanlaw12.SealKeys'. -/
def sealKeysCard : Claim7 := { stood := { row := sealKeysRow, standIns := [], harness := (true, "0131f9f1a1f02ebf5a16687d2fe8903395483cdb43346dae7a1c73827a36235e"), looks := false }, kinds := [], alts := [], laidByText := true, laidKinds := [.data], laidTests := true, laidLooks := .later }
def SealKeysCardSaid : Prop := Claim7.holds Tryd.pinned (.plain (OpenSpec.ofChange sealKeysSpec)) sealKeysCard

/-- THE TIED CARD OF 'banyanlaw12.SealBlocks'. -/
def sealBlocksCard : Claim7 := { stood := { row := sealBlocksRow, standIns := [], harness := (true, "0131f9f1a1f02ebf5a16687d2fe8903395483cdb43346dae7a1c73827a36235e"), looks := false }, kinds := [], alts := [], laidByText := true, laidKinds := [.data], laidTests := true, laidLooks := .later }
def SealBlocksCardSaid : Prop := Claim7.holds Tryd.pinned (.plain (OpenSpec.ofChange sealBlocksSpec)) sealBlocksCard

/-- THE TIED CARD OF 'banyanlaw12.SealOpens'. -/
def sealOpensCard : Claim7 := { stood := { row := sealOpensRow, standIns := [], harness := (true, "0131f9f1a1f02ebf5a16687d2fe8903395483cdb43346dae7a1c73827a36235e"), looks := false }, kinds := [], alts := [], laidByText := true, laidKinds := [.data], laidTests := true, laidLooks := .later }
def SealOpensCardSaid : Prop := Claim7.holds Tryd.pinned (.plain (OpenSpec.ofChange sealOpensSpec)) sealOpensCard

/-- THE TIED CARD OF 'banyanlaw12.SealBack'. -/
def sealBackCard : Claim7 := { stood := { row := sealBackRow, standIns := [], harness := (true, "0131f9f1a1f02ebf5a16687d2fe8903395483cdb43346dae7a1c73827a36235e"), looks := false }, kinds := [], alts := [], laidByText := true, laidKinds := [.data], laidTests := true, laidLooks := .later }
def SealBackCardSaid : Prop := Claim7.holds Tryd.pinned (.plain (OpenSpec.ofChange sealBackSpec)) sealBackCard

/-- THE TIED CARD OF 'banyanlaw12.SealStreams'. -/
def sealStreamsCard : Claim7 := { stood := { row := sealStreamsRow, standIns := [], harness := (true, "0131f9f1a1f02ebf5a16687d2fe8903395483cdb43346dae7a1c73827a36235e"), looks := false }, kinds := [], alts := [], laidByText := true, laidKinds := [.data], laidTests := true, laidLooks := .later }
def SealStreamsCardSaid : Prop := Claim7.holds Tryd.pinned (.plain (OpenSpec.ofChange sealStreamsSpec)) sealStreamsCard

/-- THE TIED CARD OF 'banyanlaw12.SealApart'. -/
def sealApartCard : Claim7 := { stood := { row := sealApartRow, standIns := [], harness := (true, "0131f9f1a1f02ebf5a16687d2fe8903395483cdb43346dae7a1c73827a36235e"), looks := false }, kinds := [], alts := [], laidByText := true, laidKinds := [.data], laidTests := true, laidLooks := .later }
def SealApartCardSaid : Prop := Claim7.holds Tryd.pinned (.plain (OpenSpec.ofChange sealApartSpec)) sealApartCard

/-- THE TIED CARD OF 'banyanlaw12.SealOthers'. -/
def sealOthersCard : Claim7 := { stood := { row := sealOthersRow, standIns := [], harness := (true, "0131f9f1a1f02ebf5a16687d2fe8903395483cdb43346dae7a1c73827a36235e"), looks := false }, kinds := [], alts := [], laidByText := true, laidKinds := [.data], laidTests := true, laidLooks := .later }
def SealOthersCardSaid : Prop := Claim7.holds Tryd.pinned (.plain (OpenSpec.ofChange sealOthersSpec)) sealOthersCard

/-- THE SECOND FORM's CARD OF 'banyanlaw12.SealKeys'. -/
def sealKeysUptoCard : Claim7 := { stood := { row := sealKeysUptoRow, standIns := [], harness := (true, "0131f9f1a1f02ebf5a16687d2fe8903395483cdb43346dae7a1c73827a36235e"), looks := false }, kinds := [], alts := [], laidByText := true, laidKinds := [.data], laidTests := true, laidLooks := .later }
def SealKeysUptoCardSaid : Prop := Claim7.holds Tryd.pinned (.plain (OpenSpec.upto sealKeysSpec)) sealKeysUptoCard

/-- THE SECOND FORM's CARD OF 'banyanlaw12.SealBlocks'. -/
def sealBlocksUptoCard : Claim7 := { stood := { row := sealBlocksUptoRow, standIns := [], harness := (true, "0131f9f1a1f02ebf5a16687d2fe8903395483cdb43346dae7a1c73827a36235e"), looks := false }, kinds := [], alts := [], laidByText := true, laidKinds := [.data], laidTests := true, laidLooks := .later }
def SealBlocksUptoCardSaid : Prop := Claim7.holds Tryd.pinned (.plain (OpenSpec.upto sealBlocksSpec)) sealBlocksUptoCard

/-- THE SECOND FORM's CARD OF 'banyanlaw12.SealOpens'. -/
def sealOpensUptoCard : Claim7 := { stood := { row := sealOpensUptoRow, standIns := [], harness := (true, "0131f9f1a1f02ebf5a16687d2fe8903395483cdb43346dae7a1c73827a36235e"), looks := false }, kinds := [], alts := [], laidByText := true, laidKinds := [.data], laidTests := true, laidLooks := .later }
def SealOpensUptoCardSaid : Prop := Claim7.holds Tryd.pinned (.plain (OpenSpec.upto sealOpensSpec)) sealOpensUptoCard

/-- THE SECOND FORM's CARD OF 'banyanlaw12.SealBack'. -/
def sealBackUptoCard : Claim7 := { stood := { row := sealBackUptoRow, standIns := [], harness := (true, "0131f9f1a1f02ebf5a16687d2fe8903395483cdb43346dae7a1c73827a36235e"), looks := false }, kinds := [], alts := [], laidByText := true, laidKinds := [.data], laidTests := true, laidLooks := .later }
def SealBackUptoCardSaid : Prop := Claim7.holds Tryd.pinned (.plain (OpenSpec.upto sealBackSpec)) sealBackUptoCard

/-- THE SECOND FORM's CARD OF 'banyanlaw12.SealStreams'. -/
def sealStreamsUptoCard : Claim7 := { stood := { row := sealStreamsUptoRow, standIns := [], harness := (true, "0131f9f1a1f02ebf5a16687d2fe8903395483cdb43346dae7a1c73827a36235e"), looks := false }, kinds := [], alts := [], laidByText := true, laidKinds := [.data], laidTests := true, laidLooks := .later }
def SealStreamsUptoCardSaid : Prop := Claim7.holds Tryd.pinned (.plain (OpenSpec.upto sealStreamsSpec)) sealStreamsUptoCard

/-- THE SECOND FORM's CARD OF 'banyanlaw12.SealApart'. -/
def sealApartUptoCard : Claim7 := { stood := { row := sealApartUptoRow, standIns := [], harness := (true, "0131f9f1a1f02ebf5a16687d2fe8903395483cdb43346dae7a1c73827a36235e"), looks := false }, kinds := [], alts := [], laidByText := true, laidKinds := [.data], laidTests := true, laidLooks := .later }
def SealApartUptoCardSaid : Prop := Claim7.holds Tryd.pinned (.plain (OpenSpec.upto sealApartSpec)) sealApartUptoCard

/-- THE SECOND FORM's CARD OF 'banyanlaw12.SealOthers'. -/
def sealOthersUptoCard : Claim7 := { stood := { row := sealOthersUptoRow, standIns := [], harness := (true, "0131f9f1a1f02ebf5a16687d2fe8903395483cdb43346dae7a1c73827a36235e"), looks := false }, kinds := [], alts := [], laidByText := true, laidKinds := [.data], laidTests := true, laidLooks := .later }
def SealOthersUptoCardSaid : Prop := Claim7.holds Tryd.pinned (.plain (OpenSpec.upto sealOthersSpec)) sealOthersUptoCard
end Rows
end Go.Proofs.YtfgdddejpdjllaaDoor
