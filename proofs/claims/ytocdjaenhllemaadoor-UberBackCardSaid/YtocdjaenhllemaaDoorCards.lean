/-
  DERIVED. GIVEN WITH THE SEED: THE CARDS: each row of YtocdjaenhllemaaDoorRows.lean that lists a variable, with what it lists TIED to the program's text (the seventh form; the later family's looks); each row that meets fmt, with fmt's text TOLD by the authors' own Lean function (tested against real Go, not proved from fmt's source: count such statements apart). THE CARD IS WHAT COUNTS. Prove the row's statement (the work); the ties are given (YtocdjaenhllemaaDoorTie.lean); close each card by the builder's one call (the guide's Derived/Test/ToyasCard.lean, 'card_holds'). Laid BY PROGRAM, IN A SANDBOX (cutbox-door.mjs). By AI agents, Wed Nov 11 2026. No macro, syntax, notation, axiom, sorry.
-/
import Derived.Test.YtocdjaenhllemaaDoorRows
import GoSem.ClaimSeven
namespace Go.Proofs.YtocdjaenhllemaaDoor
namespace Rows

/-- THE TIED CARD OF 'banyanlaw10.UberPuts'. -/
def uberPutsCard : Claim7 := { stood := { row := uberPutsRow, standIns := [], harness := (true, "c9a66c9fc03c74372b55c74d61d048c4ab6c3d06d9801e353e7a9c1603144487"), looks := false }, kinds := [], alts := [], laidByText := true, laidKinds := [.data], laidTests := true, laidLooks := .later }
def UberPutsCardSaid : Prop := Claim7.holds Tryd.pinned (.plain (OpenSpec.ofChange uberPutsSpec)) uberPutsCard

/-- THE TIED CARD OF 'banyanlaw10.UberGets'. -/
def uberGetsCard : Claim7 := { stood := { row := uberGetsRow, standIns := [], harness := (true, "c9a66c9fc03c74372b55c74d61d048c4ab6c3d06d9801e353e7a9c1603144487"), looks := false }, kinds := [], alts := [], laidByText := true, laidKinds := [.data], laidTests := true, laidLooks := .later }
def UberGetsCardSaid : Prop := Claim7.holds Tryd.pinned (.plain (OpenSpec.ofChange uberGetsSpec)) uberGetsCard

/-- THE TIED CARD OF 'banyanlaw10.UberChooses'. -/
def uberChoosesCard : Claim7 := { stood := { row := uberChoosesRow, standIns := [], harness := (true, "c9a66c9fc03c74372b55c74d61d048c4ab6c3d06d9801e353e7a9c1603144487"), looks := false }, kinds := [], alts := [], laidByText := true, laidKinds := [.data], laidTests := true, laidLooks := .later }
def UberChoosesCardSaid : Prop := Claim7.holds Tryd.pinned (.plain (OpenSpec.ofChange uberChoosesSpec)) uberChoosesCard

/-- THE TIED CARD OF 'banyanlaw10.UberBack'. -/
def uberBackCard : Claim7 := { stood := { row := uberBackRow, standIns := [], harness := (true, "c9a66c9fc03c74372b55c74d61d048c4ab6c3d06d9801e353e7a9c1603144487"), looks := false }, kinds := [], alts := [], laidByText := true, laidKinds := [.data], laidTests := true, laidLooks := .later }
def UberBackCardSaid : Prop := Claim7.holds Tryd.pinned (.plain (OpenSpec.ofChange uberBackSpec)) uberBackCard

/-- THE TIED CARD OF 'banyanlaw10.UberNewer'. -/
def uberNewerCard : Claim7 := { stood := { row := uberNewerRow, standIns := [], harness := (true, "c9a66c9fc03c74372b55c74d61d048c4ab6c3d06d9801e353e7a9c1603144487"), looks := false }, kinds := [], alts := [], laidByText := true, laidKinds := [.data], laidTests := true, laidLooks := .later }
def UberNewerCardSaid : Prop := Claim7.holds Tryd.pinned (.plain (OpenSpec.ofChange uberNewerSpec)) uberNewerCard

/-- THE TIED CARD OF 'banyanlaw10.UberSizes'. -/
def uberSizesCard : Claim7 := { stood := { row := uberSizesRow, standIns := [], harness := (true, "c9a66c9fc03c74372b55c74d61d048c4ab6c3d06d9801e353e7a9c1603144487"), looks := false }, kinds := [], alts := [], laidByText := true, laidKinds := [.data], laidTests := true, laidLooks := .later }
def UberSizesCardSaid : Prop := Claim7.holds Tryd.pinned (.plain (OpenSpec.ofChange uberSizesSpec)) uberSizesCard

/-- THE SECOND FORM's CARD OF 'banyanlaw10.UberPuts'. -/
def uberPutsUptoCard : Claim7 := { stood := { row := uberPutsUptoRow, standIns := [], harness := (true, "c9a66c9fc03c74372b55c74d61d048c4ab6c3d06d9801e353e7a9c1603144487"), looks := false }, kinds := [], alts := [], laidByText := true, laidKinds := [.data], laidTests := true, laidLooks := .later }
def UberPutsUptoCardSaid : Prop := Claim7.holds Tryd.pinned (.plain (OpenSpec.upto uberPutsSpec)) uberPutsUptoCard

/-- THE SECOND FORM's CARD OF 'banyanlaw10.UberGets'. -/
def uberGetsUptoCard : Claim7 := { stood := { row := uberGetsUptoRow, standIns := [], harness := (true, "c9a66c9fc03c74372b55c74d61d048c4ab6c3d06d9801e353e7a9c1603144487"), looks := false }, kinds := [], alts := [], laidByText := true, laidKinds := [.data], laidTests := true, laidLooks := .later }
def UberGetsUptoCardSaid : Prop := Claim7.holds Tryd.pinned (.plain (OpenSpec.upto uberGetsSpec)) uberGetsUptoCard

/-- THE SECOND FORM's CARD OF 'banyanlaw10.UberChooses'. -/
def uberChoosesUptoCard : Claim7 := { stood := { row := uberChoosesUptoRow, standIns := [], harness := (true, "c9a66c9fc03c74372b55c74d61d048c4ab6c3d06d9801e353e7a9c1603144487"), looks := false }, kinds := [], alts := [], laidByText := true, laidKinds := [.data], laidTests := true, laidLooks := .later }
def UberChoosesUptoCardSaid : Prop := Claim7.holds Tryd.pinned (.plain (OpenSpec.upto uberChoosesSpec)) uberChoosesUptoCard

/-- THE SECOND FORM's CARD OF 'banyanlaw10.UberBack'. -/
def uberBackUptoCard : Claim7 := { stood := { row := uberBackUptoRow, standIns := [], harness := (true, "c9a66c9fc03c74372b55c74d61d048c4ab6c3d06d9801e353e7a9c1603144487"), looks := false }, kinds := [], alts := [], laidByText := true, laidKinds := [.data], laidTests := true, laidLooks := .later }
def UberBackUptoCardSaid : Prop := Claim7.holds Tryd.pinned (.plain (OpenSpec.upto uberBackSpec)) uberBackUptoCard

/-- THE SECOND FORM's CARD OF 'banyanlaw10.UberNewer'. -/
def uberNewerUptoCard : Claim7 := { stood := { row := uberNewerUptoRow, standIns := [], harness := (true, "c9a66c9fc03c74372b55c74d61d048c4ab6c3d06d9801e353e7a9c1603144487"), looks := false }, kinds := [], alts := [], laidByText := true, laidKinds := [.data], laidTests := true, laidLooks := .later }
def UberNewerUptoCardSaid : Prop := Claim7.holds Tryd.pinned (.plain (OpenSpec.upto uberNewerSpec)) uberNewerUptoCard

/-- THE SECOND FORM's CARD OF 'banyanlaw10.UberSizes'. -/
def uberSizesUptoCard : Claim7 := { stood := { row := uberSizesUptoRow, standIns := [], harness := (true, "c9a66c9fc03c74372b55c74d61d048c4ab6c3d06d9801e353e7a9c1603144487"), looks := false }, kinds := [], alts := [], laidByText := true, laidKinds := [.data], laidTests := true, laidLooks := .later }
def UberSizesUptoCardSaid : Prop := Claim7.holds Tryd.pinned (.plain (OpenSpec.upto uberSizesSpec)) uberSizesUptoCard
end Rows
end Go.Proofs.YtocdjaenhllemaaDoor
