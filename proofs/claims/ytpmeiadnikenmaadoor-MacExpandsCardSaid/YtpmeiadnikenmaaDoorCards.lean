/-
  DERIVED. GIVEN WITH THE SEED: THE CARDS: each row of YtpmeiadnikenmaaDoorRows.lean that lists a variable, with what it lists TIED to the program's text (the seventh form; the later family's looks); each row that meets fmt, with fmt's text TOLD by the authors' own Lean function (tested against real Go, not proved from fmt's source: count such statements apart). THE CARD IS WHAT COUNTS. Prove the row's statement (the work); the ties are given (YtpmeiadnikenmaaDoorTie.lean); close each card by the builder's one call (the guide's Derived/Test/ToyasCard.lean, 'card_holds'). Laid BY PROGRAM, IN A SANDBOX (cutbox-door.mjs). By AI agents, Wed Nov 11 2026. No macro, syntax, notation, axiom, sorry.
-/
import Derived.Test.YtpmeiadnikenmaaDoorRows
import GoSem.ClaimSeven
namespace Go.Proofs.YtpmeiadnikenmaaDoor
namespace Rows

/-- THE TIED CARD OF 'banyanlaw02.ShaSums'. -/
def shaSumsCard : Claim7 := { stood := { row := shaSumsRow, standIns := [], harness := (true, "e0374d2ffff8b996aa7eb96177f9d43dd083ddb5548ca805c513efc6b04d9a8e"), looks := false }, kinds := [], alts := [], laidByText := true, laidKinds := [.data], laidTests := true, laidLooks := .later }
def ShaSumsCardSaid : Prop := Claim7.holds Tryd.pinned (.plain (OpenSpec.ofChange shaSumsSpec)) shaSumsCard

/-- THE TIED CARD OF 'banyanlaw02.ShaParts'. -/
def shaPartsCard : Claim7 := { stood := { row := shaPartsRow, standIns := [], harness := (true, "e0374d2ffff8b996aa7eb96177f9d43dd083ddb5548ca805c513efc6b04d9a8e"), looks := false }, kinds := [], alts := [], laidByText := true, laidKinds := [.data], laidTests := true, laidLooks := .later }
def ShaPartsCardSaid : Prop := Claim7.holds Tryd.pinned (.plain (OpenSpec.ofChange shaPartsSpec)) shaPartsCard

/-- THE TIED CARD OF 'banyanlaw03.MacCodes'. -/
def macCodesCard : Claim7 := { stood := { row := macCodesRow, standIns := [], harness := (true, "e0374d2ffff8b996aa7eb96177f9d43dd083ddb5548ca805c513efc6b04d9a8e"), looks := false }, kinds := [], alts := [], laidByText := true, laidKinds := [.data], laidTests := true, laidLooks := .later }
def MacCodesCardSaid : Prop := Claim7.holds Tryd.pinned (.plain (OpenSpec.ofChange macCodesSpec)) macCodesCard

/-- THE TIED CARD OF 'banyanlaw03.MacExpands'. -/
def macExpandsCard : Claim7 := { stood := { row := macExpandsRow, standIns := [], harness := (true, "e0374d2ffff8b996aa7eb96177f9d43dd083ddb5548ca805c513efc6b04d9a8e"), looks := false }, kinds := [], alts := [], laidByText := true, laidKinds := [.data], laidTests := true, laidLooks := .later }
def MacExpandsCardSaid : Prop := Claim7.holds Tryd.pinned (.plain (OpenSpec.ofChange macExpandsSpec)) macExpandsCard

/-- THE TIED CARD OF 'banyanlaw03.MacBegins'. -/
def macBeginsCard : Claim7 := { stood := { row := macBeginsRow, standIns := [], harness := (true, "e0374d2ffff8b996aa7eb96177f9d43dd083ddb5548ca805c513efc6b04d9a8e"), looks := false }, kinds := [], alts := [], laidByText := true, laidKinds := [.data], laidTests := true, laidLooks := .later }
def MacBeginsCardSaid : Prop := Claim7.holds Tryd.pinned (.plain (OpenSpec.ofChange macBeginsSpec)) macBeginsCard

/-- THE TIED CARD OF 'banyanlaw03.MacPads'. -/
def macPadsCard : Claim7 := { stood := { row := macPadsRow, standIns := [], harness := (true, "e0374d2ffff8b996aa7eb96177f9d43dd083ddb5548ca805c513efc6b04d9a8e"), looks := false }, kinds := [], alts := [], laidByText := true, laidKinds := [.data], laidTests := true, laidLooks := .later }
def MacPadsCardSaid : Prop := Claim7.holds Tryd.pinned (.plain (OpenSpec.ofChange macPadsSpec)) macPadsCard

/-- THE TIED CARD OF 'banyanlaw03.MacInner'. -/
def macInnerCard : Claim7 := { stood := { row := macInnerRow, standIns := [], harness := (true, "e0374d2ffff8b996aa7eb96177f9d43dd083ddb5548ca805c513efc6b04d9a8e"), looks := false }, kinds := [], alts := [], laidByText := true, laidKinds := [.data], laidTests := true, laidLooks := .later }
def MacInnerCardSaid : Prop := Claim7.holds Tryd.pinned (.plain (OpenSpec.ofChange macInnerSpec)) macInnerCard

/-- THE TIED CARD OF 'banyanlaw03.MacStays'. -/
def macStaysCard : Claim7 := { stood := { row := macStaysRow, standIns := [], harness := (true, "e0374d2ffff8b996aa7eb96177f9d43dd083ddb5548ca805c513efc6b04d9a8e"), looks := false }, kinds := [], alts := [], laidByText := true, laidKinds := [.data], laidTests := true, laidLooks := .later }
def MacStaysCardSaid : Prop := Claim7.holds Tryd.pinned (.plain (OpenSpec.ofChange macStaysSpec)) macStaysCard

/-- THE TIED CARD OF 'banyanlaw03.MacChains'. -/
def macChainsCard : Claim7 := { stood := { row := macChainsRow, standIns := [], harness := (true, "e0374d2ffff8b996aa7eb96177f9d43dd083ddb5548ca805c513efc6b04d9a8e"), looks := false }, kinds := [], alts := [], laidByText := true, laidKinds := [.data], laidTests := true, laidLooks := .later }
def MacChainsCardSaid : Prop := Claim7.holds Tryd.pinned (.plain (OpenSpec.ofChange macChainsSpec)) macChainsCard

/-- THE SECOND FORM's CARD OF 'banyanlaw02.ShaSums'. -/
def shaSumsUptoCard : Claim7 := { stood := { row := shaSumsUptoRow, standIns := [], harness := (true, "e0374d2ffff8b996aa7eb96177f9d43dd083ddb5548ca805c513efc6b04d9a8e"), looks := false }, kinds := [], alts := [], laidByText := true, laidKinds := [.data], laidTests := true, laidLooks := .later }
def ShaSumsUptoCardSaid : Prop := Claim7.holds Tryd.pinned (.plain (OpenSpec.upto shaSumsSpec)) shaSumsUptoCard

/-- THE SECOND FORM's CARD OF 'banyanlaw02.ShaParts'. -/
def shaPartsUptoCard : Claim7 := { stood := { row := shaPartsUptoRow, standIns := [], harness := (true, "e0374d2ffff8b996aa7eb96177f9d43dd083ddb5548ca805c513efc6b04d9a8e"), looks := false }, kinds := [], alts := [], laidByText := true, laidKinds := [.data], laidTests := true, laidLooks := .later }
def ShaPartsUptoCardSaid : Prop := Claim7.holds Tryd.pinned (.plain (OpenSpec.upto shaPartsSpec)) shaPartsUptoCard

/-- THE SECOND FORM's CARD OF 'banyanlaw03.MacCodes'. -/
def macCodesUptoCard : Claim7 := { stood := { row := macCodesUptoRow, standIns := [], harness := (true, "e0374d2ffff8b996aa7eb96177f9d43dd083ddb5548ca805c513efc6b04d9a8e"), looks := false }, kinds := [], alts := [], laidByText := true, laidKinds := [.data], laidTests := true, laidLooks := .later }
def MacCodesUptoCardSaid : Prop := Claim7.holds Tryd.pinned (.plain (OpenSpec.upto macCodesSpec)) macCodesUptoCard

/-- THE SECOND FORM's CARD OF 'banyanlaw03.MacExpands'. -/
def macExpandsUptoCard : Claim7 := { stood := { row := macExpandsUptoRow, standIns := [], harness := (true, "e0374d2ffff8b996aa7eb96177f9d43dd083ddb5548ca805c513efc6b04d9a8e"), looks := false }, kinds := [], alts := [], laidByText := true, laidKinds := [.data], laidTests := true, laidLooks := .later }
def MacExpandsUptoCardSaid : Prop := Claim7.holds Tryd.pinned (.plain (OpenSpec.upto macExpandsSpec)) macExpandsUptoCard

/-- THE SECOND FORM's CARD OF 'banyanlaw03.MacBegins'. -/
def macBeginsUptoCard : Claim7 := { stood := { row := macBeginsUptoRow, standIns := [], harness := (true, "e0374d2ffff8b996aa7eb96177f9d43dd083ddb5548ca805c513efc6b04d9a8e"), looks := false }, kinds := [], alts := [], laidByText := true, laidKinds := [.data], laidTests := true, laidLooks := .later }
def MacBeginsUptoCardSaid : Prop := Claim7.holds Tryd.pinned (.plain (OpenSpec.upto macBeginsSpec)) macBeginsUptoCard

/-- THE SECOND FORM's CARD OF 'banyanlaw03.MacPads'. -/
def macPadsUptoCard : Claim7 := { stood := { row := macPadsUptoRow, standIns := [], harness := (true, "e0374d2ffff8b996aa7eb96177f9d43dd083ddb5548ca805c513efc6b04d9a8e"), looks := false }, kinds := [], alts := [], laidByText := true, laidKinds := [.data], laidTests := true, laidLooks := .later }
def MacPadsUptoCardSaid : Prop := Claim7.holds Tryd.pinned (.plain (OpenSpec.upto macPadsSpec)) macPadsUptoCard

/-- THE SECOND FORM's CARD OF 'banyanlaw03.MacInner'. -/
def macInnerUptoCard : Claim7 := { stood := { row := macInnerUptoRow, standIns := [], harness := (true, "e0374d2ffff8b996aa7eb96177f9d43dd083ddb5548ca805c513efc6b04d9a8e"), looks := false }, kinds := [], alts := [], laidByText := true, laidKinds := [.data], laidTests := true, laidLooks := .later }
def MacInnerUptoCardSaid : Prop := Claim7.holds Tryd.pinned (.plain (OpenSpec.upto macInnerSpec)) macInnerUptoCard

/-- THE SECOND FORM's CARD OF 'banyanlaw03.MacStays'. -/
def macStaysUptoCard : Claim7 := { stood := { row := macStaysUptoRow, standIns := [], harness := (true, "e0374d2ffff8b996aa7eb96177f9d43dd083ddb5548ca805c513efc6b04d9a8e"), looks := false }, kinds := [], alts := [], laidByText := true, laidKinds := [.data], laidTests := true, laidLooks := .later }
def MacStaysUptoCardSaid : Prop := Claim7.holds Tryd.pinned (.plain (OpenSpec.upto macStaysSpec)) macStaysUptoCard

/-- THE SECOND FORM's CARD OF 'banyanlaw03.MacChains'. -/
def macChainsUptoCard : Claim7 := { stood := { row := macChainsUptoRow, standIns := [], harness := (true, "e0374d2ffff8b996aa7eb96177f9d43dd083ddb5548ca805c513efc6b04d9a8e"), looks := false }, kinds := [], alts := [], laidByText := true, laidKinds := [.data], laidTests := true, laidLooks := .later }
def MacChainsUptoCardSaid : Prop := Claim7.holds Tryd.pinned (.plain (OpenSpec.upto macChainsSpec)) macChainsUptoCard
end Rows
end Go.Proofs.YtpmeiadnikenmaaDoor
