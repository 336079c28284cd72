/-
  NARROWER THAN 'FOR EVERY INPUT', by the rows' own cells (each row's printed sentence says how): ShaSums: laid · ShaParts: laid · MacCodes: laid · MacExpands: laid · MacBegins: laid · MacPads: laid · MacInner: laid · MacStays: laid · MacChains: laid.
  DERIVED. THE GIVEN ROWS OF THIS SEAT. 9 by the template 'for every input the law returns true; each argument reads behind the call as it read before'; 0 by the template 'total and deterministic' (their statements: YtpmeiadnikenmaaDoorTotals.lean).
  GIVEN WITH THE SEED: the statements are not yours to turn. If you find one false, say at which input.
  Laid BY PROGRAM, IN A SANDBOX (cutbox-rows.mjs): the forced cells as the released guide's own fill.sh prints them over the translation e66888a7e6e6ffc3… (all of the seat's roots in one cut). By AI agents, Wed Nov 11 2026. No macro, syntax, notation, axiom, sorry.
-/
import Derived.Test.YtpmeiadnikenmaaDoorChecked
import GoSem.Claim
import GoSem.ClaimJoined
import GoSem.ClaimMapViews
import Derived.JoinedTies
import Derived.KernelRfl
namespace Go.Proofs.YtpmeiadnikenmaaDoor
/- THE CELL 'sum', in the pinned program and in every row, IS THE sha256 OF THE DUMP (.gsa) THAT YtpmeiadnikenmaaDoorProg.lean LOADS. Nothing in Lean hashes anything: it is a label: what it is worth is what the hold of that sum in a sandbox is worth. -/
noncomputable def Tryd.pinned : Pinned := { name := "ytpmeiadnikenmaadoor", sum := "e66888a7e6e6ffc3c126211a1c7cfd3ca21b236d0a51dd614936491dd5dfb939", checked := Tryd.checked }
namespace Rows
def none {H : Type} : Left H := { results := [], args := [] }

/- WHAT THE LISTED PACKAGE-LEVEL VARIABLES READ AS WHEN THE CALL BEGINS. Each datum BY PROGRAM (the guide's laid-datum.mjs) off the statement by which the dump's own 'gosem.cut.vars' lays the variable. In a bare row this is a premise. The card (YtpmeiadnikenmaaDoorCards.lean) ties it to the program's text. -/
def laid_banyan_sha_roundNumbers {H : Type} : DataW H := .agg [.lit (.int .u32 1116352408), .lit (.int .u32 1899447441), .lit (.int .u32 3049323471), .lit (.int .u32 3921009573), .lit (.int .u32 961987163), .lit (.int .u32 1508970993), .lit (.int .u32 2453635748), .lit (.int .u32 2870763221), .lit (.int .u32 3624381080), .lit (.int .u32 310598401), .lit (.int .u32 607225278), .lit (.int .u32 1426881987), .lit (.int .u32 1925078388), .lit (.int .u32 2162078206), .lit (.int .u32 2614888103), .lit (.int .u32 3248222580), .lit (.int .u32 3835390401), .lit (.int .u32 4022224774), .lit (.int .u32 264347078), .lit (.int .u32 604807628), .lit (.int .u32 770255983), .lit (.int .u32 1249150122), .lit (.int .u32 1555081692), .lit (.int .u32 1996064986), .lit (.int .u32 2554220882), .lit (.int .u32 2821834349), .lit (.int .u32 2952996808), .lit (.int .u32 3210313671), .lit (.int .u32 3336571891), .lit (.int .u32 3584528711), .lit (.int .u32 113926993), .lit (.int .u32 338241895), .lit (.int .u32 666307205), .lit (.int .u32 773529912), .lit (.int .u32 1294757372), .lit (.int .u32 1396182291), .lit (.int .u32 1695183700), .lit (.int .u32 1986661051), .lit (.int .u32 2177026350), .lit (.int .u32 2456956037), .lit (.int .u32 2730485921), .lit (.int .u32 2820302411), .lit (.int .u32 3259730800), .lit (.int .u32 3345764771), .lit (.int .u32 3516065817), .lit (.int .u32 3600352804), .lit (.int .u32 4094571909), .lit (.int .u32 275423344), .lit (.int .u32 430227734), .lit (.int .u32 506948616), .lit (.int .u32 659060556), .lit (.int .u32 883997877), .lit (.int .u32 958139571), .lit (.int .u32 1322822218), .lit (.int .u32 1537002063), .lit (.int .u32 1747873779), .lit (.int .u32 1955562222), .lit (.int .u32 2024104815), .lit (.int .u32 2227730452), .lit (.int .u32 2361852424), .lit (.int .u32 2428436474), .lit (.int .u32 2756734187), .lit (.int .u32 3204031479), .lit (.int .u32 3329325298)]

/-- 'banyanlaw02.ShaSums': WHATEVER THE INPUT: true; the input reads as it did. -/
def shaSumsSpec : ChangeSpec := { name := "shaSums", fn := fun _ => fun
  | [d1, d2] => { results := [.lit (.bool true)], args := [d1, d2] }
  | _ => none }
def shaSumsRow : OpenClaim := { program := "ytpmeiadnikenmaadoor", sum := "e66888a7e6e6ffc3c126211a1c7cfd3ca21b236d0a51dd614936491dd5dfb939", func := "banyan/banyanlaw02.ShaSums", spec := "shaSums", named := ["banyan/sha.roundNumbers"], apart := false, laid := [("banyan/sha.roundNumbers", laid_banyan_sha_roundNumbers)] }
def ShaSumsSaid : Prop := shaSumsRow.holds Tryd.pinned (OpenSpec.ofChange shaSumsSpec)

/-- ITS FALSE NEIGHBOUR: 'it returns false'. Refute it at one input. -/
def shaSumsWrong : ChangeSpec := { name := "shaSums", fn := fun _ => fun
  | [d1, d2] => { results := [.lit (.bool false)], args := [d1, d2] }
  | _ => none }
def ShaSumsWrongFalsely : Prop := shaSumsRow.holds Tryd.pinned (OpenSpec.ofChange shaSumsWrong)

/-- 'banyanlaw02.ShaParts': WHATEVER THE INPUT: true; the input reads as it did. -/
def shaPartsSpec : ChangeSpec := { name := "shaParts", fn := fun _ => fun
  | [d] => { results := [.lit (.bool true)], args := [d] }
  | _ => none }
def shaPartsRow : OpenClaim := { program := "ytpmeiadnikenmaadoor", sum := "e66888a7e6e6ffc3c126211a1c7cfd3ca21b236d0a51dd614936491dd5dfb939", func := "banyan/banyanlaw02.ShaParts", spec := "shaParts", named := ["banyan/sha.roundNumbers"], apart := false, laid := [("banyan/sha.roundNumbers", laid_banyan_sha_roundNumbers)] }
def ShaPartsSaid : Prop := shaPartsRow.holds Tryd.pinned (OpenSpec.ofChange shaPartsSpec)

/-- ITS FALSE NEIGHBOUR: 'it returns false'. Refute it at one input. -/
def shaPartsWrong : ChangeSpec := { name := "shaParts", fn := fun _ => fun
  | [d] => { results := [.lit (.bool false)], args := [d] }
  | _ => none }
def ShaPartsWrongFalsely : Prop := shaPartsRow.holds Tryd.pinned (OpenSpec.ofChange shaPartsWrong)

/-- 'banyanlaw03.MacCodes': WHATEVER THE INPUT: true; the input reads as it did. -/
def macCodesSpec : ChangeSpec := { name := "macCodes", fn := fun _ => fun
  | [d] => { results := [.lit (.bool true)], args := [d] }
  | _ => none }
def macCodesRow : OpenClaim := { program := "ytpmeiadnikenmaadoor", sum := "e66888a7e6e6ffc3c126211a1c7cfd3ca21b236d0a51dd614936491dd5dfb939", func := "banyan/banyanlaw03.MacCodes", spec := "macCodes", unfollowed := true, recurses := true, named := ["banyan/sha.roundNumbers"], apart := false, laid := [("banyan/sha.roundNumbers", laid_banyan_sha_roundNumbers)] }
def MacCodesSaid : Prop := macCodesRow.holds Tryd.pinned (OpenSpec.ofChange macCodesSpec)

/-- ITS FALSE NEIGHBOUR: 'it returns false'. Refute it at one input. -/
def macCodesWrong : ChangeSpec := { name := "macCodes", fn := fun _ => fun
  | [d] => { results := [.lit (.bool false)], args := [d] }
  | _ => none }
def MacCodesWrongFalsely : Prop := macCodesRow.holds Tryd.pinned (OpenSpec.ofChange macCodesWrong)

/-- 'banyanlaw03.MacExpands': WHATEVER THE INPUT: true; the input reads as it did. -/
def macExpandsSpec : ChangeSpec := { name := "macExpands", fn := fun _ => fun
  | [d1, d2, d3] => { results := [.lit (.bool true)], args := [d1, d2, d3] }
  | _ => none }
def macExpandsRow : OpenClaim := { program := "ytpmeiadnikenmaadoor", sum := "e66888a7e6e6ffc3c126211a1c7cfd3ca21b236d0a51dd614936491dd5dfb939", func := "banyan/banyanlaw03.MacExpands", spec := "macExpands", unfollowed := true, recurses := true, named := ["banyan/sha.roundNumbers"], apart := false, laid := [("banyan/sha.roundNumbers", laid_banyan_sha_roundNumbers)] }
def MacExpandsSaid : Prop := macExpandsRow.holds Tryd.pinned (OpenSpec.ofChange macExpandsSpec)

/-- ITS FALSE NEIGHBOUR: 'it returns false'. Refute it at one input. -/
def macExpandsWrong : ChangeSpec := { name := "macExpands", fn := fun _ => fun
  | [d1, d2, d3] => { results := [.lit (.bool false)], args := [d1, d2, d3] }
  | _ => none }
def MacExpandsWrongFalsely : Prop := macExpandsRow.holds Tryd.pinned (OpenSpec.ofChange macExpandsWrong)

/-- 'banyanlaw03.MacBegins': WHATEVER THE INPUT: true; the input reads as it did. -/
def macBeginsSpec : ChangeSpec := { name := "macBegins", fn := fun _ => fun
  | [d] => { results := [.lit (.bool true)], args := [d] }
  | _ => none }
def macBeginsRow : OpenClaim := { program := "ytpmeiadnikenmaadoor", sum := "e66888a7e6e6ffc3c126211a1c7cfd3ca21b236d0a51dd614936491dd5dfb939", func := "banyan/banyanlaw03.MacBegins", spec := "macBegins", unfollowed := true, recurses := true, named := ["banyan/sha.roundNumbers"], apart := false, laid := [("banyan/sha.roundNumbers", laid_banyan_sha_roundNumbers)] }
def MacBeginsSaid : Prop := macBeginsRow.holds Tryd.pinned (OpenSpec.ofChange macBeginsSpec)

/-- ITS FALSE NEIGHBOUR: 'it returns false'. Refute it at one input. -/
def macBeginsWrong : ChangeSpec := { name := "macBegins", fn := fun _ => fun
  | [d] => { results := [.lit (.bool false)], args := [d] }
  | _ => none }
def MacBeginsWrongFalsely : Prop := macBeginsRow.holds Tryd.pinned (OpenSpec.ofChange macBeginsWrong)

/-- 'banyanlaw03.MacPads': WHATEVER THE INPUT: true; the input reads as it did. -/
def macPadsSpec : ChangeSpec := { name := "macPads", fn := fun _ => fun
  | [d1, d2, d3] => { results := [.lit (.bool true)], args := [d1, d2, d3] }
  | _ => none }
def macPadsRow : OpenClaim := { program := "ytpmeiadnikenmaadoor", sum := "e66888a7e6e6ffc3c126211a1c7cfd3ca21b236d0a51dd614936491dd5dfb939", func := "banyan/banyanlaw03.MacPads", spec := "macPads", unfollowed := true, recurses := true, named := ["banyan/sha.roundNumbers"], apart := false, laid := [("banyan/sha.roundNumbers", laid_banyan_sha_roundNumbers)] }
def MacPadsSaid : Prop := macPadsRow.holds Tryd.pinned (OpenSpec.ofChange macPadsSpec)

/-- ITS FALSE NEIGHBOUR: 'it returns false'. Refute it at one input. -/
def macPadsWrong : ChangeSpec := { name := "macPads", fn := fun _ => fun
  | [d1, d2, d3] => { results := [.lit (.bool false)], args := [d1, d2, d3] }
  | _ => none }
def MacPadsWrongFalsely : Prop := macPadsRow.holds Tryd.pinned (OpenSpec.ofChange macPadsWrong)

/-- 'banyanlaw03.MacInner': WHATEVER THE INPUT: true; the input reads as it did. -/
def macInnerSpec : ChangeSpec := { name := "macInner", fn := fun _ => fun
  | [d1, d2] => { results := [.lit (.bool true)], args := [d1, d2] }
  | _ => none }
def macInnerRow : OpenClaim := { program := "ytpmeiadnikenmaadoor", sum := "e66888a7e6e6ffc3c126211a1c7cfd3ca21b236d0a51dd614936491dd5dfb939", func := "banyan/banyanlaw03.MacInner", spec := "macInner", unfollowed := true, recurses := true, named := ["banyan/sha.roundNumbers"], apart := false, laid := [("banyan/sha.roundNumbers", laid_banyan_sha_roundNumbers)] }
def MacInnerSaid : Prop := macInnerRow.holds Tryd.pinned (OpenSpec.ofChange macInnerSpec)

/-- ITS FALSE NEIGHBOUR: 'it returns false'. Refute it at one input. -/
def macInnerWrong : ChangeSpec := { name := "macInner", fn := fun _ => fun
  | [d1, d2] => { results := [.lit (.bool false)], args := [d1, d2] }
  | _ => none }
def MacInnerWrongFalsely : Prop := macInnerRow.holds Tryd.pinned (OpenSpec.ofChange macInnerWrong)

/-- 'banyanlaw03.MacStays': WHATEVER THE INPUT: true; the input reads as it did. -/
def macStaysSpec : ChangeSpec := { name := "macStays", fn := fun _ => fun
  | [d1, d2] => { results := [.lit (.bool true)], args := [d1, d2] }
  | _ => none }
def macStaysRow : OpenClaim := { program := "ytpmeiadnikenmaadoor", sum := "e66888a7e6e6ffc3c126211a1c7cfd3ca21b236d0a51dd614936491dd5dfb939", func := "banyan/banyanlaw03.MacStays", spec := "macStays", unfollowed := true, recurses := true, named := ["banyan/sha.roundNumbers"], apart := false, laid := [("banyan/sha.roundNumbers", laid_banyan_sha_roundNumbers)] }
def MacStaysSaid : Prop := macStaysRow.holds Tryd.pinned (OpenSpec.ofChange macStaysSpec)

/-- ITS FALSE NEIGHBOUR: 'it returns false'. Refute it at one input. -/
def macStaysWrong : ChangeSpec := { name := "macStays", fn := fun _ => fun
  | [d1, d2] => { results := [.lit (.bool false)], args := [d1, d2] }
  | _ => none }
def MacStaysWrongFalsely : Prop := macStaysRow.holds Tryd.pinned (OpenSpec.ofChange macStaysWrong)

/-- 'banyanlaw03.MacChains': WHATEVER THE INPUT: true; the input reads as it did. -/
def macChainsSpec : ChangeSpec := { name := "macChains", fn := fun _ => fun
  | [d1, d2, d3] => { results := [.lit (.bool true)], args := [d1, d2, d3] }
  | _ => none }
def macChainsRow : OpenClaim := { program := "ytpmeiadnikenmaadoor", sum := "e66888a7e6e6ffc3c126211a1c7cfd3ca21b236d0a51dd614936491dd5dfb939", func := "banyan/banyanlaw03.MacChains", spec := "macChains", unfollowed := true, recurses := true, named := ["banyan/sha.roundNumbers"], apart := false, laid := [("banyan/sha.roundNumbers", laid_banyan_sha_roundNumbers)] }
def MacChainsSaid : Prop := macChainsRow.holds Tryd.pinned (OpenSpec.ofChange macChainsSpec)

/-- ITS FALSE NEIGHBOUR: 'it returns false'. Refute it at one input. -/
def macChainsWrong : ChangeSpec := { name := "macChains", fn := fun _ => fun
  | [d1, d2, d3] => { results := [.lit (.bool false)], args := [d1, d2, d3] }
  | _ => none }
def MacChainsWrongFalsely : Prop := macChainsRow.holds Tryd.pinned (OpenSpec.ofChange macChainsWrong)

/- THE SECOND FORM. 'bulk': how many values and letters a reading holds, each counted each time it is reached (what is shared counts as often as it is met; a slice's spare places count too). A statement '..UptoSaid' is the law's where the arguments, and the package variables that the reading takes, are together of bulk at most 1048576: NARROWER than '..Said'. Prove '..Said' where nothing that the law and all that it calls make is longer than what came in: it says more and counts as full. Else prove '..UptoSaid'. A law counts once. -/
mutual
def uptoBulk {H : Type} : DataW H → Nat
  | .lit (.string bytes) => bytes.length + 1
  | .lit _ => 1
  | .nil => 1
  | .ptr d => uptoBulk d + 1
  | .slice elems spare => uptoBulkAll elems + uptoBulkAll spare + 1
  | .agg parts => uptoBulkAll parts + 1
  | .iface _ d => uptoBulk d + 1
  | .map entries => uptoBulkEntries entries + 1
  | .held _ => 1
def uptoBulkAll {H : Type} : List (DataW H) → Nat
  | [] => 0
  | d :: r => uptoBulk d + uptoBulkAll r
def uptoBulkEntries {H : Type} : List (Lit × DataW H) → Nat
  | [] => 0
  | x :: r => uptoBulkEntry x + uptoBulkEntries r
def uptoBulkEntry {H : Type} : Lit × DataW H → Nat
  | (.string bytes, d) => bytes.length + uptoBulk d + 1
  | (_, d) => uptoBulk d + 1
 end
def uptoSmall : (H : Type) → List (DataW H) → Bool := fun _ ds => decide (uptoBulkAll ds ≤ 1048576)
def OpenSpec.upto (s : _root_.Go.ChangeSpec) : _root_.Go.OpenSpec := { _root_.Go.OpenSpec.ofChange s with cond := some uptoSmall }

/-- 'banyanlaw02.ShaSums', WHERE WHAT IT READS IS OF BULK AT MOST 1048576: true; the input reads as it did. -/
def shaSumsUptoRow : OpenClaim := { program := "ytpmeiadnikenmaadoor", sum := "e66888a7e6e6ffc3c126211a1c7cfd3ca21b236d0a51dd614936491dd5dfb939", func := "banyan/banyanlaw02.ShaSums", spec := "shaSums", named := ["banyan/sha.roundNumbers"], apart := false, laid := [("banyan/sha.roundNumbers", laid_banyan_sha_roundNumbers)], narrowed := true }
def ShaSumsUptoSaid : Prop := shaSumsUptoRow.holds Tryd.pinned (OpenSpec.upto shaSumsSpec)

/-- 'banyanlaw02.ShaParts', WHERE WHAT IT READS IS OF BULK AT MOST 1048576: true; the input reads as it did. -/
def shaPartsUptoRow : OpenClaim := { program := "ytpmeiadnikenmaadoor", sum := "e66888a7e6e6ffc3c126211a1c7cfd3ca21b236d0a51dd614936491dd5dfb939", func := "banyan/banyanlaw02.ShaParts", spec := "shaParts", named := ["banyan/sha.roundNumbers"], apart := false, laid := [("banyan/sha.roundNumbers", laid_banyan_sha_roundNumbers)], narrowed := true }
def ShaPartsUptoSaid : Prop := shaPartsUptoRow.holds Tryd.pinned (OpenSpec.upto shaPartsSpec)

/-- 'banyanlaw03.MacCodes', WHERE WHAT IT READS IS OF BULK AT MOST 1048576: true; the input reads as it did. -/
def macCodesUptoRow : OpenClaim := { program := "ytpmeiadnikenmaadoor", sum := "e66888a7e6e6ffc3c126211a1c7cfd3ca21b236d0a51dd614936491dd5dfb939", func := "banyan/banyanlaw03.MacCodes", spec := "macCodes", unfollowed := true, recurses := true, named := ["banyan/sha.roundNumbers"], apart := false, laid := [("banyan/sha.roundNumbers", laid_banyan_sha_roundNumbers)], narrowed := true }
def MacCodesUptoSaid : Prop := macCodesUptoRow.holds Tryd.pinned (OpenSpec.upto macCodesSpec)

/-- 'banyanlaw03.MacExpands', WHERE WHAT IT READS IS OF BULK AT MOST 1048576: true; the input reads as it did. -/
def macExpandsUptoRow : OpenClaim := { program := "ytpmeiadnikenmaadoor", sum := "e66888a7e6e6ffc3c126211a1c7cfd3ca21b236d0a51dd614936491dd5dfb939", func := "banyan/banyanlaw03.MacExpands", spec := "macExpands", unfollowed := true, recurses := true, named := ["banyan/sha.roundNumbers"], apart := false, laid := [("banyan/sha.roundNumbers", laid_banyan_sha_roundNumbers)], narrowed := true }
def MacExpandsUptoSaid : Prop := macExpandsUptoRow.holds Tryd.pinned (OpenSpec.upto macExpandsSpec)

/-- 'banyanlaw03.MacBegins', WHERE WHAT IT READS IS OF BULK AT MOST 1048576: true; the input reads as it did. -/
def macBeginsUptoRow : OpenClaim := { program := "ytpmeiadnikenmaadoor", sum := "e66888a7e6e6ffc3c126211a1c7cfd3ca21b236d0a51dd614936491dd5dfb939", func := "banyan/banyanlaw03.MacBegins", spec := "macBegins", unfollowed := true, recurses := true, named := ["banyan/sha.roundNumbers"], apart := false, laid := [("banyan/sha.roundNumbers", laid_banyan_sha_roundNumbers)], narrowed := true }
def MacBeginsUptoSaid : Prop := macBeginsUptoRow.holds Tryd.pinned (OpenSpec.upto macBeginsSpec)

/-- 'banyanlaw03.MacPads', WHERE WHAT IT READS IS OF BULK AT MOST 1048576: true; the input reads as it did. -/
def macPadsUptoRow : OpenClaim := { program := "ytpmeiadnikenmaadoor", sum := "e66888a7e6e6ffc3c126211a1c7cfd3ca21b236d0a51dd614936491dd5dfb939", func := "banyan/banyanlaw03.MacPads", spec := "macPads", unfollowed := true, recurses := true, named := ["banyan/sha.roundNumbers"], apart := false, laid := [("banyan/sha.roundNumbers", laid_banyan_sha_roundNumbers)], narrowed := true }
def MacPadsUptoSaid : Prop := macPadsUptoRow.holds Tryd.pinned (OpenSpec.upto macPadsSpec)

/-- 'banyanlaw03.MacInner', WHERE WHAT IT READS IS OF BULK AT MOST 1048576: true; the input reads as it did. -/
def macInnerUptoRow : OpenClaim := { program := "ytpmeiadnikenmaadoor", sum := "e66888a7e6e6ffc3c126211a1c7cfd3ca21b236d0a51dd614936491dd5dfb939", func := "banyan/banyanlaw03.MacInner", spec := "macInner", unfollowed := true, recurses := true, named := ["banyan/sha.roundNumbers"], apart := false, laid := [("banyan/sha.roundNumbers", laid_banyan_sha_roundNumbers)], narrowed := true }
def MacInnerUptoSaid : Prop := macInnerUptoRow.holds Tryd.pinned (OpenSpec.upto macInnerSpec)

/-- 'banyanlaw03.MacStays', WHERE WHAT IT READS IS OF BULK AT MOST 1048576: true; the input reads as it did. -/
def macStaysUptoRow : OpenClaim := { program := "ytpmeiadnikenmaadoor", sum := "e66888a7e6e6ffc3c126211a1c7cfd3ca21b236d0a51dd614936491dd5dfb939", func := "banyan/banyanlaw03.MacStays", spec := "macStays", unfollowed := true, recurses := true, named := ["banyan/sha.roundNumbers"], apart := false, laid := [("banyan/sha.roundNumbers", laid_banyan_sha_roundNumbers)], narrowed := true }
def MacStaysUptoSaid : Prop := macStaysUptoRow.holds Tryd.pinned (OpenSpec.upto macStaysSpec)

/-- 'banyanlaw03.MacChains', WHERE WHAT IT READS IS OF BULK AT MOST 1048576: true; the input reads as it did. -/
def macChainsUptoRow : OpenClaim := { program := "ytpmeiadnikenmaadoor", sum := "e66888a7e6e6ffc3c126211a1c7cfd3ca21b236d0a51dd614936491dd5dfb939", func := "banyan/banyanlaw03.MacChains", spec := "macChains", unfollowed := true, recurses := true, named := ["banyan/sha.roundNumbers"], apart := false, laid := [("banyan/sha.roundNumbers", laid_banyan_sha_roundNumbers)], narrowed := true }
def MacChainsUptoSaid : Prop := macChainsUptoRow.holds Tryd.pinned (OpenSpec.upto macChainsSpec)

end Rows
end Go.Proofs.YtpmeiadnikenmaaDoor
