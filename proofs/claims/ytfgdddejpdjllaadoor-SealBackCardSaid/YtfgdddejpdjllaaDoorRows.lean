/-
  NARROWER THAN 'FOR EVERY INPUT', by the rows' own cells (each row's printed sentence says how): SealKeys: laid · SealBlocks: laid · SealOpens: laid · SealBack: laid · SealStreams: laid · SealApart: laid · SealOthers: laid.
  DERIVED. THE GIVEN ROWS OF THIS SEAT. 7 by the template 'for every input the law returns true; each argument reads behind the call as it read before'; 0 by the template 'total and deterministic' (their statements: YtfgdddejpdjllaaDoorTotals.lean).
  GIVEN WITH THE SEED: the statements are not yours to turn. If you find one false, say at which input.
  Laid BY PROGRAM, IN A SANDBOX (cutbox-rows.mjs): the forced cells as the released guide's own fill.sh prints them over the translation 85735019bdecbfd5… (all of the seat's roots in one cut). By AI agents, Wed Nov 11 2026. No macro, syntax, notation, axiom, sorry.
-/
import Derived.Test.YtfgdddejpdjllaaDoorChecked
import GoSem.Claim
import GoSem.ClaimJoined
import GoSem.ClaimMapViews
import Derived.JoinedTies
import Derived.KernelRfl
namespace Go.Proofs.YtfgdddejpdjllaaDoor
/- THE CELL 'sum', in the pinned program and in every row, IS THE sha256 OF THE DUMP (.gsa) THAT YtfgdddejpdjllaaDoorProg.lean LOADS. Nothing in Lean hashes anything: it is a label: what it is worth is what the hold of that sum in a sandbox is worth. -/
noncomputable def Tryd.pinned : Pinned := { name := "ytfgdddejpdjllaadoor", sum := "85735019bdecbfd516338d2d0341d0af059faed0e41d0f4143a298e24c548673", checked := Tryd.checked }
namespace Rows
def none {H : Type} : Left H := { results := [], args := [] }

/- WHAT THE LISTED PACKAGE-LEVEL VARIABLES READ AS WHEN THE CALL BEGINS. Each datum BY PROGRAM (the guide's laid-datum.mjs) off the statement by which the dump's own 'gosem.cut.vars' lays the variable. In a bare row this is a premise. The card (YtfgdddejpdjllaaDoorCards.lean) ties it to the program's text. -/
def laid_banyan_sha_roundNumbers {H : Type} : DataW H := .agg [.lit (.int .u32 1116352408), .lit (.int .u32 1899447441), .lit (.int .u32 3049323471), .lit (.int .u32 3921009573), .lit (.int .u32 961987163), .lit (.int .u32 1508970993), .lit (.int .u32 2453635748), .lit (.int .u32 2870763221), .lit (.int .u32 3624381080), .lit (.int .u32 310598401), .lit (.int .u32 607225278), .lit (.int .u32 1426881987), .lit (.int .u32 1925078388), .lit (.int .u32 2162078206), .lit (.int .u32 2614888103), .lit (.int .u32 3248222580), .lit (.int .u32 3835390401), .lit (.int .u32 4022224774), .lit (.int .u32 264347078), .lit (.int .u32 604807628), .lit (.int .u32 770255983), .lit (.int .u32 1249150122), .lit (.int .u32 1555081692), .lit (.int .u32 1996064986), .lit (.int .u32 2554220882), .lit (.int .u32 2821834349), .lit (.int .u32 2952996808), .lit (.int .u32 3210313671), .lit (.int .u32 3336571891), .lit (.int .u32 3584528711), .lit (.int .u32 113926993), .lit (.int .u32 338241895), .lit (.int .u32 666307205), .lit (.int .u32 773529912), .lit (.int .u32 1294757372), .lit (.int .u32 1396182291), .lit (.int .u32 1695183700), .lit (.int .u32 1986661051), .lit (.int .u32 2177026350), .lit (.int .u32 2456956037), .lit (.int .u32 2730485921), .lit (.int .u32 2820302411), .lit (.int .u32 3259730800), .lit (.int .u32 3345764771), .lit (.int .u32 3516065817), .lit (.int .u32 3600352804), .lit (.int .u32 4094571909), .lit (.int .u32 275423344), .lit (.int .u32 430227734), .lit (.int .u32 506948616), .lit (.int .u32 659060556), .lit (.int .u32 883997877), .lit (.int .u32 958139571), .lit (.int .u32 1322822218), .lit (.int .u32 1537002063), .lit (.int .u32 1747873779), .lit (.int .u32 1955562222), .lit (.int .u32 2024104815), .lit (.int .u32 2227730452), .lit (.int .u32 2361852424), .lit (.int .u32 2428436474), .lit (.int .u32 2756734187), .lit (.int .u32 3204031479), .lit (.int .u32 3329325298)]

/-- 'banyanlaw12.SealKeys': WHATEVER THE INPUT: true; the input reads as it did. -/
def sealKeysSpec : ChangeSpec := { name := "sealKeys", fn := fun _ => fun
  | [d] => { results := [.lit (.bool true)], args := [d] }
  | _ => none }
def sealKeysRow : OpenClaim := { program := "ytfgdddejpdjllaadoor", sum := "85735019bdecbfd516338d2d0341d0af059faed0e41d0f4143a298e24c548673", func := "banyan/banyanlaw12.SealKeys", spec := "sealKeys", unfollowed := true, recurses := true, named := ["banyan/sha.roundNumbers"], apart := false, laid := [("banyan/sha.roundNumbers", laid_banyan_sha_roundNumbers)] }
def SealKeysSaid : Prop := sealKeysRow.holds Tryd.pinned (OpenSpec.ofChange sealKeysSpec)

/-- ITS FALSE NEIGHBOUR: 'it returns false'. Refute it at one input. -/
def sealKeysWrong : ChangeSpec := { name := "sealKeys", fn := fun _ => fun
  | [d] => { results := [.lit (.bool false)], args := [d] }
  | _ => none }
def SealKeysWrongFalsely : Prop := sealKeysRow.holds Tryd.pinned (OpenSpec.ofChange sealKeysWrong)

/-- 'banyanlaw12.SealBlocks': WHATEVER THE INPUT: true; the input reads as it did. -/
def sealBlocksSpec : ChangeSpec := { name := "sealBlocks", fn := fun _ => fun
  | [d] => { results := [.lit (.bool true)], args := [d] }
  | _ => none }
def sealBlocksRow : OpenClaim := { program := "ytfgdddejpdjllaadoor", sum := "85735019bdecbfd516338d2d0341d0af059faed0e41d0f4143a298e24c548673", func := "banyan/banyanlaw12.SealBlocks", spec := "sealBlocks", unfollowed := true, recurses := true, named := ["banyan/sha.roundNumbers"], apart := false, laid := [("banyan/sha.roundNumbers", laid_banyan_sha_roundNumbers)] }
def SealBlocksSaid : Prop := sealBlocksRow.holds Tryd.pinned (OpenSpec.ofChange sealBlocksSpec)

/-- ITS FALSE NEIGHBOUR: 'it returns false'. Refute it at one input. -/
def sealBlocksWrong : ChangeSpec := { name := "sealBlocks", fn := fun _ => fun
  | [d] => { results := [.lit (.bool false)], args := [d] }
  | _ => none }
def SealBlocksWrongFalsely : Prop := sealBlocksRow.holds Tryd.pinned (OpenSpec.ofChange sealBlocksWrong)

/-- 'banyanlaw12.SealOpens': WHATEVER THE INPUT: true; the input reads as it did. -/
def sealOpensSpec : ChangeSpec := { name := "sealOpens", fn := fun _ => fun
  | [d] => { results := [.lit (.bool true)], args := [d] }
  | _ => none }
def sealOpensRow : OpenClaim := { program := "ytfgdddejpdjllaadoor", sum := "85735019bdecbfd516338d2d0341d0af059faed0e41d0f4143a298e24c548673", func := "banyan/banyanlaw12.SealOpens", spec := "sealOpens", unfollowed := true, recurses := true, named := ["banyan/sha.roundNumbers"], apart := false, laid := [("banyan/sha.roundNumbers", laid_banyan_sha_roundNumbers)] }
def SealOpensSaid : Prop := sealOpensRow.holds Tryd.pinned (OpenSpec.ofChange sealOpensSpec)

/-- ITS FALSE NEIGHBOUR: 'it returns false'. Refute it at one input. -/
def sealOpensWrong : ChangeSpec := { name := "sealOpens", fn := fun _ => fun
  | [d] => { results := [.lit (.bool false)], args := [d] }
  | _ => none }
def SealOpensWrongFalsely : Prop := sealOpensRow.holds Tryd.pinned (OpenSpec.ofChange sealOpensWrong)

/-- 'banyanlaw12.SealBack': WHATEVER THE INPUT: true; the input reads as it did. -/
def sealBackSpec : ChangeSpec := { name := "sealBack", fn := fun _ => fun
  | [d] => { results := [.lit (.bool true)], args := [d] }
  | _ => none }
def sealBackRow : OpenClaim := { program := "ytfgdddejpdjllaadoor", sum := "85735019bdecbfd516338d2d0341d0af059faed0e41d0f4143a298e24c548673", func := "banyan/banyanlaw12.SealBack", spec := "sealBack", unfollowed := true, recurses := true, named := ["banyan/sha.roundNumbers"], apart := false, laid := [("banyan/sha.roundNumbers", laid_banyan_sha_roundNumbers)] }
def SealBackSaid : Prop := sealBackRow.holds Tryd.pinned (OpenSpec.ofChange sealBackSpec)

/-- ITS FALSE NEIGHBOUR: 'it returns false'. Refute it at one input. -/
def sealBackWrong : ChangeSpec := { name := "sealBack", fn := fun _ => fun
  | [d] => { results := [.lit (.bool false)], args := [d] }
  | _ => none }
def SealBackWrongFalsely : Prop := sealBackRow.holds Tryd.pinned (OpenSpec.ofChange sealBackWrong)

/-- 'banyanlaw12.SealStreams': WHATEVER THE INPUT: true; the input reads as it did. -/
def sealStreamsSpec : ChangeSpec := { name := "sealStreams", fn := fun _ => fun
  | [d] => { results := [.lit (.bool true)], args := [d] }
  | _ => none }
def sealStreamsRow : OpenClaim := { program := "ytfgdddejpdjllaadoor", sum := "85735019bdecbfd516338d2d0341d0af059faed0e41d0f4143a298e24c548673", func := "banyan/banyanlaw12.SealStreams", spec := "sealStreams", unfollowed := true, recurses := true, named := ["banyan/sha.roundNumbers"], apart := false, laid := [("banyan/sha.roundNumbers", laid_banyan_sha_roundNumbers)] }
def SealStreamsSaid : Prop := sealStreamsRow.holds Tryd.pinned (OpenSpec.ofChange sealStreamsSpec)

/-- ITS FALSE NEIGHBOUR: 'it returns false'. Refute it at one input. -/
def sealStreamsWrong : ChangeSpec := { name := "sealStreams", fn := fun _ => fun
  | [d] => { results := [.lit (.bool false)], args := [d] }
  | _ => none }
def SealStreamsWrongFalsely : Prop := sealStreamsRow.holds Tryd.pinned (OpenSpec.ofChange sealStreamsWrong)

/-- 'banyanlaw12.SealApart': WHATEVER THE INPUT: true; the input reads as it did. -/
def sealApartSpec : ChangeSpec := { name := "sealApart", fn := fun _ => fun
  | [d] => { results := [.lit (.bool true)], args := [d] }
  | _ => none }
def sealApartRow : OpenClaim := { program := "ytfgdddejpdjllaadoor", sum := "85735019bdecbfd516338d2d0341d0af059faed0e41d0f4143a298e24c548673", func := "banyan/banyanlaw12.SealApart", spec := "sealApart", unfollowed := true, recurses := true, named := ["banyan/sha.roundNumbers"], apart := false, laid := [("banyan/sha.roundNumbers", laid_banyan_sha_roundNumbers)] }
def SealApartSaid : Prop := sealApartRow.holds Tryd.pinned (OpenSpec.ofChange sealApartSpec)

/-- ITS FALSE NEIGHBOUR: 'it returns false'. Refute it at one input. -/
def sealApartWrong : ChangeSpec := { name := "sealApart", fn := fun _ => fun
  | [d] => { results := [.lit (.bool false)], args := [d] }
  | _ => none }
def SealApartWrongFalsely : Prop := sealApartRow.holds Tryd.pinned (OpenSpec.ofChange sealApartWrong)

/-- 'banyanlaw12.SealOthers': WHATEVER THE INPUT: true; the input reads as it did. -/
def sealOthersSpec : ChangeSpec := { name := "sealOthers", fn := fun _ => fun
  | [d1, d2, d3] => { results := [.lit (.bool true)], args := [d1, d2, d3] }
  | _ => none }
def sealOthersRow : OpenClaim := { program := "ytfgdddejpdjllaadoor", sum := "85735019bdecbfd516338d2d0341d0af059faed0e41d0f4143a298e24c548673", func := "banyan/banyanlaw12.SealOthers", spec := "sealOthers", unfollowed := true, recurses := true, named := ["banyan/sha.roundNumbers"], apart := false, laid := [("banyan/sha.roundNumbers", laid_banyan_sha_roundNumbers)] }
def SealOthersSaid : Prop := sealOthersRow.holds Tryd.pinned (OpenSpec.ofChange sealOthersSpec)

/-- ITS FALSE NEIGHBOUR: 'it returns false'. Refute it at one input. -/
def sealOthersWrong : ChangeSpec := { name := "sealOthers", fn := fun _ => fun
  | [d1, d2, d3] => { results := [.lit (.bool false)], args := [d1, d2, d3] }
  | _ => none }
def SealOthersWrongFalsely : Prop := sealOthersRow.holds Tryd.pinned (OpenSpec.ofChange sealOthersWrong)

/- THE SECOND FORM. 'bulk': how many values and letters a reading holds, each counted each time it is reached (what is shared counts as often as it is met; a slice's spare places count too). A statement '..UptoSaid' is the law's where the arguments, and the package variables that the reading takes, are together of bulk at most 1048576: NARROWER than '..Said'. Prove '..Said' where nothing that the law and all that it calls make is longer than what came in: it says more and counts as full. Else prove '..UptoSaid'. A law counts once. -/
mutual
def uptoBulk {H : Type} : DataW H → Nat
  | .lit (.string bytes) => bytes.length + 1
  | .lit _ => 1
  | .nil => 1
  | .ptr d => uptoBulk d + 1
  | .slice elems spare => uptoBulkAll elems + uptoBulkAll spare + 1
  | .agg parts => uptoBulkAll parts + 1
  | .iface _ d => uptoBulk d + 1
  | .map entries => uptoBulkEntries entries + 1
  | .held _ => 1
def uptoBulkAll {H : Type} : List (DataW H) → Nat
  | [] => 0
  | d :: r => uptoBulk d + uptoBulkAll r
def uptoBulkEntries {H : Type} : List (Lit × DataW H) → Nat
  | [] => 0
  | x :: r => uptoBulkEntry x + uptoBulkEntries r
def uptoBulkEntry {H : Type} : Lit × DataW H → Nat
  | (.string bytes, d) => bytes.length + uptoBulk d + 1
  | (_, d) => uptoBulk d + 1
 end
def uptoSmall : (H : Type) → List (DataW H) → Bool := fun _ ds => decide (uptoBulkAll ds ≤ 1048576)
def OpenSpec.upto (s : _root_.Go.ChangeSpec) : _root_.Go.OpenSpec := { _root_.Go.OpenSpec.ofChange s with cond := some uptoSmall }

/-- 'banyanlaw12.SealKeys', WHERE WHAT IT READS IS OF BULK AT MOST 1048576: true; the input reads as it did. -/
def sealKeysUptoRow : OpenClaim := { program := "ytfgdddejpdjllaadoor", sum := "85735019bdecbfd516338d2d0341d0af059faed0e41d0f4143a298e24c548673", func := "banyan/banyanlaw12.SealKeys", spec := "sealKeys", unfollowed := true, recurses := true, named := ["banyan/sha.roundNumbers"], apart := false, laid := [("banyan/sha.roundNumbers", laid_banyan_sha_roundNumbers)], narrowed := true }
def SealKeysUptoSaid : Prop := sealKeysUptoRow.holds Tryd.pinned (OpenSpec.upto sealKeysSpec)

/-- 'banyanlaw12.SealBlocks', WHERE WHAT IT READS IS OF BULK AT MOST 1048576: true; the input reads as it did. -/
def sealBlocksUptoRow : OpenClaim := { program := "ytfgdddejpdjllaadoor", sum := "85735019bdecbfd516338d2d0341d0af059faed0e41d0f4143a298e24c548673", func := "banyan/banyanlaw12.SealBlocks", spec := "sealBlocks", unfollowed := true, recurses := true, named := ["banyan/sha.roundNumbers"], apart := false, laid := [("banyan/sha.roundNumbers", laid_banyan_sha_roundNumbers)], narrowed := true }
def SealBlocksUptoSaid : Prop := sealBlocksUptoRow.holds Tryd.pinned (OpenSpec.upto sealBlocksSpec)

/-- 'banyanlaw12.SealOpens', WHERE WHAT IT READS IS OF BULK AT MOST 1048576: true; the input reads as it did. -/
def sealOpensUptoRow : OpenClaim := { program := "ytfgdddejpdjllaadoor", sum := "85735019bdecbfd516338d2d0341d0af059faed0e41d0f4143a298e24c548673", func := "banyan/banyanlaw12.SealOpens", spec := "sealOpens", unfollowed := true, recurses := true, named := ["banyan/sha.roundNumbers"], apart := false, laid := [("banyan/sha.roundNumbers", laid_banyan_sha_roundNumbers)], narrowed := true }
def SealOpensUptoSaid : Prop := sealOpensUptoRow.holds Tryd.pinned (OpenSpec.upto sealOpensSpec)

/-- 'banyanlaw12.SealBack', WHERE WHAT IT READS IS OF BULK AT MOST 1048576: true; the input reads as it did. -/
def sealBackUptoRow : OpenClaim := { program := "ytfgdddejpdjllaadoor", sum := "85735019bdecbfd516338d2d0341d0af059faed0e41d0f4143a298e24c548673", func := "banyan/banyanlaw12.SealBack", spec := "sealBack", unfollowed := true, recurses := true, named := ["banyan/sha.roundNumbers"], apart := false, laid := [("banyan/sha.roundNumbers", laid_banyan_sha_roundNumbers)], narrowed := true }
def SealBackUptoSaid : Prop := sealBackUptoRow.holds Tryd.pinned (OpenSpec.upto sealBackSpec)

/-- 'banyanlaw12.SealStreams', WHERE WHAT IT READS IS OF BULK AT MOST 1048576: true; the input reads as it did. -/
def sealStreamsUptoRow : OpenClaim := { program := "ytfgdddejpdjllaadoor", sum := "85735019bdecbfd516338d2d0341d0af059faed0e41d0f4143a298e24c548673", func := "banyan/banyanlaw12.SealStreams", spec := "sealStreams", unfollowed := true, recurses := true, named := ["banyan/sha.roundNumbers"], apart := false, laid := [("banyan/sha.roundNumbers", laid_banyan_sha_roundNumbers)], narrowed := true }
def SealStreamsUptoSaid : Prop := sealStreamsUptoRow.holds Tryd.pinned (OpenSpec.upto sealStreamsSpec)

/-- 'banyanlaw12.SealApart', WHERE WHAT IT READS IS OF BULK AT MOST 1048576: true; the input reads as it did. -/
def sealApartUptoRow : OpenClaim := { program := "ytfgdddejpdjllaadoor", sum := "85735019bdecbfd516338d2d0341d0af059faed0e41d0f4143a298e24c548673", func := "banyan/banyanlaw12.SealApart", spec := "sealApart", unfollowed := true, recurses := true, named := ["banyan/sha.roundNumbers"], apart := false, laid := [("banyan/sha.roundNumbers", laid_banyan_sha_roundNumbers)], narrowed := true }
def SealApartUptoSaid : Prop := sealApartUptoRow.holds Tryd.pinned (OpenSpec.upto sealApartSpec)

/-- 'banyanlaw12.SealOthers', WHERE WHAT IT READS IS OF BULK AT MOST 1048576: true; the input reads as it did. -/
def sealOthersUptoRow : OpenClaim := { program := "ytfgdddejpdjllaadoor", sum := "85735019bdecbfd516338d2d0341d0af059faed0e41d0f4143a298e24c548673", func := "banyan/banyanlaw12.SealOthers", spec := "sealOthers", unfollowed := true, recurses := true, named := ["banyan/sha.roundNumbers"], apart := false, laid := [("banyan/sha.roundNumbers", laid_banyan_sha_roundNumbers)], narrowed := true }
def SealOthersUptoSaid : Prop := sealOthersUptoRow.holds Tryd.pinned (OpenSpec.upto sealOthersSpec)

end Rows
end Go.Proofs.YtfgdddejpdjllaaDoor
