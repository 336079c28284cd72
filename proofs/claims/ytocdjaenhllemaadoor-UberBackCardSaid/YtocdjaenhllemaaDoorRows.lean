/-
  NARROWER THAN 'FOR EVERY INPUT', by the rows' own cells (each row's printed sentence says how): UberPuts: laid · UberGets: laid · UberChooses: laid · UberBack: laid · UberNewer: laid · UberSizes: laid.
  DERIVED. THE GIVEN ROWS OF THIS SEAT. 6 by the template 'for every input the law returns true; each argument reads behind the call as it read before'; 0 by the template 'total and deterministic' (their statements: YtocdjaenhllemaaDoorTotals.lean).
  GIVEN WITH THE SEED: the statements are not yours to turn. If you find one false, say at which input.
  Laid BY PROGRAM, IN A SANDBOX (cutbox-rows.mjs): the forced cells as the released guide's own fill.sh prints them over the translation 0b9ecca45519faf3… (all of the seat's roots in one cut). By AI agents, Wed Nov 11 2026. No macro, syntax, notation, axiom, sorry.
-/
import Derived.Test.YtocdjaenhllemaaDoorChecked
import GoSem.Claim
import GoSem.ClaimJoined
import GoSem.ClaimMapViews
import Derived.JoinedTies
import Derived.KernelRfl
namespace Go.Proofs.YtocdjaenhllemaaDoor
/- THE CELL 'sum', in the pinned program and in every row, IS THE sha256 OF THE DUMP (.gsa) THAT YtocdjaenhllemaaDoorProg.lean LOADS. Nothing in Lean hashes anything: it is a label: what it is worth is what the hold of that sum in a sandbox is worth. -/
noncomputable def Tryd.pinned : Pinned := { name := "ytocdjaenhllemaadoor", sum := "0b9ecca45519faf375d10d655fd64548c57380e20de11a833c265f9cc273dcd3", checked := Tryd.checked }
namespace Rows
def none {H : Type} : Left H := { results := [], args := [] }

/- WHAT THE LISTED PACKAGE-LEVEL VARIABLES READ AS WHEN THE CALL BEGINS. Each datum BY PROGRAM (the guide's laid-datum.mjs) off the statement by which the dump's own 'gosem.cut.vars' lays the variable. In a bare row this is a premise. The card (YtocdjaenhllemaaDoorCards.lean) ties it to the program's text. -/
def laid_banyan_sha_roundNumbers {H : Type} : DataW H := .agg [.lit (.int .u32 1116352408), .lit (.int .u32 1899447441), .lit (.int .u32 3049323471), .lit (.int .u32 3921009573), .lit (.int .u32 961987163), .lit (.int .u32 1508970993), .lit (.int .u32 2453635748), .lit (.int .u32 2870763221), .lit (.int .u32 3624381080), .lit (.int .u32 310598401), .lit (.int .u32 607225278), .lit (.int .u32 1426881987), .lit (.int .u32 1925078388), .lit (.int .u32 2162078206), .lit (.int .u32 2614888103), .lit (.int .u32 3248222580), .lit (.int .u32 3835390401), .lit (.int .u32 4022224774), .lit (.int .u32 264347078), .lit (.int .u32 604807628), .lit (.int .u32 770255983), .lit (.int .u32 1249150122), .lit (.int .u32 1555081692), .lit (.int .u32 1996064986), .lit (.int .u32 2554220882), .lit (.int .u32 2821834349), .lit (.int .u32 2952996808), .lit (.int .u32 3210313671), .lit (.int .u32 3336571891), .lit (.int .u32 3584528711), .lit (.int .u32 113926993), .lit (.int .u32 338241895), .lit (.int .u32 666307205), .lit (.int .u32 773529912), .lit (.int .u32 1294757372), .lit (.int .u32 1396182291), .lit (.int .u32 1695183700), .lit (.int .u32 1986661051), .lit (.int .u32 2177026350), .lit (.int .u32 2456956037), .lit (.int .u32 2730485921), .lit (.int .u32 2820302411), .lit (.int .u32 3259730800), .lit (.int .u32 3345764771), .lit (.int .u32 3516065817), .lit (.int .u32 3600352804), .lit (.int .u32 4094571909), .lit (.int .u32 275423344), .lit (.int .u32 430227734), .lit (.int .u32 506948616), .lit (.int .u32 659060556), .lit (.int .u32 883997877), .lit (.int .u32 958139571), .lit (.int .u32 1322822218), .lit (.int .u32 1537002063), .lit (.int .u32 1747873779), .lit (.int .u32 1955562222), .lit (.int .u32 2024104815), .lit (.int .u32 2227730452), .lit (.int .u32 2361852424), .lit (.int .u32 2428436474), .lit (.int .u32 2756734187), .lit (.int .u32 3204031479), .lit (.int .u32 3329325298)]

/-- 'banyanlaw10.UberPuts': WHATEVER THE INPUT: true; the input reads as it did. -/
def uberPutsSpec : ChangeSpec := { name := "uberPuts", fn := fun _ => fun
  | [d1, d2] => { results := [.lit (.bool true)], args := [d1, d2] }
  | _ => none }
def uberPutsRow : OpenClaim := { program := "ytocdjaenhllemaadoor", sum := "0b9ecca45519faf375d10d655fd64548c57380e20de11a833c265f9cc273dcd3", func := "banyan/banyanlaw10.UberPuts", spec := "uberPuts", unfollowed := true, recurses := true, named := ["banyan/sha.roundNumbers"], apart := false, laid := [("banyan/sha.roundNumbers", laid_banyan_sha_roundNumbers)] }
def UberPutsSaid : Prop := uberPutsRow.holds Tryd.pinned (OpenSpec.ofChange uberPutsSpec)

/-- ITS FALSE NEIGHBOUR: 'it returns false'. Refute it at one input. -/
def uberPutsWrong : ChangeSpec := { name := "uberPuts", fn := fun _ => fun
  | [d1, d2] => { results := [.lit (.bool false)], args := [d1, d2] }
  | _ => none }
def UberPutsWrongFalsely : Prop := uberPutsRow.holds Tryd.pinned (OpenSpec.ofChange uberPutsWrong)

/-- 'banyanlaw10.UberGets': WHATEVER THE INPUT: true; the input reads as it did. -/
def uberGetsSpec : ChangeSpec := { name := "uberGets", fn := fun _ => fun
  | [d1, d2, d3] => { results := [.lit (.bool true)], args := [d1, d2, d3] }
  | _ => none }
def uberGetsRow : OpenClaim := { program := "ytocdjaenhllemaadoor", sum := "0b9ecca45519faf375d10d655fd64548c57380e20de11a833c265f9cc273dcd3", func := "banyan/banyanlaw10.UberGets", spec := "uberGets", unfollowed := true, recurses := true, named := ["banyan/sha.roundNumbers"], apart := false, laid := [("banyan/sha.roundNumbers", laid_banyan_sha_roundNumbers)] }
def UberGetsSaid : Prop := uberGetsRow.holds Tryd.pinned (OpenSpec.ofChange uberGetsSpec)

/-- ITS FALSE NEIGHBOUR: 'it returns false'. Refute it at one input. -/
def uberGetsWrong : ChangeSpec := { name := "uberGets", fn := fun _ => fun
  | [d1, d2, d3] => { results := [.lit (.bool false)], args := [d1, d2, d3] }
  | _ => none }
def UberGetsWrongFalsely : Prop := uberGetsRow.holds Tryd.pinned (OpenSpec.ofChange uberGetsWrong)

/-- 'banyanlaw10.UberChooses': WHATEVER THE INPUT: true; the input reads as it did. -/
def uberChoosesSpec : ChangeSpec := { name := "uberChooses", fn := fun _ => fun
  | [d] => { results := [.lit (.bool true)], args := [d] }
  | _ => none }
def uberChoosesRow : OpenClaim := { program := "ytocdjaenhllemaadoor", sum := "0b9ecca45519faf375d10d655fd64548c57380e20de11a833c265f9cc273dcd3", func := "banyan/banyanlaw10.UberChooses", spec := "uberChooses", unfollowed := true, recurses := true, named := ["banyan/sha.roundNumbers"], apart := false, laid := [("banyan/sha.roundNumbers", laid_banyan_sha_roundNumbers)] }
def UberChoosesSaid : Prop := uberChoosesRow.holds Tryd.pinned (OpenSpec.ofChange uberChoosesSpec)

/-- ITS FALSE NEIGHBOUR: 'it returns false'. Refute it at one input. -/
def uberChoosesWrong : ChangeSpec := { name := "uberChooses", fn := fun _ => fun
  | [d] => { results := [.lit (.bool false)], args := [d] }
  | _ => none }
def UberChoosesWrongFalsely : Prop := uberChoosesRow.holds Tryd.pinned (OpenSpec.ofChange uberChoosesWrong)

/-- 'banyanlaw10.UberBack': WHATEVER THE INPUT: true; the input reads as it did. -/
def uberBackSpec : ChangeSpec := { name := "uberBack", fn := fun _ => fun
  | [d] => { results := [.lit (.bool true)], args := [d] }
  | _ => none }
def uberBackRow : OpenClaim := { program := "ytocdjaenhllemaadoor", sum := "0b9ecca45519faf375d10d655fd64548c57380e20de11a833c265f9cc273dcd3", func := "banyan/banyanlaw10.UberBack", spec := "uberBack", unfollowed := true, recurses := true, named := ["banyan/sha.roundNumbers"], apart := false, laid := [("banyan/sha.roundNumbers", laid_banyan_sha_roundNumbers)] }
def UberBackSaid : Prop := uberBackRow.holds Tryd.pinned (OpenSpec.ofChange uberBackSpec)

/-- ITS FALSE NEIGHBOUR: 'it returns false'. Refute it at one input. -/
def uberBackWrong : ChangeSpec := { name := "uberBack", fn := fun _ => fun
  | [d] => { results := [.lit (.bool false)], args := [d] }
  | _ => none }
def UberBackWrongFalsely : Prop := uberBackRow.holds Tryd.pinned (OpenSpec.ofChange uberBackWrong)

/-- 'banyanlaw10.UberNewer': WHATEVER THE INPUT: true; the input reads as it did. -/
def uberNewerSpec : ChangeSpec := { name := "uberNewer", fn := fun _ => fun
  | [d] => { results := [.lit (.bool true)], args := [d] }
  | _ => none }
def uberNewerRow : OpenClaim := { program := "ytocdjaenhllemaadoor", sum := "0b9ecca45519faf375d10d655fd64548c57380e20de11a833c265f9cc273dcd3", func := "banyan/banyanlaw10.UberNewer", spec := "uberNewer", unfollowed := true, recurses := true, named := ["banyan/sha.roundNumbers"], apart := false, laid := [("banyan/sha.roundNumbers", laid_banyan_sha_roundNumbers)] }
def UberNewerSaid : Prop := uberNewerRow.holds Tryd.pinned (OpenSpec.ofChange uberNewerSpec)

/-- ITS FALSE NEIGHBOUR: 'it returns false'. Refute it at one input. -/
def uberNewerWrong : ChangeSpec := { name := "uberNewer", fn := fun _ => fun
  | [d] => { results := [.lit (.bool false)], args := [d] }
  | _ => none }
def UberNewerWrongFalsely : Prop := uberNewerRow.holds Tryd.pinned (OpenSpec.ofChange uberNewerWrong)

/-- 'banyanlaw10.UberSizes': WHATEVER THE INPUT: true; the input reads as it did. -/
def uberSizesSpec : ChangeSpec := { name := "uberSizes", fn := fun _ => fun
  | [d1, d2] => { results := [.lit (.bool true)], args := [d1, d2] }
  | _ => none }
def uberSizesRow : OpenClaim := { program := "ytocdjaenhllemaadoor", sum := "0b9ecca45519faf375d10d655fd64548c57380e20de11a833c265f9cc273dcd3", func := "banyan/banyanlaw10.UberSizes", spec := "uberSizes", unfollowed := true, recurses := true, named := ["banyan/sha.roundNumbers"], apart := false, laid := [("banyan/sha.roundNumbers", laid_banyan_sha_roundNumbers)] }
def UberSizesSaid : Prop := uberSizesRow.holds Tryd.pinned (OpenSpec.ofChange uberSizesSpec)

/-- ITS FALSE NEIGHBOUR: 'it returns false'. Refute it at one input. -/
def uberSizesWrong : ChangeSpec := { name := "uberSizes", fn := fun _ => fun
  | [d1, d2] => { results := [.lit (.bool false)], args := [d1, d2] }
  | _ => none }
def UberSizesWrongFalsely : Prop := uberSizesRow.holds Tryd.pinned (OpenSpec.ofChange uberSizesWrong)

/- THE SECOND FORM. 'bulk': how many values and letters a reading holds, each counted each time it is reached (what is shared counts as often as it is met; a slice's spare places count too). A statement '..UptoSaid' is the law's where the arguments, and the package variables that the reading takes, are together of bulk at most 1048576: NARROWER than '..Said'. Prove '..Said' where nothing that the law and all that it calls make is longer than what came in: it says more and counts as full. Else prove '..UptoSaid'. A law counts once. -/
mutual
def uptoBulk {H : Type} : DataW H → Nat
  | .lit (.string bytes) => bytes.length + 1
  | .lit _ => 1
  | .nil => 1
  | .ptr d => uptoBulk d + 1
  | .slice elems spare => uptoBulkAll elems + uptoBulkAll spare + 1
  | .agg parts => uptoBulkAll parts + 1
  | .iface _ d => uptoBulk d + 1
  | .map entries => uptoBulkEntries entries + 1
  | .held _ => 1
def uptoBulkAll {H : Type} : List (DataW H) → Nat
  | [] => 0
  | d :: r => uptoBulk d + uptoBulkAll r
def uptoBulkEntries {H : Type} : List (Lit × DataW H) → Nat
  | [] => 0
  | x :: r => uptoBulkEntry x + uptoBulkEntries r
def uptoBulkEntry {H : Type} : Lit × DataW H → Nat
  | (.string bytes, d) => bytes.length + uptoBulk d + 1
  | (_, d) => uptoBulk d + 1
 end
def uptoSmall : (H : Type) → List (DataW H) → Bool := fun _ ds => decide (uptoBulkAll ds ≤ 1048576)
def OpenSpec.upto (s : _root_.Go.ChangeSpec) : _root_.Go.OpenSpec := { _root_.Go.OpenSpec.ofChange s with cond := some uptoSmall }

/-- 'banyanlaw10.UberPuts', WHERE WHAT IT READS IS OF BULK AT MOST 1048576: true; the input reads as it did. -/
def uberPutsUptoRow : OpenClaim := { program := "ytocdjaenhllemaadoor", sum := "0b9ecca45519faf375d10d655fd64548c57380e20de11a833c265f9cc273dcd3", func := "banyan/banyanlaw10.UberPuts", spec := "uberPuts", unfollowed := true, recurses := true, named := ["banyan/sha.roundNumbers"], apart := false, laid := [("banyan/sha.roundNumbers", laid_banyan_sha_roundNumbers)], narrowed := true }
def UberPutsUptoSaid : Prop := uberPutsUptoRow.holds Tryd.pinned (OpenSpec.upto uberPutsSpec)

/-- 'banyanlaw10.UberGets', WHERE WHAT IT READS IS OF BULK AT MOST 1048576: true; the input reads as it did. -/
def uberGetsUptoRow : OpenClaim := { program := "ytocdjaenhllemaadoor", sum := "0b9ecca45519faf375d10d655fd64548c57380e20de11a833c265f9cc273dcd3", func := "banyan/banyanlaw10.UberGets", spec := "uberGets", unfollowed := true, recurses := true, named := ["banyan/sha.roundNumbers"], apart := false, laid := [("banyan/sha.roundNumbers", laid_banyan_sha_roundNumbers)], narrowed := true }
def UberGetsUptoSaid : Prop := uberGetsUptoRow.holds Tryd.pinned (OpenSpec.upto uberGetsSpec)

/-- 'banyanlaw10.UberChooses', WHERE WHAT IT READS IS OF BULK AT MOST 1048576: true; the input reads as it did. -/
def uberChoosesUptoRow : OpenClaim := { program := "ytocdjaenhllemaadoor", sum := "0b9ecca45519faf375d10d655fd64548c57380e20de11a833c265f9cc273dcd3", func := "banyan/banyanlaw10.UberChooses", spec := "uberChooses", unfollowed := true, recurses := true, named := ["banyan/sha.roundNumbers"], apart := false, laid := [("banyan/sha.roundNumbers", laid_banyan_sha_roundNumbers)], narrowed := true }
def UberChoosesUptoSaid : Prop := uberChoosesUptoRow.holds Tryd.pinned (OpenSpec.upto uberChoosesSpec)

/-- 'banyanlaw10.UberBack', WHERE WHAT IT READS IS OF BULK AT MOST 1048576: true; the input reads as it did. -/
def uberBackUptoRow : OpenClaim := { program := "ytocdjaenhllemaadoor", sum := "0b9ecca45519faf375d10d655fd64548c57380e20de11a833c265f9cc273dcd3", func := "banyan/banyanlaw10.UberBack", spec := "uberBack", unfollowed := true, recurses := true, named := ["banyan/sha.roundNumbers"], apart := false, laid := [("banyan/sha.roundNumbers", laid_banyan_sha_roundNumbers)], narrowed := true }
def UberBackUptoSaid : Prop := uberBackUptoRow.holds Tryd.pinned (OpenSpec.upto uberBackSpec)

/-- 'banyanlaw10.UberNewer', WHERE WHAT IT READS IS OF BULK AT MOST 1048576: true; the input reads as it did. -/
def uberNewerUptoRow : OpenClaim := { program := "ytocdjaenhllemaadoor", sum := "0b9ecca45519faf375d10d655fd64548c57380e20de11a833c265f9cc273dcd3", func := "banyan/banyanlaw10.UberNewer", spec := "uberNewer", unfollowed := true, recurses := true, named := ["banyan/sha.roundNumbers"], apart := false, laid := [("banyan/sha.roundNumbers", laid_banyan_sha_roundNumbers)], narrowed := true }
def UberNewerUptoSaid : Prop := uberNewerUptoRow.holds Tryd.pinned (OpenSpec.upto uberNewerSpec)

/-- 'banyanlaw10.UberSizes', WHERE WHAT IT READS IS OF BULK AT MOST 1048576: true; the input reads as it did. -/
def uberSizesUptoRow : OpenClaim := { program := "ytocdjaenhllemaadoor", sum := "0b9ecca45519faf375d10d655fd64548c57380e20de11a833c265f9cc273dcd3", func := "banyan/banyanlaw10.UberSizes", spec := "uberSizes", unfollowed := true, recurses := true, named := ["banyan/sha.roundNumbers"], apart := false, laid := [("banyan/sha.roundNumbers", laid_banyan_sha_roundNumbers)], narrowed := true }
def UberSizesUptoSaid : Prop := uberSizesUptoRow.holds Tryd.pinned (OpenSpec.upto uberSizesSpec)

end Rows
end Go.Proofs.YtocdjaenhllemaaDoor
