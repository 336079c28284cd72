/-
  No cell of these rows narrows 'for every input' (looked for: loops, veiled, ifaces, maps, wideKeys, modest, calm, conditions, laid).
  DERIVED. THE GIVEN ROWS OF THIS SEAT. 8 by the template 'for every input the law returns true; each argument reads behind the call as it read before'; 0 by the template 'total and deterministic' (their statements: YtajfooefofafmaaTotals.lean).
  GIVEN WITH THE SEED: the statements are not yours to turn. If you find one false, say at which input.
  Laid BY PROGRAM, IN A SANDBOX (cutbox-rows.mjs): the forced cells as the released guide's own fill.sh prints them over the translation e2c97c3511bc9d13… (all of the seat's roots in one cut). By AI agents, Wed Nov 11 2026. No macro, syntax, notation, axiom, sorry.
-/
import Derived.Test.YtajfooefofafmaaChecked
import GoSem.Claim
import GoSem.ClaimJoined
import GoSem.ClaimMapViews
import Derived.JoinedTies
import Derived.KernelRfl
namespace Go.Proofs.Ytajfooefofafmaa
/- THE CELL 'sum', in the pinned program and in every row, IS THE sha256 OF THE DUMP (.gsa) THAT YtajfooefofafmaaProg.lean LOADS. Nothing in Lean hashes anything: it is a label: what it is worth is what the hold of that sum in a sandbox is worth. -/
noncomputable def Try.pinned : Pinned := { name := "ytajfooefofafmaa", sum := "e2c97c3511bc9d13f729d36bd11b59435ec0b01e620dcca014b6b78c2ba6fd9d", checked := Try.checked }
namespace Rows
def none {H : Type} : Left H := { results := [], args := [] }

/-- 'banyanlaw05.CtrStreams': WHATEVER THE INPUT: true; the input reads as it did. -/
def ctrStreamsSpec : ChangeSpec := { name := "ctrStreams", fn := fun _ => fun
  | [d] => { results := [.lit (.bool true)], args := [d] }
  | _ => none }
def ctrStreamsRow : OpenClaim := { program := "ytajfooefofafmaa", sum := "e2c97c3511bc9d13f729d36bd11b59435ec0b01e620dcca014b6b78c2ba6fd9d", func := "banyan/banyanlaw05.CtrStreams", spec := "ctrStreams", apart := false }
def CtrStreamsSaid : Prop := ctrStreamsRow.holds Try.pinned (OpenSpec.ofChange ctrStreamsSpec)

/-- ITS FALSE NEIGHBOUR: 'it returns false'. Refute it at one input. -/
def ctrStreamsWrong : ChangeSpec := { name := "ctrStreams", fn := fun _ => fun
  | [d] => { results := [.lit (.bool false)], args := [d] }
  | _ => none }
def CtrStreamsWrongFalsely : Prop := ctrStreamsRow.holds Try.pinned (OpenSpec.ofChange ctrStreamsWrong)

/-- 'banyanlaw05.CtrCrypts': WHATEVER THE INPUT: true; the input reads as it did. -/
def ctrCryptsSpec : ChangeSpec := { name := "ctrCrypts", fn := fun _ => fun
  | [d1, d2, d3] => { results := [.lit (.bool true)], args := [d1, d2, d3] }
  | _ => none }
def ctrCryptsRow : OpenClaim := { program := "ytajfooefofafmaa", sum := "e2c97c3511bc9d13f729d36bd11b59435ec0b01e620dcca014b6b78c2ba6fd9d", func := "banyan/banyanlaw05.CtrCrypts", spec := "ctrCrypts", apart := false }
def CtrCryptsSaid : Prop := ctrCryptsRow.holds Try.pinned (OpenSpec.ofChange ctrCryptsSpec)

/-- ITS FALSE NEIGHBOUR: 'it returns false'. Refute it at one input. -/
def ctrCryptsWrong : ChangeSpec := { name := "ctrCrypts", fn := fun _ => fun
  | [d1, d2, d3] => { results := [.lit (.bool false)], args := [d1, d2, d3] }
  | _ => none }
def CtrCryptsWrongFalsely : Prop := ctrCryptsRow.holds Try.pinned (OpenSpec.ofChange ctrCryptsWrong)

/-- 'banyanlaw05.CtrBack': WHATEVER THE INPUT: true; the input reads as it did. -/
def ctrBackSpec : ChangeSpec := { name := "ctrBack", fn := fun _ => fun
  | [d] => { results := [.lit (.bool true)], args := [d] }
  | _ => none }
def ctrBackRow : OpenClaim := { program := "ytajfooefofafmaa", sum := "e2c97c3511bc9d13f729d36bd11b59435ec0b01e620dcca014b6b78c2ba6fd9d", func := "banyan/banyanlaw05.CtrBack", spec := "ctrBack", apart := false }
def CtrBackSaid : Prop := ctrBackRow.holds Try.pinned (OpenSpec.ofChange ctrBackSpec)

/-- ITS FALSE NEIGHBOUR: 'it returns false'. Refute it at one input. -/
def ctrBackWrong : ChangeSpec := { name := "ctrBack", fn := fun _ => fun
  | [d] => { results := [.lit (.bool false)], args := [d] }
  | _ => none }
def CtrBackWrongFalsely : Prop := ctrBackRow.holds Try.pinned (OpenSpec.ofChange ctrBackWrong)

/-- 'banyanlaw05.CtrPlaces': WHATEVER THE INPUT: true; the input reads as it did. -/
def ctrPlacesSpec : ChangeSpec := { name := "ctrPlaces", fn := fun _ => fun
  | [d] => { results := [.lit (.bool true)], args := [d] }
  | _ => none }
def ctrPlacesRow : OpenClaim := { program := "ytajfooefofafmaa", sum := "e2c97c3511bc9d13f729d36bd11b59435ec0b01e620dcca014b6b78c2ba6fd9d", func := "banyan/banyanlaw05.CtrPlaces", spec := "ctrPlaces", apart := false }
def CtrPlacesSaid : Prop := ctrPlacesRow.holds Try.pinned (OpenSpec.ofChange ctrPlacesSpec)

/-- ITS FALSE NEIGHBOUR: 'it returns false'. Refute it at one input. -/
def ctrPlacesWrong : ChangeSpec := { name := "ctrPlaces", fn := fun _ => fun
  | [d] => { results := [.lit (.bool false)], args := [d] }
  | _ => none }
def CtrPlacesWrongFalsely : Prop := ctrPlacesRow.holds Try.pinned (OpenSpec.ofChange ctrPlacesWrong)

/-- 'banyanlaw05.CtrBlocks': WHATEVER THE INPUT: true; the input reads as it did. -/
def ctrBlocksSpec : ChangeSpec := { name := "ctrBlocks", fn := fun _ => fun
  | [d] => { results := [.lit (.bool true)], args := [d] }
  | _ => none }
def ctrBlocksRow : OpenClaim := { program := "ytajfooefofafmaa", sum := "e2c97c3511bc9d13f729d36bd11b59435ec0b01e620dcca014b6b78c2ba6fd9d", func := "banyan/banyanlaw05.CtrBlocks", spec := "ctrBlocks", unfollowed := true, recurses := true, apart := false }
def CtrBlocksSaid : Prop := ctrBlocksRow.holds Try.pinned (OpenSpec.ofChange ctrBlocksSpec)

/-- ITS FALSE NEIGHBOUR: 'it returns false'. Refute it at one input. -/
def ctrBlocksWrong : ChangeSpec := { name := "ctrBlocks", fn := fun _ => fun
  | [d] => { results := [.lit (.bool false)], args := [d] }
  | _ => none }
def CtrBlocksWrongFalsely : Prop := ctrBlocksRow.holds Try.pinned (OpenSpec.ofChange ctrBlocksWrong)

/-- 'banyanlaw05.CtrNonces': WHATEVER THE INPUT: true; the input reads as it did. -/
def ctrNoncesSpec : ChangeSpec := { name := "ctrNonces", fn := fun _ => fun
  | [d] => { results := [.lit (.bool true)], args := [d] }
  | _ => none }
def ctrNoncesRow : OpenClaim := { program := "ytajfooefofafmaa", sum := "e2c97c3511bc9d13f729d36bd11b59435ec0b01e620dcca014b6b78c2ba6fd9d", func := "banyan/banyanlaw05.CtrNonces", spec := "ctrNonces", apart := false }
def CtrNoncesSaid : Prop := ctrNoncesRow.holds Try.pinned (OpenSpec.ofChange ctrNoncesSpec)

/-- ITS FALSE NEIGHBOUR: 'it returns false'. Refute it at one input. -/
def ctrNoncesWrong : ChangeSpec := { name := "ctrNonces", fn := fun _ => fun
  | [d] => { results := [.lit (.bool false)], args := [d] }
  | _ => none }
def CtrNoncesWrongFalsely : Prop := ctrNoncesRow.holds Try.pinned (OpenSpec.ofChange ctrNoncesWrong)

/-- 'banyanlaw05.CtrSums': WHATEVER THE INPUT: true; the input reads as it did. -/
def ctrSumsSpec : ChangeSpec := { name := "ctrSums", fn := fun _ => fun
  | [d] => { results := [.lit (.bool true)], args := [d] }
  | _ => none }
def ctrSumsRow : OpenClaim := { program := "ytajfooefofafmaa", sum := "e2c97c3511bc9d13f729d36bd11b59435ec0b01e620dcca014b6b78c2ba6fd9d", func := "banyan/banyanlaw05.CtrSums", spec := "ctrSums", apart := false }
def CtrSumsSaid : Prop := ctrSumsRow.holds Try.pinned (OpenSpec.ofChange ctrSumsSpec)

/-- ITS FALSE NEIGHBOUR: 'it returns false'. Refute it at one input. -/
def ctrSumsWrong : ChangeSpec := { name := "ctrSums", fn := fun _ => fun
  | [d] => { results := [.lit (.bool false)], args := [d] }
  | _ => none }
def CtrSumsWrongFalsely : Prop := ctrSumsRow.holds Try.pinned (OpenSpec.ofChange ctrSumsWrong)

/-- 'banyanlaw04.AesBlocks': WHATEVER THE INPUT: true; the input reads as it did. -/
def aesBlocksSpec : ChangeSpec := { name := "aesBlocks", fn := fun _ => fun
  | [d1, d2] => { results := [.lit (.bool true)], args := [d1, d2] }
  | _ => none }
def aesBlocksRow : OpenClaim := { program := "ytajfooefofafmaa", sum := "e2c97c3511bc9d13f729d36bd11b59435ec0b01e620dcca014b6b78c2ba6fd9d", func := "banyan/banyanlaw04.AesBlocks", spec := "aesBlocks", apart := false }
def AesBlocksSaid : Prop := aesBlocksRow.holds Try.pinned (OpenSpec.ofChange aesBlocksSpec)

/-- ITS FALSE NEIGHBOUR: 'it returns false'. Refute it at one input. -/
def aesBlocksWrong : ChangeSpec := { name := "aesBlocks", fn := fun _ => fun
  | [d1, d2] => { results := [.lit (.bool false)], args := [d1, d2] }
  | _ => none }
def AesBlocksWrongFalsely : Prop := aesBlocksRow.holds Try.pinned (OpenSpec.ofChange aesBlocksWrong)

/- THE SECOND FORM. 'bulk': how many values and letters a reading holds, each counted each time it is reached (what is shared counts as often as it is met; a slice's spare places count too). A statement '..UptoSaid' is the law's where the arguments, and the package variables that the reading takes, are together of bulk at most 1048576: NARROWER than '..Said'. Prove '..Said' where nothing that the law and all that it calls make is longer than what came in: it says more and counts as full. Else prove '..UptoSaid'. A law counts once. -/
mutual
def uptoBulk {H : Type} : DataW H → Nat
  | .lit (.string bytes) => bytes.length + 1
  | .lit _ => 1
  | .nil => 1
  | .ptr d => uptoBulk d + 1
  | .slice elems spare => uptoBulkAll elems + uptoBulkAll spare + 1
  | .agg parts => uptoBulkAll parts + 1
  | .iface _ d => uptoBulk d + 1
  | .map entries => uptoBulkEntries entries + 1
  | .held _ => 1
def uptoBulkAll {H : Type} : List (DataW H) → Nat
  | [] => 0
  | d :: r => uptoBulk d + uptoBulkAll r
def uptoBulkEntries {H : Type} : List (Lit × DataW H) → Nat
  | [] => 0
  | x :: r => uptoBulkEntry x + uptoBulkEntries r
def uptoBulkEntry {H : Type} : Lit × DataW H → Nat
  | (.string bytes, d) => bytes.length + uptoBulk d + 1
  | (_, d) => uptoBulk d + 1
 end
def uptoSmall : (H : Type) → List (DataW H) → Bool := fun _ ds => decide (uptoBulkAll ds ≤ 1048576)
def OpenSpec.upto (s : _root_.Go.ChangeSpec) : _root_.Go.OpenSpec := { _root_.Go.OpenSpec.ofChange s with cond := some uptoSmall }

/-- 'banyanlaw05.CtrStreams', WHERE WHAT IT READS IS OF BULK AT MOST 1048576: true; the input reads as it did. -/
def ctrStreamsUptoRow : OpenClaim := { program := "ytajfooefofafmaa", sum := "e2c97c3511bc9d13f729d36bd11b59435ec0b01e620dcca014b6b78c2ba6fd9d", func := "banyan/banyanlaw05.CtrStreams", spec := "ctrStreams", apart := false, narrowed := true }
def CtrStreamsUptoSaid : Prop := ctrStreamsUptoRow.holds Try.pinned (OpenSpec.upto ctrStreamsSpec)

/-- 'banyanlaw05.CtrCrypts', WHERE WHAT IT READS IS OF BULK AT MOST 1048576: true; the input reads as it did. -/
def ctrCryptsUptoRow : OpenClaim := { program := "ytajfooefofafmaa", sum := "e2c97c3511bc9d13f729d36bd11b59435ec0b01e620dcca014b6b78c2ba6fd9d", func := "banyan/banyanlaw05.CtrCrypts", spec := "ctrCrypts", apart := false, narrowed := true }
def CtrCryptsUptoSaid : Prop := ctrCryptsUptoRow.holds Try.pinned (OpenSpec.upto ctrCryptsSpec)

/-- 'banyanlaw05.CtrBack', WHERE WHAT IT READS IS OF BULK AT MOST 1048576: true; the input reads as it did. -/
def ctrBackUptoRow : OpenClaim := { program := "ytajfooefofafmaa", sum := "e2c97c3511bc9d13f729d36bd11b59435ec0b01e620dcca014b6b78c2ba6fd9d", func := "banyan/banyanlaw05.CtrBack", spec := "ctrBack", apart := false, narrowed := true }
def CtrBackUptoSaid : Prop := ctrBackUptoRow.holds Try.pinned (OpenSpec.upto ctrBackSpec)

/-- 'banyanlaw05.CtrPlaces', WHERE WHAT IT READS IS OF BULK AT MOST 1048576: true; the input reads as it did. -/
def ctrPlacesUptoRow : OpenClaim := { program := "ytajfooefofafmaa", sum := "e2c97c3511bc9d13f729d36bd11b59435ec0b01e620dcca014b6b78c2ba6fd9d", func := "banyan/banyanlaw05.CtrPlaces", spec := "ctrPlaces", apart := false, narrowed := true }
def CtrPlacesUptoSaid : Prop := ctrPlacesUptoRow.holds Try.pinned (OpenSpec.upto ctrPlacesSpec)

/-- 'banyanlaw05.CtrBlocks', WHERE WHAT IT READS IS OF BULK AT MOST 1048576: true; the input reads as it did. -/
def ctrBlocksUptoRow : OpenClaim := { program := "ytajfooefofafmaa", sum := "e2c97c3511bc9d13f729d36bd11b59435ec0b01e620dcca014b6b78c2ba6fd9d", func := "banyan/banyanlaw05.CtrBlocks", spec := "ctrBlocks", unfollowed := true, recurses := true, apart := false, narrowed := true }
def CtrBlocksUptoSaid : Prop := ctrBlocksUptoRow.holds Try.pinned (OpenSpec.upto ctrBlocksSpec)

/-- 'banyanlaw05.CtrNonces', WHERE WHAT IT READS IS OF BULK AT MOST 1048576: true; the input reads as it did. -/
def ctrNoncesUptoRow : OpenClaim := { program := "ytajfooefofafmaa", sum := "e2c97c3511bc9d13f729d36bd11b59435ec0b01e620dcca014b6b78c2ba6fd9d", func := "banyan/banyanlaw05.CtrNonces", spec := "ctrNonces", apart := false, narrowed := true }
def CtrNoncesUptoSaid : Prop := ctrNoncesUptoRow.holds Try.pinned (OpenSpec.upto ctrNoncesSpec)

/-- 'banyanlaw05.CtrSums', WHERE WHAT IT READS IS OF BULK AT MOST 1048576: true; the input reads as it did. -/
def ctrSumsUptoRow : OpenClaim := { program := "ytajfooefofafmaa", sum := "e2c97c3511bc9d13f729d36bd11b59435ec0b01e620dcca014b6b78c2ba6fd9d", func := "banyan/banyanlaw05.CtrSums", spec := "ctrSums", apart := false, narrowed := true }
def CtrSumsUptoSaid : Prop := ctrSumsUptoRow.holds Try.pinned (OpenSpec.upto ctrSumsSpec)

/-- 'banyanlaw04.AesBlocks', WHERE WHAT IT READS IS OF BULK AT MOST 1048576: true; the input reads as it did. -/
def aesBlocksUptoRow : OpenClaim := { program := "ytajfooefofafmaa", sum := "e2c97c3511bc9d13f729d36bd11b59435ec0b01e620dcca014b6b78c2ba6fd9d", func := "banyan/banyanlaw04.AesBlocks", spec := "aesBlocks", apart := false, narrowed := true }
def AesBlocksUptoSaid : Prop := aesBlocksUptoRow.holds Try.pinned (OpenSpec.upto aesBlocksSpec)

end Rows
end Go.Proofs.Ytajfooefofafmaa
