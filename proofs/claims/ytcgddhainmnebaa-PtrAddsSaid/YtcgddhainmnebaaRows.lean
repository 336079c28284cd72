/-
  No cell of these rows narrows 'for every input' (looked for: loops, veiled, ifaces, maps, wideKeys, modest, calm, conditions, laid).
  DERIVED. THE GIVEN ROWS OF THIS SEAT. 9 by the template 'for every input the law returns true; each argument reads behind the call as it read before'; 0 by the template 'total and deterministic' (their statements: YtcgddhainmnebaaTotals.lean).
  GIVEN WITH THE SEED: the statements are not yours to turn. If you find one false, say at which input.
  Laid BY PROGRAM, IN A SANDBOX (cutbox-rows.mjs): the forced cells as the released guide's own fill.sh prints them over the translation 8018ee9e8e38cb92… (all of the seat's roots in one cut). By AI agents, Wed Nov 11 2026. No macro, syntax, notation, axiom, sorry.
-/
import Derived.Test.YtcgddhainmnebaaChecked
import GoSem.Claim
import GoSem.ClaimJoined
import GoSem.ClaimMapViews
import Derived.JoinedTies
import Derived.KernelRfl
namespace Go.Proofs.Ytcgddhainmnebaa
/- THE CELL 'sum', in the pinned program and in every row, IS THE sha256 OF THE DUMP (.gsa) THAT YtcgddhainmnebaaProg.lean LOADS. Nothing in Lean hashes anything: it is a label: what it is worth is what the hold of that sum in a sandbox is worth. -/
noncomputable def Try.pinned : Pinned := { name := "ytcgddhainmnebaa", sum := "8018ee9e8e38cb923fbae76677dada61f2e7cd9e629bdaee5650740fd834a9ad", checked := Try.checked }
namespace Rows
def none {H : Type} : Left H := { results := [], args := [] }

/-- 'banyanlaw09.NodePuts': WHATEVER THE INPUT: true; the input reads as it did. -/
def nodePutsSpec : ChangeSpec := { name := "nodePuts", fn := fun _ => fun
  | [d1, d2] => { results := [.lit (.bool true)], args := [d1, d2] }
  | _ => none }
def nodePutsRow : OpenClaim := { program := "ytcgddhainmnebaa", sum := "8018ee9e8e38cb923fbae76677dada61f2e7cd9e629bdaee5650740fd834a9ad", func := "banyan/banyanlaw09.NodePuts", spec := "nodePuts", unfollowed := true, recurses := true, plainKeys := false, apart := false }
def NodePutsSaid : Prop := nodePutsRow.holds Try.pinned (OpenSpec.ofChange nodePutsSpec)

/-- ITS FALSE NEIGHBOUR: 'it returns false'. Refute it at one input. -/
def nodePutsWrong : ChangeSpec := { name := "nodePuts", fn := fun _ => fun
  | [d1, d2] => { results := [.lit (.bool false)], args := [d1, d2] }
  | _ => none }
def NodePutsWrongFalsely : Prop := nodePutsRow.holds Try.pinned (OpenSpec.ofChange nodePutsWrong)

/-- 'banyanlaw09.NodeGets': WHATEVER THE INPUT: true; the input reads as it did. -/
def nodeGetsSpec : ChangeSpec := { name := "nodeGets", fn := fun _ => fun
  | [d1, d2] => { results := [.lit (.bool true)], args := [d1, d2] }
  | _ => none }
def nodeGetsRow : OpenClaim := { program := "ytcgddhainmnebaa", sum := "8018ee9e8e38cb923fbae76677dada61f2e7cd9e629bdaee5650740fd834a9ad", func := "banyan/banyanlaw09.NodeGets", spec := "nodeGets", unfollowed := true, recurses := true, plainKeys := false, apart := false }
def NodeGetsSaid : Prop := nodeGetsRow.holds Try.pinned (OpenSpec.ofChange nodeGetsSpec)

/-- ITS FALSE NEIGHBOUR: 'it returns false'. Refute it at one input. -/
def nodeGetsWrong : ChangeSpec := { name := "nodeGets", fn := fun _ => fun
  | [d1, d2] => { results := [.lit (.bool false)], args := [d1, d2] }
  | _ => none }
def NodeGetsWrongFalsely : Prop := nodeGetsRow.holds Try.pinned (OpenSpec.ofChange nodeGetsWrong)

/-- 'banyanlaw09.NodeFinds': WHATEVER THE INPUT: true; the input reads as it did. -/
def nodeFindsSpec : ChangeSpec := { name := "nodeFinds", fn := fun _ => fun
  | [d1, d2] => { results := [.lit (.bool true)], args := [d1, d2] }
  | _ => none }
def nodeFindsRow : OpenClaim := { program := "ytcgddhainmnebaa", sum := "8018ee9e8e38cb923fbae76677dada61f2e7cd9e629bdaee5650740fd834a9ad", func := "banyan/banyanlaw09.NodeFinds", spec := "nodeFinds", unfollowed := true, recurses := true, plainKeys := false, apart := false }
def NodeFindsSaid : Prop := nodeFindsRow.holds Try.pinned (OpenSpec.ofChange nodeFindsSpec)

/-- ITS FALSE NEIGHBOUR: 'it returns false'. Refute it at one input. -/
def nodeFindsWrong : ChangeSpec := { name := "nodeFinds", fn := fun _ => fun
  | [d1, d2] => { results := [.lit (.bool false)], args := [d1, d2] }
  | _ => none }
def NodeFindsWrongFalsely : Prop := nodeFindsRow.holds Try.pinned (OpenSpec.ofChange nodeFindsWrong)

/-- 'banyanlaw09.NodeBack': WHATEVER THE INPUT: true; the input reads as it did. -/
def nodeBackSpec : ChangeSpec := { name := "nodeBack", fn := fun _ => fun
  | [d1, d2] => { results := [.lit (.bool true)], args := [d1, d2] }
  | _ => none }
def nodeBackRow : OpenClaim := { program := "ytcgddhainmnebaa", sum := "8018ee9e8e38cb923fbae76677dada61f2e7cd9e629bdaee5650740fd834a9ad", func := "banyan/banyanlaw09.NodeBack", spec := "nodeBack", unfollowed := true, recurses := true, plainKeys := false, apart := false }
def NodeBackSaid : Prop := nodeBackRow.holds Try.pinned (OpenSpec.ofChange nodeBackSpec)

/-- ITS FALSE NEIGHBOUR: 'it returns false'. Refute it at one input. -/
def nodeBackWrong : ChangeSpec := { name := "nodeBack", fn := fun _ => fun
  | [d1, d2] => { results := [.lit (.bool false)], args := [d1, d2] }
  | _ => none }
def NodeBackWrongFalsely : Prop := nodeBackRow.holds Try.pinned (OpenSpec.ofChange nodeBackWrong)

/-- 'banyanlaw09.NodePlaces': WHATEVER THE INPUT: true; the input reads as it did. -/
def nodePlacesSpec : ChangeSpec := { name := "nodePlaces", fn := fun _ => fun
  | [d1, d2] => { results := [.lit (.bool true)], args := [d1, d2] }
  | _ => none }
def nodePlacesRow : OpenClaim := { program := "ytcgddhainmnebaa", sum := "8018ee9e8e38cb923fbae76677dada61f2e7cd9e629bdaee5650740fd834a9ad", func := "banyan/banyanlaw09.NodePlaces", spec := "nodePlaces", unfollowed := true, recurses := true, plainKeys := false, apart := false }
def NodePlacesSaid : Prop := nodePlacesRow.holds Try.pinned (OpenSpec.ofChange nodePlacesSpec)

/-- ITS FALSE NEIGHBOUR: 'it returns false'. Refute it at one input. -/
def nodePlacesWrong : ChangeSpec := { name := "nodePlaces", fn := fun _ => fun
  | [d1, d2] => { results := [.lit (.bool false)], args := [d1, d2] }
  | _ => none }
def NodePlacesWrongFalsely : Prop := nodePlacesRow.holds Try.pinned (OpenSpec.ofChange nodePlacesWrong)

/-- 'banyanlaw09.NodeSizes': WHATEVER THE INPUT: true; the input reads as it did. -/
def nodeSizesSpec : ChangeSpec := { name := "nodeSizes", fn := fun _ => fun
  | [d] => { results := [.lit (.bool true)], args := [d] }
  | _ => none }
def nodeSizesRow : OpenClaim := { program := "ytcgddhainmnebaa", sum := "8018ee9e8e38cb923fbae76677dada61f2e7cd9e629bdaee5650740fd834a9ad", func := "banyan/banyanlaw09.NodeSizes", spec := "nodeSizes", unfollowed := true, recurses := true, plainKeys := false, apart := false }
def NodeSizesSaid : Prop := nodeSizesRow.holds Try.pinned (OpenSpec.ofChange nodeSizesSpec)

/-- ITS FALSE NEIGHBOUR: 'it returns false'. Refute it at one input. -/
def nodeSizesWrong : ChangeSpec := { name := "nodeSizes", fn := fun _ => fun
  | [d] => { results := [.lit (.bool false)], args := [d] }
  | _ => none }
def NodeSizesWrongFalsely : Prop := nodeSizesRow.holds Try.pinned (OpenSpec.ofChange nodeSizesWrong)

/-- 'banyanlaw09.NodeCuts': WHATEVER THE INPUT: true; the input reads as it did. -/
def nodeCutsSpec : ChangeSpec := { name := "nodeCuts", fn := fun _ => fun
  | [d1, d2, d3] => { results := [.lit (.bool true)], args := [d1, d2, d3] }
  | _ => none }
def nodeCutsRow : OpenClaim := { program := "ytcgddhainmnebaa", sum := "8018ee9e8e38cb923fbae76677dada61f2e7cd9e629bdaee5650740fd834a9ad", func := "banyan/banyanlaw09.NodeCuts", spec := "nodeCuts", unfollowed := true, recurses := true, plainKeys := false, apart := false }
def NodeCutsSaid : Prop := nodeCutsRow.holds Try.pinned (OpenSpec.ofChange nodeCutsSpec)

/-- ITS FALSE NEIGHBOUR: 'it returns false'. Refute it at one input. -/
def nodeCutsWrong : ChangeSpec := { name := "nodeCuts", fn := fun _ => fun
  | [d1, d2, d3] => { results := [.lit (.bool false)], args := [d1, d2, d3] }
  | _ => none }
def NodeCutsWrongFalsely : Prop := nodeCutsRow.holds Try.pinned (OpenSpec.ofChange nodeCutsWrong)

/-- 'banyanlaw08.PtrCounts': WHATEVER THE INPUT: true; the input reads as it did. -/
def ptrCountsSpec : ChangeSpec := { name := "ptrCounts", fn := fun _ => fun
  | [d] => { results := [.lit (.bool true)], args := [d] }
  | _ => none }
def ptrCountsRow : OpenClaim := { program := "ytcgddhainmnebaa", sum := "8018ee9e8e38cb923fbae76677dada61f2e7cd9e629bdaee5650740fd834a9ad", func := "banyan/banyanlaw08.PtrCounts", spec := "ptrCounts", inPlace := ["internal/bytealg.Compare"], unfollowed := true, recurses := true, plainKeys := false, apart := false }
def PtrCountsSaid : Prop := ptrCountsRow.holds Try.pinned (OpenSpec.ofChange ptrCountsSpec)

/-- ITS FALSE NEIGHBOUR: 'it returns false'. Refute it at one input. -/
def ptrCountsWrong : ChangeSpec := { name := "ptrCounts", fn := fun _ => fun
  | [d] => { results := [.lit (.bool false)], args := [d] }
  | _ => none }
def PtrCountsWrongFalsely : Prop := ptrCountsRow.holds Try.pinned (OpenSpec.ofChange ptrCountsWrong)

/-- 'banyanlaw08.PtrAdds': WHATEVER THE INPUT: true; the input reads as it did. -/
def ptrAddsSpec : ChangeSpec := { name := "ptrAdds", fn := fun _ => fun
  | [d1, d2] => { results := [.lit (.bool true)], args := [d1, d2] }
  | _ => none }
def ptrAddsRow : OpenClaim := { program := "ytcgddhainmnebaa", sum := "8018ee9e8e38cb923fbae76677dada61f2e7cd9e629bdaee5650740fd834a9ad", func := "banyan/banyanlaw08.PtrAdds", spec := "ptrAdds", inPlace := ["internal/bytealg.Compare"], unfollowed := true, recurses := true, plainKeys := false, apart := false }
def PtrAddsSaid : Prop := ptrAddsRow.holds Try.pinned (OpenSpec.ofChange ptrAddsSpec)

/-- ITS FALSE NEIGHBOUR: 'it returns false'. Refute it at one input. -/
def ptrAddsWrong : ChangeSpec := { name := "ptrAdds", fn := fun _ => fun
  | [d1, d2] => { results := [.lit (.bool false)], args := [d1, d2] }
  | _ => none }
def PtrAddsWrongFalsely : Prop := ptrAddsRow.holds Try.pinned (OpenSpec.ofChange ptrAddsWrong)

/- THE SECOND FORM. 'bulk': how many values and letters a reading holds, each counted each time it is reached (what is shared counts as often as it is met; a slice's spare places count too). A statement '..UptoSaid' is the law's where the arguments, and the package variables that the reading takes, are together of bulk at most 1048576: NARROWER than '..Said'. Prove '..Said' where nothing that the law and all that it calls make is longer than what came in: it says more and counts as full. Else prove '..UptoSaid'. A law counts once. -/
mutual
def uptoBulk {H : Type} : DataW H → Nat
  | .lit (.string bytes) => bytes.length + 1
  | .lit _ => 1
  | .nil => 1
  | .ptr d => uptoBulk d + 1
  | .slice elems spare => uptoBulkAll elems + uptoBulkAll spare + 1
  | .agg parts => uptoBulkAll parts + 1
  | .iface _ d => uptoBulk d + 1
  | .map entries => uptoBulkEntries entries + 1
  | .held _ => 1
def uptoBulkAll {H : Type} : List (DataW H) → Nat
  | [] => 0
  | d :: r => uptoBulk d + uptoBulkAll r
def uptoBulkEntries {H : Type} : List (Lit × DataW H) → Nat
  | [] => 0
  | x :: r => uptoBulkEntry x + uptoBulkEntries r
def uptoBulkEntry {H : Type} : Lit × DataW H → Nat
  | (.string bytes, d) => bytes.length + uptoBulk d + 1
  | (_, d) => uptoBulk d + 1
 end
def uptoSmall : (H : Type) → List (DataW H) → Bool := fun _ ds => decide (uptoBulkAll ds ≤ 1048576)
def OpenSpec.upto (s : _root_.Go.ChangeSpec) : _root_.Go.OpenSpec := { _root_.Go.OpenSpec.ofChange s with cond := some uptoSmall }

/-- 'banyanlaw09.NodePuts', WHERE WHAT IT READS IS OF BULK AT MOST 1048576: true; the input reads as it did. -/
def nodePutsUptoRow : OpenClaim := { program := "ytcgddhainmnebaa", sum := "8018ee9e8e38cb923fbae76677dada61f2e7cd9e629bdaee5650740fd834a9ad", func := "banyan/banyanlaw09.NodePuts", spec := "nodePuts", unfollowed := true, recurses := true, plainKeys := false, apart := false, narrowed := true }
def NodePutsUptoSaid : Prop := nodePutsUptoRow.holds Try.pinned (OpenSpec.upto nodePutsSpec)

/-- 'banyanlaw09.NodeGets', WHERE WHAT IT READS IS OF BULK AT MOST 1048576: true; the input reads as it did. -/
def nodeGetsUptoRow : OpenClaim := { program := "ytcgddhainmnebaa", sum := "8018ee9e8e38cb923fbae76677dada61f2e7cd9e629bdaee5650740fd834a9ad", func := "banyan/banyanlaw09.NodeGets", spec := "nodeGets", unfollowed := true, recurses := true, plainKeys := false, apart := false, narrowed := true }
def NodeGetsUptoSaid : Prop := nodeGetsUptoRow.holds Try.pinned (OpenSpec.upto nodeGetsSpec)

/-- 'banyanlaw09.NodeFinds', WHERE WHAT IT READS IS OF BULK AT MOST 1048576: true; the input reads as it did. -/
def nodeFindsUptoRow : OpenClaim := { program := "ytcgddhainmnebaa", sum := "8018ee9e8e38cb923fbae76677dada61f2e7cd9e629bdaee5650740fd834a9ad", func := "banyan/banyanlaw09.NodeFinds", spec := "nodeFinds", unfollowed := true, recurses := true, plainKeys := false, apart := false, narrowed := true }
def NodeFindsUptoSaid : Prop := nodeFindsUptoRow.holds Try.pinned (OpenSpec.upto nodeFindsSpec)

/-- 'banyanlaw09.NodeBack', WHERE WHAT IT READS IS OF BULK AT MOST 1048576: true; the input reads as it did. -/
def nodeBackUptoRow : OpenClaim := { program := "ytcgddhainmnebaa", sum := "8018ee9e8e38cb923fbae76677dada61f2e7cd9e629bdaee5650740fd834a9ad", func := "banyan/banyanlaw09.NodeBack", spec := "nodeBack", unfollowed := true, recurses := true, plainKeys := false, apart := false, narrowed := true }
def NodeBackUptoSaid : Prop := nodeBackUptoRow.holds Try.pinned (OpenSpec.upto nodeBackSpec)

/-- 'banyanlaw09.NodePlaces', WHERE WHAT IT READS IS OF BULK AT MOST 1048576: true; the input reads as it did. -/
def nodePlacesUptoRow : OpenClaim := { program := "ytcgddhainmnebaa", sum := "8018ee9e8e38cb923fbae76677dada61f2e7cd9e629bdaee5650740fd834a9ad", func := "banyan/banyanlaw09.NodePlaces", spec := "nodePlaces", unfollowed := true, recurses := true, plainKeys := false, apart := false, narrowed := true }
def NodePlacesUptoSaid : Prop := nodePlacesUptoRow.holds Try.pinned (OpenSpec.upto nodePlacesSpec)

/-- 'banyanlaw09.NodeSizes', WHERE WHAT IT READS IS OF BULK AT MOST 1048576: true; the input reads as it did. -/
def nodeSizesUptoRow : OpenClaim := { program := "ytcgddhainmnebaa", sum := "8018ee9e8e38cb923fbae76677dada61f2e7cd9e629bdaee5650740fd834a9ad", func := "banyan/banyanlaw09.NodeSizes", spec := "nodeSizes", unfollowed := true, recurses := true, plainKeys := false, apart := false, narrowed := true }
def NodeSizesUptoSaid : Prop := nodeSizesUptoRow.holds Try.pinned (OpenSpec.upto nodeSizesSpec)

/-- 'banyanlaw09.NodeCuts', WHERE WHAT IT READS IS OF BULK AT MOST 1048576: true; the input reads as it did. -/
def nodeCutsUptoRow : OpenClaim := { program := "ytcgddhainmnebaa", sum := "8018ee9e8e38cb923fbae76677dada61f2e7cd9e629bdaee5650740fd834a9ad", func := "banyan/banyanlaw09.NodeCuts", spec := "nodeCuts", unfollowed := true, recurses := true, plainKeys := false, apart := false, narrowed := true }
def NodeCutsUptoSaid : Prop := nodeCutsUptoRow.holds Try.pinned (OpenSpec.upto nodeCutsSpec)

/-- 'banyanlaw08.PtrCounts', WHERE WHAT IT READS IS OF BULK AT MOST 1048576: true; the input reads as it did. -/
def ptrCountsUptoRow : OpenClaim := { program := "ytcgddhainmnebaa", sum := "8018ee9e8e38cb923fbae76677dada61f2e7cd9e629bdaee5650740fd834a9ad", func := "banyan/banyanlaw08.PtrCounts", spec := "ptrCounts", inPlace := ["internal/bytealg.Compare"], unfollowed := true, recurses := true, plainKeys := false, apart := false, narrowed := true }
def PtrCountsUptoSaid : Prop := ptrCountsUptoRow.holds Try.pinned (OpenSpec.upto ptrCountsSpec)

/-- 'banyanlaw08.PtrAdds', WHERE WHAT IT READS IS OF BULK AT MOST 1048576: true; the input reads as it did. -/
def ptrAddsUptoRow : OpenClaim := { program := "ytcgddhainmnebaa", sum := "8018ee9e8e38cb923fbae76677dada61f2e7cd9e629bdaee5650740fd834a9ad", func := "banyan/banyanlaw08.PtrAdds", spec := "ptrAdds", inPlace := ["internal/bytealg.Compare"], unfollowed := true, recurses := true, plainKeys := false, apart := false, narrowed := true }
def PtrAddsUptoSaid : Prop := ptrAddsUptoRow.holds Try.pinned (OpenSpec.upto ptrAddsSpec)

end Rows
end Go.Proofs.Ytcgddhainmnebaa
