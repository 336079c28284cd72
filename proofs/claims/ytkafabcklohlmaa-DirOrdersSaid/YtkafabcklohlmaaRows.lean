/-
  No cell of these rows narrows 'for every input' (looked for: loops, veiled, ifaces, maps, wideKeys, modest, calm, conditions, laid).
  DERIVED. THE GIVEN ROWS OF THIS SEAT. 7 by the template 'for every input the law returns true; each argument reads behind the call as it read before'; 0 by the template 'total and deterministic' (their statements: YtkafabcklohlmaaTotals.lean).
  GIVEN WITH THE SEED: the statements are not yours to turn. If you find one false, say at which input.
  Laid BY PROGRAM, IN A SANDBOX (cutbox-rows.mjs): the forced cells as the released guide's own fill.sh prints them over the translation 9ee3e8bb40e77bfb… (all of the seat's roots in one cut). By AI agents, Wed Nov 11 2026. No macro, syntax, notation, axiom, sorry.
-/
import Derived.Test.YtkafabcklohlmaaChecked
import GoSem.Claim
import GoSem.ClaimJoined
import GoSem.ClaimMapViews
import Derived.JoinedTies
import Derived.KernelRfl
namespace Go.Proofs.Ytkafabcklohlmaa
/- THE CELL 'sum', in the pinned program and in every row, IS THE sha256 OF THE DUMP (.gsa) THAT YtkafabcklohlmaaProg.lean LOADS. Nothing in Lean hashes anything: it is a label: what it is worth is what the hold of that sum in a sandbox is worth. -/
noncomputable def Try.pinned : Pinned := { name := "ytkafabcklohlmaa", sum := "9ee3e8bb40e77bfbea97e9cc24c11834955d4b197493c6a9bf11776d91f312fc", checked := Try.checked }
namespace Rows
def none {H : Type} : Left H := { results := [], args := [] }

/-- 'banyanlaw15.DirActs': WHATEVER THE INPUT: true; the input reads as it did. -/
def dirActsSpec : ChangeSpec := { name := "dirActs", fn := fun _ => fun
  | [d1, d2] => { results := [.lit (.bool true)], args := [d1, d2] }
  | _ => none }
def dirActsRow : OpenClaim := { program := "ytkafabcklohlmaa", sum := "9ee3e8bb40e77bfbea97e9cc24c11834955d4b197493c6a9bf11776d91f312fc", func := "banyan/banyanlaw15.DirActs", spec := "dirActs", inPlace := ["internal/bytealg.abigen_runtime_cmpstring"], unfollowed := true, recurses := true, apart := false }
def DirActsSaid : Prop := dirActsRow.holds Try.pinned (OpenSpec.ofChange dirActsSpec)

/-- ITS FALSE NEIGHBOUR: 'it returns false'. Refute it at one input. -/
def dirActsWrong : ChangeSpec := { name := "dirActs", fn := fun _ => fun
  | [d1, d2] => { results := [.lit (.bool false)], args := [d1, d2] }
  | _ => none }
def DirActsWrongFalsely : Prop := dirActsRow.holds Try.pinned (OpenSpec.ofChange dirActsWrong)

/-- 'banyanlaw15.DirBytes': WHATEVER THE INPUT: true; the input reads as it did. -/
def dirBytesSpec : ChangeSpec := { name := "dirBytes", fn := fun _ => fun
  | [d1, d2] => { results := [.lit (.bool true)], args := [d1, d2] }
  | _ => none }
def dirBytesRow : OpenClaim := { program := "ytkafabcklohlmaa", sum := "9ee3e8bb40e77bfbea97e9cc24c11834955d4b197493c6a9bf11776d91f312fc", func := "banyan/banyanlaw15.DirBytes", spec := "dirBytes", inPlace := ["internal/bytealg.abigen_runtime_cmpstring"], unfollowed := true, recurses := true, apart := false }
def DirBytesSaid : Prop := dirBytesRow.holds Try.pinned (OpenSpec.ofChange dirBytesSpec)

/-- ITS FALSE NEIGHBOUR: 'it returns false'. Refute it at one input. -/
def dirBytesWrong : ChangeSpec := { name := "dirBytes", fn := fun _ => fun
  | [d1, d2] => { results := [.lit (.bool false)], args := [d1, d2] }
  | _ => none }
def DirBytesWrongFalsely : Prop := dirBytesRow.holds Try.pinned (OpenSpec.ofChange dirBytesWrong)

/-- 'banyanlaw15.DirBack': WHATEVER THE INPUT: true; the input reads as it did. -/
def dirBackSpec : ChangeSpec := { name := "dirBack", fn := fun _ => fun
  | [d1, d2] => { results := [.lit (.bool true)], args := [d1, d2] }
  | _ => none }
def dirBackRow : OpenClaim := { program := "ytkafabcklohlmaa", sum := "9ee3e8bb40e77bfbea97e9cc24c11834955d4b197493c6a9bf11776d91f312fc", func := "banyan/banyanlaw15.DirBack", spec := "dirBack", inPlace := ["internal/bytealg.abigen_runtime_cmpstring"], unfollowed := true, recurses := true, apart := false }
def DirBackSaid : Prop := dirBackRow.holds Try.pinned (OpenSpec.ofChange dirBackSpec)

/-- ITS FALSE NEIGHBOUR: 'it returns false'. Refute it at one input. -/
def dirBackWrong : ChangeSpec := { name := "dirBack", fn := fun _ => fun
  | [d1, d2] => { results := [.lit (.bool false)], args := [d1, d2] }
  | _ => none }
def DirBackWrongFalsely : Prop := dirBackRow.holds Try.pinned (OpenSpec.ofChange dirBackWrong)

/-- 'banyanlaw15.DirValid': WHATEVER THE INPUT: true; the input reads as it did. -/
def dirValidSpec : ChangeSpec := { name := "dirValid", fn := fun _ => fun
  | [d] => { results := [.lit (.bool true)], args := [d] }
  | _ => none }
def dirValidRow : OpenClaim := { program := "ytkafabcklohlmaa", sum := "9ee3e8bb40e77bfbea97e9cc24c11834955d4b197493c6a9bf11776d91f312fc", func := "banyan/banyanlaw15.DirValid", spec := "dirValid", inPlace := ["internal/bytealg.abigen_runtime_cmpstring"], unfollowed := true, recurses := true, apart := false }
def DirValidSaid : Prop := dirValidRow.holds Try.pinned (OpenSpec.ofChange dirValidSpec)

/-- ITS FALSE NEIGHBOUR: 'it returns false'. Refute it at one input. -/
def dirValidWrong : ChangeSpec := { name := "dirValid", fn := fun _ => fun
  | [d] => { results := [.lit (.bool false)], args := [d] }
  | _ => none }
def DirValidWrongFalsely : Prop := dirValidRow.holds Try.pinned (OpenSpec.ofChange dirValidWrong)

/-- 'banyanlaw15.DirUsed': WHATEVER THE INPUT: true; the input reads as it did. -/
def dirUsedSpec : ChangeSpec := { name := "dirUsed", fn := fun _ => fun
  | [d] => { results := [.lit (.bool true)], args := [d] }
  | _ => none }
def dirUsedRow : OpenClaim := { program := "ytkafabcklohlmaa", sum := "9ee3e8bb40e77bfbea97e9cc24c11834955d4b197493c6a9bf11776d91f312fc", func := "banyan/banyanlaw15.DirUsed", spec := "dirUsed", inPlace := ["internal/bytealg.abigen_runtime_cmpstring"], unfollowed := true, recurses := true, apart := false }
def DirUsedSaid : Prop := dirUsedRow.holds Try.pinned (OpenSpec.ofChange dirUsedSpec)

/-- ITS FALSE NEIGHBOUR: 'it returns false'. Refute it at one input. -/
def dirUsedWrong : ChangeSpec := { name := "dirUsed", fn := fun _ => fun
  | [d] => { results := [.lit (.bool false)], args := [d] }
  | _ => none }
def DirUsedWrongFalsely : Prop := dirUsedRow.holds Try.pinned (OpenSpec.ofChange dirUsedWrong)

/-- 'banyanlaw15.DirNames': WHATEVER THE INPUT: true; the input reads as it did. -/
def dirNamesSpec : ChangeSpec := { name := "dirNames", fn := fun _ => fun
  | [d] => { results := [.lit (.bool true)], args := [d] }
  | _ => none }
def dirNamesRow : OpenClaim := { program := "ytkafabcklohlmaa", sum := "9ee3e8bb40e77bfbea97e9cc24c11834955d4b197493c6a9bf11776d91f312fc", func := "banyan/banyanlaw15.DirNames", spec := "dirNames", inPlace := ["internal/bytealg.abigen_runtime_cmpstring"], unfollowed := true, recurses := true, apart := false }
def DirNamesSaid : Prop := dirNamesRow.holds Try.pinned (OpenSpec.ofChange dirNamesSpec)

/-- ITS FALSE NEIGHBOUR: 'it returns false'. Refute it at one input. -/
def dirNamesWrong : ChangeSpec := { name := "dirNames", fn := fun _ => fun
  | [d] => { results := [.lit (.bool false)], args := [d] }
  | _ => none }
def DirNamesWrongFalsely : Prop := dirNamesRow.holds Try.pinned (OpenSpec.ofChange dirNamesWrong)

/-- 'banyanlaw15.DirOrders': WHATEVER THE INPUT: true; the input reads as it did. -/
def dirOrdersSpec : ChangeSpec := { name := "dirOrders", fn := fun _ => fun
  | [d1, d2] => { results := [.lit (.bool true)], args := [d1, d2] }
  | _ => none }
def dirOrdersRow : OpenClaim := { program := "ytkafabcklohlmaa", sum := "9ee3e8bb40e77bfbea97e9cc24c11834955d4b197493c6a9bf11776d91f312fc", func := "banyan/banyanlaw15.DirOrders", spec := "dirOrders", inPlace := ["internal/bytealg.abigen_runtime_cmpstring"], unfollowed := true, recurses := true, apart := false }
def DirOrdersSaid : Prop := dirOrdersRow.holds Try.pinned (OpenSpec.ofChange dirOrdersSpec)

/-- ITS FALSE NEIGHBOUR: 'it returns false'. Refute it at one input. -/
def dirOrdersWrong : ChangeSpec := { name := "dirOrders", fn := fun _ => fun
  | [d1, d2] => { results := [.lit (.bool false)], args := [d1, d2] }
  | _ => none }
def DirOrdersWrongFalsely : Prop := dirOrdersRow.holds Try.pinned (OpenSpec.ofChange dirOrdersWrong)

/- THE SECOND FORM. 'bulk': how many values and letters a reading holds, each counted each time it is reached (what is shared counts as often as it is met; a slice's spare places count too). A statement '..UptoSaid' is the law's where the arguments, and the package variables that the reading takes, are together of bulk at most 1048576: NARROWER than '..Said'. Prove '..Said' where nothing that the law and all that it calls make is longer than what came in: it says more and counts as full. Else prove '..UptoSaid'. A law counts once. -/
mutual
def uptoBulk {H : Type} : DataW H → Nat
  | .lit (.string bytes) => bytes.length + 1
  | .lit _ => 1
  | .nil => 1
  | .ptr d => uptoBulk d + 1
  | .slice elems spare => uptoBulkAll elems + uptoBulkAll spare + 1
  | .agg parts => uptoBulkAll parts + 1
  | .iface _ d => uptoBulk d + 1
  | .map entries => uptoBulkEntries entries + 1
  | .held _ => 1
def uptoBulkAll {H : Type} : List (DataW H) → Nat
  | [] => 0
  | d :: r => uptoBulk d + uptoBulkAll r
def uptoBulkEntries {H : Type} : List (Lit × DataW H) → Nat
  | [] => 0
  | x :: r => uptoBulkEntry x + uptoBulkEntries r
def uptoBulkEntry {H : Type} : Lit × DataW H → Nat
  | (.string bytes, d) => bytes.length + uptoBulk d + 1
  | (_, d) => uptoBulk d + 1
 end
def uptoSmall : (H : Type) → List (DataW H) → Bool := fun _ ds => decide (uptoBulkAll ds ≤ 1048576)
def OpenSpec.upto (s : _root_.Go.ChangeSpec) : _root_.Go.OpenSpec := { _root_.Go.OpenSpec.ofChange s with cond := some uptoSmall }

/-- 'banyanlaw15.DirActs', WHERE WHAT IT READS IS OF BULK AT MOST 1048576: true; the input reads as it did. -/
def dirActsUptoRow : OpenClaim := { program := "ytkafabcklohlmaa", sum := "9ee3e8bb40e77bfbea97e9cc24c11834955d4b197493c6a9bf11776d91f312fc", func := "banyan/banyanlaw15.DirActs", spec := "dirActs", inPlace := ["internal/bytealg.abigen_runtime_cmpstring"], unfollowed := true, recurses := true, apart := false, narrowed := true }
def DirActsUptoSaid : Prop := dirActsUptoRow.holds Try.pinned (OpenSpec.upto dirActsSpec)

/-- 'banyanlaw15.DirBytes', WHERE WHAT IT READS IS OF BULK AT MOST 1048576: true; the input reads as it did. -/
def dirBytesUptoRow : OpenClaim := { program := "ytkafabcklohlmaa", sum := "9ee3e8bb40e77bfbea97e9cc24c11834955d4b197493c6a9bf11776d91f312fc", func := "banyan/banyanlaw15.DirBytes", spec := "dirBytes", inPlace := ["internal/bytealg.abigen_runtime_cmpstring"], unfollowed := true, recurses := true, apart := false, narrowed := true }
def DirBytesUptoSaid : Prop := dirBytesUptoRow.holds Try.pinned (OpenSpec.upto dirBytesSpec)

/-- 'banyanlaw15.DirBack', WHERE WHAT IT READS IS OF BULK AT MOST 1048576: true; the input reads as it did. -/
def dirBackUptoRow : OpenClaim := { program := "ytkafabcklohlmaa", sum := "9ee3e8bb40e77bfbea97e9cc24c11834955d4b197493c6a9bf11776d91f312fc", func := "banyan/banyanlaw15.DirBack", spec := "dirBack", inPlace := ["internal/bytealg.abigen_runtime_cmpstring"], unfollowed := true, recurses := true, apart := false, narrowed := true }
def DirBackUptoSaid : Prop := dirBackUptoRow.holds Try.pinned (OpenSpec.upto dirBackSpec)

/-- 'banyanlaw15.DirValid', WHERE WHAT IT READS IS OF BULK AT MOST 1048576: true; the input reads as it did. -/
def dirValidUptoRow : OpenClaim := { program := "ytkafabcklohlmaa", sum := "9ee3e8bb40e77bfbea97e9cc24c11834955d4b197493c6a9bf11776d91f312fc", func := "banyan/banyanlaw15.DirValid", spec := "dirValid", inPlace := ["internal/bytealg.abigen_runtime_cmpstring"], unfollowed := true, recurses := true, apart := false, narrowed := true }
def DirValidUptoSaid : Prop := dirValidUptoRow.holds Try.pinned (OpenSpec.upto dirValidSpec)

/-- 'banyanlaw15.DirUsed', WHERE WHAT IT READS IS OF BULK AT MOST 1048576: true; the input reads as it did. -/
def dirUsedUptoRow : OpenClaim := { program := "ytkafabcklohlmaa", sum := "9ee3e8bb40e77bfbea97e9cc24c11834955d4b197493c6a9bf11776d91f312fc", func := "banyan/banyanlaw15.DirUsed", spec := "dirUsed", inPlace := ["internal/bytealg.abigen_runtime_cmpstring"], unfollowed := true, recurses := true, apart := false, narrowed := true }
def DirUsedUptoSaid : Prop := dirUsedUptoRow.holds Try.pinned (OpenSpec.upto dirUsedSpec)

/-- 'banyanlaw15.DirNames', WHERE WHAT IT READS IS OF BULK AT MOST 1048576: true; the input reads as it did. -/
def dirNamesUptoRow : OpenClaim := { program := "ytkafabcklohlmaa", sum := "9ee3e8bb40e77bfbea97e9cc24c11834955d4b197493c6a9bf11776d91f312fc", func := "banyan/banyanlaw15.DirNames", spec := "dirNames", inPlace := ["internal/bytealg.abigen_runtime_cmpstring"], unfollowed := true, recurses := true, apart := false, narrowed := true }
def DirNamesUptoSaid : Prop := dirNamesUptoRow.holds Try.pinned (OpenSpec.upto dirNamesSpec)

/-- 'banyanlaw15.DirOrders', WHERE WHAT IT READS IS OF BULK AT MOST 1048576: true; the input reads as it did. -/
def dirOrdersUptoRow : OpenClaim := { program := "ytkafabcklohlmaa", sum := "9ee3e8bb40e77bfbea97e9cc24c11834955d4b197493c6a9bf11776d91f312fc", func := "banyan/banyanlaw15.DirOrders", spec := "dirOrders", inPlace := ["internal/bytealg.abigen_runtime_cmpstring"], unfollowed := true, recurses := true, apart := false, narrowed := true }
def DirOrdersUptoSaid : Prop := dirOrdersUptoRow.holds Try.pinned (OpenSpec.upto dirOrdersSpec)

end Rows
end Go.Proofs.Ytkafabcklohlmaa
