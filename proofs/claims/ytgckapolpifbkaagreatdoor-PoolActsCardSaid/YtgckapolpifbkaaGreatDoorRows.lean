/-
  NARROWER THAN 'FOR EVERY INPUT', by the rows' own cells (each row's printed sentence says how): PoolActs: laid · PoolBack: laid · PoolTurns: laid · PoolFills: laid · PoolDown: laid · PoolKeys: laid · PoolTwice: laid.
  DERIVED. THE GIVEN ROWS OF THIS SEAT. 7 by the template 'for every input the law returns true; each argument reads behind the call as it read before'; 0 by the template 'total and deterministic' (their statements: YtgckapolpifbkaaGreatDoorTotals.lean).
  GIVEN WITH THE SEED: the statements are not yours to turn. If you find one false, say at which input.
  Laid BY PROGRAM, IN A SANDBOX (cutbox-rows.mjs): the forced cells as the released guide's own fill.sh prints them over the translation b19f681d148767ab… (all of the seat's roots in one cut). By AI agents, Wed Nov 11 2026. No macro, syntax, notation, axiom, sorry.
-/
import Derived.Test.YtgckapolpifbkaaGreatDoorChecked
import GoSem.Claim
import GoSem.ClaimJoined
import GoSem.ClaimMapViews
import Derived.JoinedTies
import Derived.KernelRfl
namespace Go.Proofs.YtgckapolpifbkaaGreatDoor
/- THE CELL 'sum', in the pinned program and in every row, IS THE sha256 OF THE DUMP (.gsa) THAT YtgckapolpifbkaaGreatDoorProg.lean LOADS. Nothing in Lean hashes anything: it is a label: what it is worth is what the hold of that sum in a sandbox is worth. -/
noncomputable def Tryz.pinned : Pinned := { name := "ytgckapolpifbkaagreatdoor", sum := "b19f681d148767abaa414abb30529e228ccaf845fd986a9b1075e1f9fb8a9c2d", checked := Tryz.checked }
namespace Rows
def none {H : Type} : Left H := { results := [], args := [] }

/- WHAT THE LISTED PACKAGE-LEVEL VARIABLES READ AS WHEN THE CALL BEGINS. Each datum BY PROGRAM (the guide's laid-datum.mjs) off the statement by which the dump's own 'gosem.cut.vars' lays the variable. In a bare row this is a premise. The card (YtgckapolpifbkaaGreatDoorCards.lean) ties it to the program's text. -/
def laid_banyan_sha_roundNumbers {H : Type} : DataW H := .agg [.lit (.int .u32 1116352408), .lit (.int .u32 1899447441), .lit (.int .u32 3049323471), .lit (.int .u32 3921009573), .lit (.int .u32 961987163), .lit (.int .u32 1508970993), .lit (.int .u32 2453635748), .lit (.int .u32 2870763221), .lit (.int .u32 3624381080), .lit (.int .u32 310598401), .lit (.int .u32 607225278), .lit (.int .u32 1426881987), .lit (.int .u32 1925078388), .lit (.int .u32 2162078206), .lit (.int .u32 2614888103), .lit (.int .u32 3248222580), .lit (.int .u32 3835390401), .lit (.int .u32 4022224774), .lit (.int .u32 264347078), .lit (.int .u32 604807628), .lit (.int .u32 770255983), .lit (.int .u32 1249150122), .lit (.int .u32 1555081692), .lit (.int .u32 1996064986), .lit (.int .u32 2554220882), .lit (.int .u32 2821834349), .lit (.int .u32 2952996808), .lit (.int .u32 3210313671), .lit (.int .u32 3336571891), .lit (.int .u32 3584528711), .lit (.int .u32 113926993), .lit (.int .u32 338241895), .lit (.int .u32 666307205), .lit (.int .u32 773529912), .lit (.int .u32 1294757372), .lit (.int .u32 1396182291), .lit (.int .u32 1695183700), .lit (.int .u32 1986661051), .lit (.int .u32 2177026350), .lit (.int .u32 2456956037), .lit (.int .u32 2730485921), .lit (.int .u32 2820302411), .lit (.int .u32 3259730800), .lit (.int .u32 3345764771), .lit (.int .u32 3516065817), .lit (.int .u32 3600352804), .lit (.int .u32 4094571909), .lit (.int .u32 275423344), .lit (.int .u32 430227734), .lit (.int .u32 506948616), .lit (.int .u32 659060556), .lit (.int .u32 883997877), .lit (.int .u32 958139571), .lit (.int .u32 1322822218), .lit (.int .u32 1537002063), .lit (.int .u32 1747873779), .lit (.int .u32 1955562222), .lit (.int .u32 2024104815), .lit (.int .u32 2227730452), .lit (.int .u32 2361852424), .lit (.int .u32 2428436474), .lit (.int .u32 2756734187), .lit (.int .u32 3204031479), .lit (.int .u32 3329325298)]
def laid_math_bits_deBruijn64tab {H : Type} : DataW H := .agg [.lit (.int .u8 0), .lit (.int .u8 1), .lit (.int .u8 56), .lit (.int .u8 2), .lit (.int .u8 57), .lit (.int .u8 49), .lit (.int .u8 28), .lit (.int .u8 3), .lit (.int .u8 61), .lit (.int .u8 58), .lit (.int .u8 42), .lit (.int .u8 50), .lit (.int .u8 38), .lit (.int .u8 29), .lit (.int .u8 17), .lit (.int .u8 4), .lit (.int .u8 62), .lit (.int .u8 47), .lit (.int .u8 59), .lit (.int .u8 36), .lit (.int .u8 45), .lit (.int .u8 43), .lit (.int .u8 51), .lit (.int .u8 22), .lit (.int .u8 53), .lit (.int .u8 39), .lit (.int .u8 33), .lit (.int .u8 30), .lit (.int .u8 24), .lit (.int .u8 18), .lit (.int .u8 12), .lit (.int .u8 5), .lit (.int .u8 63), .lit (.int .u8 55), .lit (.int .u8 48), .lit (.int .u8 27), .lit (.int .u8 60), .lit (.int .u8 41), .lit (.int .u8 37), .lit (.int .u8 16), .lit (.int .u8 46), .lit (.int .u8 35), .lit (.int .u8 44), .lit (.int .u8 21), .lit (.int .u8 52), .lit (.int .u8 32), .lit (.int .u8 23), .lit (.int .u8 11), .lit (.int .u8 54), .lit (.int .u8 26), .lit (.int .u8 40), .lit (.int .u8 15), .lit (.int .u8 34), .lit (.int .u8 20), .lit (.int .u8 31), .lit (.int .u8 10), .lit (.int .u8 25), .lit (.int .u8 14), .lit (.int .u8 19), .lit (.int .u8 9), .lit (.int .u8 13), .lit (.int .u8 8), .lit (.int .u8 7), .lit (.int .u8 6)]

/-- 'banyanlaw13.PoolActs': WHATEVER THE INPUT: true; the input reads as it did. -/
def poolActsSpec : ChangeSpec := { name := "poolActs", fn := fun _ => fun
  | [d1, d2] => { results := [.lit (.bool true)], args := [d1, d2] }
  | _ => none }
def poolActsRow : OpenClaim := { program := "ytgckapolpifbkaagreatdoor", sum := "b19f681d148767abaa414abb30529e228ccaf845fd986a9b1075e1f9fb8a9c2d", func := "banyan/banyanlaw13.PoolActs", spec := "poolActs", unfollowed := true, recurses := true, named := ["banyan/sha.roundNumbers", "math/bits.deBruijn64tab"], apart := false, laid := [("banyan/sha.roundNumbers", laid_banyan_sha_roundNumbers), ("math/bits.deBruijn64tab", laid_math_bits_deBruijn64tab)] }
def PoolActsSaid : Prop := poolActsRow.holds Tryz.pinned (OpenSpec.ofChange poolActsSpec)

/-- ITS FALSE NEIGHBOUR: 'it returns false'. Refute it at one input. -/
def poolActsWrong : ChangeSpec := { name := "poolActs", fn := fun _ => fun
  | [d1, d2] => { results := [.lit (.bool false)], args := [d1, d2] }
  | _ => none }
def PoolActsWrongFalsely : Prop := poolActsRow.holds Tryz.pinned (OpenSpec.ofChange poolActsWrong)

/-- 'banyanlaw13.PoolBack': WHATEVER THE INPUT: true; the input reads as it did. -/
def poolBackSpec : ChangeSpec := { name := "poolBack", fn := fun _ => fun
  | [d1, d2] => { results := [.lit (.bool true)], args := [d1, d2] }
  | _ => none }
def poolBackRow : OpenClaim := { program := "ytgckapolpifbkaagreatdoor", sum := "b19f681d148767abaa414abb30529e228ccaf845fd986a9b1075e1f9fb8a9c2d", func := "banyan/banyanlaw13.PoolBack", spec := "poolBack", unfollowed := true, recurses := true, named := ["banyan/sha.roundNumbers", "math/bits.deBruijn64tab"], apart := false, laid := [("banyan/sha.roundNumbers", laid_banyan_sha_roundNumbers), ("math/bits.deBruijn64tab", laid_math_bits_deBruijn64tab)] }
def PoolBackSaid : Prop := poolBackRow.holds Tryz.pinned (OpenSpec.ofChange poolBackSpec)

/-- ITS FALSE NEIGHBOUR: 'it returns false'. Refute it at one input. -/
def poolBackWrong : ChangeSpec := { name := "poolBack", fn := fun _ => fun
  | [d1, d2] => { results := [.lit (.bool false)], args := [d1, d2] }
  | _ => none }
def PoolBackWrongFalsely : Prop := poolBackRow.holds Tryz.pinned (OpenSpec.ofChange poolBackWrong)

/-- 'banyanlaw13.PoolTurns': WHATEVER THE INPUT: true; the input reads as it did. -/
def poolTurnsSpec : ChangeSpec := { name := "poolTurns", fn := fun _ => fun
  | [d1, d2, d3] => { results := [.lit (.bool true)], args := [d1, d2, d3] }
  | _ => none }
def poolTurnsRow : OpenClaim := { program := "ytgckapolpifbkaagreatdoor", sum := "b19f681d148767abaa414abb30529e228ccaf845fd986a9b1075e1f9fb8a9c2d", func := "banyan/banyanlaw13.PoolTurns", spec := "poolTurns", unfollowed := true, recurses := true, named := ["banyan/sha.roundNumbers", "math/bits.deBruijn64tab"], apart := false, laid := [("banyan/sha.roundNumbers", laid_banyan_sha_roundNumbers), ("math/bits.deBruijn64tab", laid_math_bits_deBruijn64tab)] }
def PoolTurnsSaid : Prop := poolTurnsRow.holds Tryz.pinned (OpenSpec.ofChange poolTurnsSpec)

/-- ITS FALSE NEIGHBOUR: 'it returns false'. Refute it at one input. -/
def poolTurnsWrong : ChangeSpec := { name := "poolTurns", fn := fun _ => fun
  | [d1, d2, d3] => { results := [.lit (.bool false)], args := [d1, d2, d3] }
  | _ => none }
def PoolTurnsWrongFalsely : Prop := poolTurnsRow.holds Tryz.pinned (OpenSpec.ofChange poolTurnsWrong)

/-- 'banyanlaw13.PoolFills': WHATEVER THE INPUT: true; the input reads as it did. -/
def poolFillsSpec : ChangeSpec := { name := "poolFills", fn := fun _ => fun
  | [d1, d2] => { results := [.lit (.bool true)], args := [d1, d2] }
  | _ => none }
def poolFillsRow : OpenClaim := { program := "ytgckapolpifbkaagreatdoor", sum := "b19f681d148767abaa414abb30529e228ccaf845fd986a9b1075e1f9fb8a9c2d", func := "banyan/banyanlaw13.PoolFills", spec := "poolFills", unfollowed := true, recurses := true, named := ["banyan/sha.roundNumbers", "math/bits.deBruijn64tab"], apart := false, laid := [("banyan/sha.roundNumbers", laid_banyan_sha_roundNumbers), ("math/bits.deBruijn64tab", laid_math_bits_deBruijn64tab)] }
def PoolFillsSaid : Prop := poolFillsRow.holds Tryz.pinned (OpenSpec.ofChange poolFillsSpec)

/-- ITS FALSE NEIGHBOUR: 'it returns false'. Refute it at one input. -/
def poolFillsWrong : ChangeSpec := { name := "poolFills", fn := fun _ => fun
  | [d1, d2] => { results := [.lit (.bool false)], args := [d1, d2] }
  | _ => none }
def PoolFillsWrongFalsely : Prop := poolFillsRow.holds Tryz.pinned (OpenSpec.ofChange poolFillsWrong)

/-- 'banyanlaw13.PoolDown': WHATEVER THE INPUT: true; the input reads as it did. -/
def poolDownSpec : ChangeSpec := { name := "poolDown", fn := fun _ => fun
  | [d1, d2] => { results := [.lit (.bool true)], args := [d1, d2] }
  | _ => none }
def poolDownRow : OpenClaim := { program := "ytgckapolpifbkaagreatdoor", sum := "b19f681d148767abaa414abb30529e228ccaf845fd986a9b1075e1f9fb8a9c2d", func := "banyan/banyanlaw13.PoolDown", spec := "poolDown", unfollowed := true, recurses := true, named := ["banyan/sha.roundNumbers", "math/bits.deBruijn64tab"], apart := false, laid := [("banyan/sha.roundNumbers", laid_banyan_sha_roundNumbers), ("math/bits.deBruijn64tab", laid_math_bits_deBruijn64tab)] }
def PoolDownSaid : Prop := poolDownRow.holds Tryz.pinned (OpenSpec.ofChange poolDownSpec)

/-- ITS FALSE NEIGHBOUR: 'it returns false'. Refute it at one input. -/
def poolDownWrong : ChangeSpec := { name := "poolDown", fn := fun _ => fun
  | [d1, d2] => { results := [.lit (.bool false)], args := [d1, d2] }
  | _ => none }
def PoolDownWrongFalsely : Prop := poolDownRow.holds Tryz.pinned (OpenSpec.ofChange poolDownWrong)

/-- 'banyanlaw13.PoolKeys': WHATEVER THE INPUT: true; the input reads as it did. -/
def poolKeysSpec : ChangeSpec := { name := "poolKeys", fn := fun _ => fun
  | [d1, d2] => { results := [.lit (.bool true)], args := [d1, d2] }
  | _ => none }
def poolKeysRow : OpenClaim := { program := "ytgckapolpifbkaagreatdoor", sum := "b19f681d148767abaa414abb30529e228ccaf845fd986a9b1075e1f9fb8a9c2d", func := "banyan/banyanlaw13.PoolKeys", spec := "poolKeys", unfollowed := true, recurses := true, named := ["banyan/sha.roundNumbers", "math/bits.deBruijn64tab"], apart := false, laid := [("banyan/sha.roundNumbers", laid_banyan_sha_roundNumbers), ("math/bits.deBruijn64tab", laid_math_bits_deBruijn64tab)] }
def PoolKeysSaid : Prop := poolKeysRow.holds Tryz.pinned (OpenSpec.ofChange poolKeysSpec)

/-- ITS FALSE NEIGHBOUR: 'it returns false'. Refute it at one input. -/
def poolKeysWrong : ChangeSpec := { name := "poolKeys", fn := fun _ => fun
  | [d1, d2] => { results := [.lit (.bool false)], args := [d1, d2] }
  | _ => none }
def PoolKeysWrongFalsely : Prop := poolKeysRow.holds Tryz.pinned (OpenSpec.ofChange poolKeysWrong)

/-- 'banyanlaw13.PoolTwice': WHATEVER THE INPUT: true; the input reads as it did. -/
def poolTwiceSpec : ChangeSpec := { name := "poolTwice", fn := fun _ => fun
  | [d1, d2, d3] => { results := [.lit (.bool true)], args := [d1, d2, d3] }
  | _ => none }
def poolTwiceRow : OpenClaim := { program := "ytgckapolpifbkaagreatdoor", sum := "b19f681d148767abaa414abb30529e228ccaf845fd986a9b1075e1f9fb8a9c2d", func := "banyan/banyanlaw13.PoolTwice", spec := "poolTwice", unfollowed := true, recurses := true, named := ["banyan/sha.roundNumbers", "math/bits.deBruijn64tab"], apart := false, laid := [("banyan/sha.roundNumbers", laid_banyan_sha_roundNumbers), ("math/bits.deBruijn64tab", laid_math_bits_deBruijn64tab)] }
def PoolTwiceSaid : Prop := poolTwiceRow.holds Tryz.pinned (OpenSpec.ofChange poolTwiceSpec)

/-- ITS FALSE NEIGHBOUR: 'it returns false'. Refute it at one input. -/
def poolTwiceWrong : ChangeSpec := { name := "poolTwice", fn := fun _ => fun
  | [d1, d2, d3] => { results := [.lit (.bool false)], args := [d1, d2, d3] }
  | _ => none }
def PoolTwiceWrongFalsely : Prop := poolTwiceRow.holds Tryz.pinned (OpenSpec.ofChange poolTwiceWrong)

/- THE SECOND FORM. 'bulk': how many values and letters a reading holds, each counted each time it is reached (what is shared counts as often as it is met; a slice's spare places count too). A statement '..UptoSaid' is the law's where the arguments, and the package variables that the reading takes, are together of bulk at most 1048576: NARROWER than '..Said'. Prove '..Said' where nothing that the law and all that it calls make is longer than what came in: it says more and counts as full. Else prove '..UptoSaid'. A law counts once. -/
mutual
def uptoBulk {H : Type} : DataW H → Nat
  | .lit (.string bytes) => bytes.length + 1
  | .lit _ => 1
  | .nil => 1
  | .ptr d => uptoBulk d + 1
  | .slice elems spare => uptoBulkAll elems + uptoBulkAll spare + 1
  | .agg parts => uptoBulkAll parts + 1
  | .iface _ d => uptoBulk d + 1
  | .map entries => uptoBulkEntries entries + 1
  | .held _ => 1
def uptoBulkAll {H : Type} : List (DataW H) → Nat
  | [] => 0
  | d :: r => uptoBulk d + uptoBulkAll r
def uptoBulkEntries {H : Type} : List (Lit × DataW H) → Nat
  | [] => 0
  | x :: r => uptoBulkEntry x + uptoBulkEntries r
def uptoBulkEntry {H : Type} : Lit × DataW H → Nat
  | (.string bytes, d) => bytes.length + uptoBulk d + 1
  | (_, d) => uptoBulk d + 1
 end
def uptoSmall : (H : Type) → List (DataW H) → Bool := fun _ ds => decide (uptoBulkAll ds ≤ 1048576)
def OpenSpec.upto (s : _root_.Go.ChangeSpec) : _root_.Go.OpenSpec := { _root_.Go.OpenSpec.ofChange s with cond := some uptoSmall }

/-- 'banyanlaw13.PoolActs', WHERE WHAT IT READS IS OF BULK AT MOST 1048576: true; the input reads as it did. -/
def poolActsUptoRow : OpenClaim := { program := "ytgckapolpifbkaagreatdoor", sum := "b19f681d148767abaa414abb30529e228ccaf845fd986a9b1075e1f9fb8a9c2d", func := "banyan/banyanlaw13.PoolActs", spec := "poolActs", unfollowed := true, recurses := true, named := ["banyan/sha.roundNumbers", "math/bits.deBruijn64tab"], apart := false, laid := [("banyan/sha.roundNumbers", laid_banyan_sha_roundNumbers), ("math/bits.deBruijn64tab", laid_math_bits_deBruijn64tab)], narrowed := true }
def PoolActsUptoSaid : Prop := poolActsUptoRow.holds Tryz.pinned (OpenSpec.upto poolActsSpec)

/-- 'banyanlaw13.PoolBack', WHERE WHAT IT READS IS OF BULK AT MOST 1048576: true; the input reads as it did. -/
def poolBackUptoRow : OpenClaim := { program := "ytgckapolpifbkaagreatdoor", sum := "b19f681d148767abaa414abb30529e228ccaf845fd986a9b1075e1f9fb8a9c2d", func := "banyan/banyanlaw13.PoolBack", spec := "poolBack", unfollowed := true, recurses := true, named := ["banyan/sha.roundNumbers", "math/bits.deBruijn64tab"], apart := false, laid := [("banyan/sha.roundNumbers", laid_banyan_sha_roundNumbers), ("math/bits.deBruijn64tab", laid_math_bits_deBruijn64tab)], narrowed := true }
def PoolBackUptoSaid : Prop := poolBackUptoRow.holds Tryz.pinned (OpenSpec.upto poolBackSpec)

/-- 'banyanlaw13.PoolTurns', WHERE WHAT IT READS IS OF BULK AT MOST 1048576: true; the input reads as it did. -/
def poolTurnsUptoRow : OpenClaim := { program := "ytgckapolpifbkaagreatdoor", sum := "b19f681d148767abaa414abb30529e228ccaf845fd986a9b1075e1f9fb8a9c2d", func := "banyan/banyanlaw13.PoolTurns", spec := "poolTurns", unfollowed := true, recurses := true, named := ["banyan/sha.roundNumbers", "math/bits.deBruijn64tab"], apart := false, laid := [("banyan/sha.roundNumbers", laid_banyan_sha_roundNumbers), ("math/bits.deBruijn64tab", laid_math_bits_deBruijn64tab)], narrowed := true }
def PoolTurnsUptoSaid : Prop := poolTurnsUptoRow.holds Tryz.pinned (OpenSpec.upto poolTurnsSpec)

/-- 'banyanlaw13.PoolFills', WHERE WHAT IT READS IS OF BULK AT MOST 1048576: true; the input reads as it did. -/
def poolFillsUptoRow : OpenClaim := { program := "ytgckapolpifbkaagreatdoor", sum := "b19f681d148767abaa414abb30529e228ccaf845fd986a9b1075e1f9fb8a9c2d", func := "banyan/banyanlaw13.PoolFills", spec := "poolFills", unfollowed := true, recurses := true, named := ["banyan/sha.roundNumbers", "math/bits.deBruijn64tab"], apart := false, laid := [("banyan/sha.roundNumbers", laid_banyan_sha_roundNumbers), ("math/bits.deBruijn64tab", laid_math_bits_deBruijn64tab)], narrowed := true }
def PoolFillsUptoSaid : Prop := poolFillsUptoRow.holds Tryz.pinned (OpenSpec.upto poolFillsSpec)

/-- 'banyanlaw13.PoolDown', WHERE WHAT IT READS IS OF BULK AT MOST 1048576: true; the input reads as it did. -/
def poolDownUptoRow : OpenClaim := { program := "ytgckapolpifbkaagreatdoor", sum := "b19f681d148767abaa414abb30529e228ccaf845fd986a9b1075e1f9fb8a9c2d", func := "banyan/banyanlaw13.PoolDown", spec := "poolDown", unfollowed := true, recurses := true, named := ["banyan/sha.roundNumbers", "math/bits.deBruijn64tab"], apart := false, laid := [("banyan/sha.roundNumbers", laid_banyan_sha_roundNumbers), ("math/bits.deBruijn64tab", laid_math_bits_deBruijn64tab)], narrowed := true }
def PoolDownUptoSaid : Prop := poolDownUptoRow.holds Tryz.pinned (OpenSpec.upto poolDownSpec)

/-- 'banyanlaw13.PoolKeys', WHERE WHAT IT READS IS OF BULK AT MOST 1048576: true; the input reads as it did. -/
def poolKeysUptoRow : OpenClaim := { program := "ytgckapolpifbkaagreatdoor", sum := "b19f681d148767abaa414abb30529e228ccaf845fd986a9b1075e1f9fb8a9c2d", func := "banyan/banyanlaw13.PoolKeys", spec := "poolKeys", unfollowed := true, recurses := true, named := ["banyan/sha.roundNumbers", "math/bits.deBruijn64tab"], apart := false, laid := [("banyan/sha.roundNumbers", laid_banyan_sha_roundNumbers), ("math/bits.deBruijn64tab", laid_math_bits_deBruijn64tab)], narrowed := true }
def PoolKeysUptoSaid : Prop := poolKeysUptoRow.holds Tryz.pinned (OpenSpec.upto poolKeysSpec)

/-- 'banyanlaw13.PoolTwice', WHERE WHAT IT READS IS OF BULK AT MOST 1048576: true; the input reads as it did. -/
def poolTwiceUptoRow : OpenClaim := { program := "ytgckapolpifbkaagreatdoor", sum := "b19f681d148767abaa414abb30529e228ccaf845fd986a9b1075e1f9fb8a9c2d", func := "banyan/banyanlaw13.PoolTwice", spec := "poolTwice", unfollowed := true, recurses := true, named := ["banyan/sha.roundNumbers", "math/bits.deBruijn64tab"], apart := false, laid := [("banyan/sha.roundNumbers", laid_banyan_sha_roundNumbers), ("math/bits.deBruijn64tab", laid_math_bits_deBruijn64tab)], narrowed := true }
def PoolTwiceUptoSaid : Prop := poolTwiceUptoRow.holds Tryz.pinned (OpenSpec.upto poolTwiceSpec)

end Rows
end Go.Proofs.YtgckapolpifbkaaGreatDoor
