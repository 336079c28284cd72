/-
  The closure of CtrBlocks: of a number the block sealed, and whether the stream has it there.
-/
import Derived.Test.YtfgdddejpdjllaaDoorCtr0
import Derived.Test.YtfgdddejpdjllaaDoorYEq
namespace Go.Proofs.YtfgdddejpdjllaaDoor
set_option maxRecDepth 4000
open Go.RowKit

theorem slice_u12 (g : Nat) (W : World) : (Instr.sliceAt 64 (.pointer (some ⟨g, 0, none⟩)) none none none).run Tryd.prog W = .ok (.slice (some ⟨g, 0, none⟩) 12 12) W := by
  obtain ⟨i0, hi0, _⟩ := Option.map_eq_some_iff.1 yone
  simp [Instr.sliceAt, run_underlying Tryd.underlying64, Instr.sureAddr, Instr.sliceBounds, sizeOf, typeInfo, hi0, Addr.add_mid]
theorem slice_b12 (g : Nat) (W : World) : (Instr.sliceAt 71 (.pointer (some ⟨g, 0, none⟩)) (some (.int .i64 12)) none none).run Tryd.prog W = .ok (.slice (some ⟨g, 12, none⟩) 4 4) W := slice_block g 12 (by omega) W

end Go.Proofs.YtfgdddejpdjllaaDoor
