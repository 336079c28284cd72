import Derived.Test.YtljjcbmkbmloaaaGreatDoorGTu32
namespace Go.Proofs.YtljjcbmkbmloaaaGreatDoor
set_option maxRecDepth 4000
set_option linter.unusedVariables false
open Go.RowKit
theorem GZ (W:World)(C:Array Value)(n c:Nat):(convert 62 62 (.slice (some ⟨W.heap.size,0,none⟩) n c)).run Tryz.prog (W.alloc (.cells C 5)) = .ok (.slice (some ⟨W.heap.size,0,none⟩) n c) (W.alloc (.cells C 5 (C.size,C.size+1))) :=
 Lib.run_convert_bytes_const (P:=Tryz.prog) W 62 5 C n c Tryz.underlying62 Tryz.underlying5
end Go.Proofs.YtljjcbmkbmloaaaGreatDoor
