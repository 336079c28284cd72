import Derived.Test.YtgckapolpifbkaaGreatDoorAes0
import Derived.Stop.BytesEq
import Derived.Laws.IdiomStrings
namespace Go.Proofs.YtgckapolpifbkaaGreatDoor
set_option maxRecDepth 4000
open Go.RowKit
theorem cells_y (l : List (BitVec 8)) : yvs l = ((l.map byteOf).map Extern.Stop.cell).toArray := by
  unfold yvs
  rw [List.map_map]
  rfl
theorem byteOf_inj {a b : BitVec 8} (h : byteOf a = byteOf b) : a = b := by
  injection h
theorem ybytes_inj (l m : List (BitVec 8)) : (l.map byteOf == m.map byteOf) = decide (l = m) := by
  by_cases h : l = m
  · subst h; simp
  · have : ¬ l.map byteOf = m.map byteOf := fun e => h (List.map_inj_right (fun _ _ => byteOf_inj) |>.1 e)
    simp [h, this]
end Go.Proofs.YtgckapolpifbkaaGreatDoor
