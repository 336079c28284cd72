/-
  Two blocks compared.
-/
import Derived.Test.YtfgdddejpdjllaaDoorAes0
import Derived.Stop.BytesEq
import Derived.Laws.IdiomStrings
namespace Go.Proofs.YtfgdddejpdjllaaDoor
set_option maxRecDepth 4000
open Go.RowKit

theorem cells_y (l : List (BitVec 8)) : yvs l = ((l.map byteOf).map Extern.Stop.cell).toArray := by
  unfold yvs
  rw [List.map_map]
  rfl
theorem byteOf_inj {a b : BitVec 8} (h : byteOf a = byteOf b) : a = b := by
  injection h
theorem ybytes_inj (l m : List (BitVec 8)) : (l.map byteOf == m.map byteOf) = decide (l = m) := by
  by_cases h : l = m
  · subst h; simp
  · have : ¬ l.map byteOf = m.map byteOf := fun e => h (List.map_inj_right (fun _ _ => byteOf_inj) |>.1 e)
    simp [h, this]
theorem eq_block (x y : List (BitVec 8)) (hx : x.length = 16) (hy : y.length = 16) (w : World) : (Op.equalIn 10000 71 (.agg (yvs x)) (.agg (yvs y))).run Tryd.prog w = .ok (decide (x = y)) w := by
  obtain ⟨i0, hi, hs⟩ := Option.map_eq_some_iff.1 yone
  rw [cells_y x, cells_y y, run_equalIn_bytes w 9998 71 5 16 Tryd.underlying71 Tryd.underlying5 (fun w => by simp [sizeOf, typeInfo, hi, hs]) _ _ (by simpa using hx) (by simpa using hy), ybytes_inj x y]
theorem eq_block16 (x y : List (BitVec 8)) (hx : x.length = 16) (hy : y.length = 16) (w : World) : (Op.equalIn 10000 70 (.agg (yvs x)) (.agg (yvs y))).run Tryd.prog w = .ok (decide (x = y)) w := by
  obtain ⟨i0, hi, hs⟩ := Option.map_eq_some_iff.1 yone
  rw [cells_y x, cells_y y, run_equalIn_bytes w 9998 70 5 16 Tryd.underlying70 Tryd.underlying5 (fun w => by simp [sizeOf, typeInfo, hi, hs]) _ _ (by simpa using hx) (by simpa using hy), ybytes_inj x y]
end Go.Proofs.YtfgdddejpdjllaaDoor
