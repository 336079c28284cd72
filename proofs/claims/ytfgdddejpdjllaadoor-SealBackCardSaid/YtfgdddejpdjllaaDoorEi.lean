/-
  Blocks sealed: what the laws share.
-/
import Derived.Test.YtfgdddejpdjllaaDoorEg
import Derived.Test.YtfgdddejpdjllaaDoorEh
import Derived.Test.YtfgdddejpdjllaaDoorYEq
namespace Go.Proofs.YtfgdddejpdjllaaDoor
set_option maxRecDepth 4000
set_option linter.unusedVariables false
open Go.ChangeShapes Go.WideShapes Go.ChangeAt Go.RowKit

theorem wpList_load_mid_g {P : Program} {ops : Array Oper} {rest : List Oper} {op : Oper} {a : Act} {w : World} {Q : Exit → Act → World → Prop} (hw : Region.wanted op (yielded ops a.tmps) = true) (ty : TypeId) (x : Operand) (ho : op.op = .load ty x)
    (b o : Nat) (hx : a.eval x = .pointer (some ⟨b, o, none⟩)) (cs : List Value) (d : TypeDesc) (hc : w.rangeAt b o cs)
    (hu : P.underlying ty = some d) (hd : d.isRow = true) (hi : (P.info? ty).map (·.size) = some cs.length)
    (h : wpList P ops Q rest (a.put op.dst (.agg cs.toArray)) w) : wpList P ops Q (op :: rest) a w :=
  wpList_step fun _ hK => by rw [if_pos hw]; exact wp_load_mid ty x ho b o hx cs d hc hu hd hi (hK _ _ h)
theorem eq_key32 (x : List (BitVec 8)) (hx : x.length = 32) (w : World) : (Op.equalIn 10000 24 (.agg (yvs x)) (.agg (yvs x))).run Tryd.prog w = .ok true w := by
  obtain ⟨i0, hi, hs⟩ := Option.map_eq_some_iff.1 yone
  rw [cells_y x, run_equalIn_bytes w 9998 24 5 32 Tryd.underlying24 Tryd.underlying5 (fun w => by simp [sizeOf, typeInfo, hi, hs]) _ _ (by simpa using hx) (by simpa using hx), ybytes_inj x x]
  simp
theorem eq_hashY (x : List (BitVec 8)) (hx : x.length = 32) (w : World) : (Op.equalIn 10000 26 (.agg (yvs x)) (.agg (yvs x))).run Tryd.prog w = .ok true w := by
  obtain ⟨i0, hi, hs⟩ := Option.map_eq_some_iff.1 yone
  rw [cells_y x, run_equalIn_bytes w 9998 26 5 32 Tryd.underlying26 Tryd.underlying5 (fun w => by simp [sizeOf, typeInfo, hi, hs]) _ _ (by simpa using hx) (by simpa using hx), ybytes_inj x x]
  simp
theorem bts_of {w : World} {a : Option Addr} {n c : Nat} {x : List Int} (h : BS w (.slice a n c) x) (e : x.length = n) (h1 : n ≤ c) (h2 : c ≤ 140737488351232) : Bts w a n c (toY x) :=
  ⟨by rw [toY_yv x h.byt]; exact h, by rw [toY_length]; exact e, h1, by omega⟩
theorem fresh_two (w : World) (o1 o2 c1 c2 : Array Value) (T1 T2 : TypeId) : ∀ W, W = (((w.alloc (.cells o1 T1)).alloc (.cells o2 T2)).setRow w.heap.size c1).setRow (w.heap.size + 1) c2 →
    W.heap[w.heap.size]? = some (.cells c1 T1 (0, 0)) ∧ W.heap[w.heap.size + 1]? = some (.cells c2 T2 (0, 0)) ∧ Below w.heap.size w W := by
  rintro W rfl
  obtain ⟨h1, h2, _, hb⟩ := ytwo w (.cells o1 T1) (.cells o2 T2)
  refine ⟨(setRow_other _ _ _ _ (by omega)).trans (setRow_heap _ _ _ c1 _ _ h1), setRow_heap _ _ _ c2 _ _ ((setRow_other _ _ _ _ (by omega)).trans h2), ybelow_row (ybelow_row hb (Nat.le_refl _) _) (by omega) _⟩
theorem info_hashY (l : List (BitVec 8)) (h : l.length = 32) : (Tryd.prog.info? 26).map (·.size) = some (yvs l).toList.length := by rw [Array.length_toList, yvs_size, h]; kernel_rfl
theorem rkeysK_any (x : List Int) (v : Value) (w : World) (hv : BS w v x) (hr : Room v) (hn : x.length ≤ 900000) :
    Calls Tryd.prog 12 #[v] w fun e w' => e = .returned (.agg (yvs (encK x ++ macK x))) ∧ Below w.heap.size w w' := by
  rw [← keysK_row]; exact rkeys_any x v w hv hr hn
theorem zero_keys (W : World) : (zeroValue 28).run Tryd.prog W = .ok (.agg (yvs (zeroY 64))) W := by kernel_rfl
theorem zero_rkeys (W : World) : (zeroValue 31).run Tryd.prog W = .ok (.agg (yvs (zeroY 64))) W := by kernel_rfl
end Go.Proofs.YtfgdddejpdjllaaDoor
