/-
  A comparison of two hashes, in a region that draws its order.
-/
import Derived.Test.YtfgdddejpdjllaaDoorEj
namespace Go.Proofs.YtfgdddejpdjllaaDoor
set_option maxRecDepth 4000
set_option linter.unusedVariables false
open Go.ChangeShapes Go.WideShapes Go.ChangeAt Go.RowKit

theorem yieldsIf_bin {P : Program} {ops : Array Oper} {S : World → Prop} {op : Oper} {a : Act} (hw : Region.wanted op (yielded ops a.tmps) = true) (o : BinOp) (t r : TypeId) (x y : Operand) (ho : op.op = .binOp o t x y r) (u v z : Value) (hx : a.eval x = u) (hy : a.eval y = v)
    (hr : ∀ W, (do eqGuard o t x y u v; binOp o t u v : Sem Value).run P W = .ok z W) : YieldsIf P ops S op z a := by
  subst hx hy
  exact .inl ⟨hw, fun w _ => by
    have h := hr w
    unfold execOp
    simp only [ho]
    rw [Sem.run_bind, h]
    rfl⟩
theorem neq_hash_same (i j : Tmp) (x : List Int) (hx : x.length = 32) (hy : Byt x) (W : World) :
    (do eqGuard .neq 26 (.tmp i) (.tmp j) (.agg (u8s x)) (.agg (u8s x)); binOp .neq 26 (.agg (u8s x)) (.agg (u8s x)) : Sem Value).run Tryd.prog W = .ok (.bool false) W := by
  have h := eq_hash_same x hx hy W
  generalize u8s x = X at *
  go_simp
theorem eql_hash_same (i j : Tmp) (x : List Int) (hx : x.length = 32) (hy : Byt x) (W : World) :
    (do eqGuard .eql 26 (.tmp i) (.tmp j) (.agg (u8s x)) (.agg (u8s x)); binOp .eql 26 (.agg (u8s x)) (.agg (u8s x)) : Sem Value).run Tryd.prog W = .ok (.bool true) W := by
  have h := eq_hash_same x hx hy W
  generalize u8s x = X at *
  go_simp
theorem wpList_bin_g {P : Program} {ops : Array Oper} {rest : List Oper} {op : Oper} {a : Act} {w : World} {Q : Exit → Act → World → Prop} (hw : Region.wanted op (yielded ops a.tmps) = true) (o : BinOp) (t r : TypeId) (x y : Operand) (ho : op.op = .binOp o t x y r) (u v z : Value) (hx : a.eval x = u) (hy : a.eval y = v)
    (hr : ∀ W, (do eqGuard o t x y u v; binOp o t u v : Sem Value).run P W = .ok z W) (h : wpList P ops Q rest (a.put op.dst z) w) : wpList P ops Q (op :: rest) a w :=
  wpList_step fun _ hK => by
    subst hx hy
    have h2 := hr w
    rw [if_pos hw]
    unfold Oper.wp execOp
    simp only [ho]
    rw [Sem.run_bind, h2]
    exact hK _ _ h
end Go.Proofs.YtfgdddejpdjllaaDoor
