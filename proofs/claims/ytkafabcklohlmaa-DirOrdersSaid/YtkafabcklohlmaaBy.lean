/-
  A region that draws its order, whose operations only read and whose callees leave all that was there: walked once.
-/
import Derived.Test.YtkafabcklohlmaaCtr0
import Derived.BigQuiet
import Derived.Deep.MidRow
namespace Go.Proofs.Ytkafabcklohlmaa
set_option maxRecDepth 4000
set_option linter.unusedVariables false
open Go.ChangeShapes Go.WideShapes Go.ChangeAt Go.RowKit

/-- A world in which all that was there in w is as it was. -/
structure BelowBy (w : World) where
  now : World
  bel : Below w.heap.size w now
instance byInhabited (w : World) : Inhabited (BelowBy w) := ⟨⟨w, Below.refl _ w⟩⟩
theorem wp_region_below {P : Program} {id : Nat} {Q : Exit → Act → World → Prop} {a : Act} {w : World} {l : List Oper} (hm : P.follows .mixedOrders = true) (hB : Region.lexB .any l.toArray = true)
    (h : wpQuiet P l.toArray (fun w' => ∃ p : BelowBy w, w' = p.now) (fun a' => ∀ w', (∃ p : BelowBy w, w' = p.now) → Q .normal a' w') l a) : (Code.region id l.toArray true).wp P Q a w :=
  wp_region_quiet (C := fun w' => ∃ p : BelowBy w, w' = p.now) hm hB ⟨⟨w.drew, (Below.refl _ w).drew⟩, rfl⟩ (by simpa using h)
theorem calls_below {P : Program} {f : FuncId} {args : Array Value} {w : World} {p : BelowBy w} {v : Value} (h : Calls P f args p.now fun e w' => e = .returned v ∧ Below p.now.heap.size p.now w') :
    Calls P f args p.now fun e w'' => e = .returned v ∧ ∃ q : BelowBy w, w'' = q.now :=
  h.mono fun _ w' ⟨he, hb⟩ => ⟨he, ⟨w', p.bel.trans (hb.mono p.bel.size)⟩, rfl⟩
theorem calls_below_same {P : Program} {f : FuncId} {args : Array Value} {w : World} {p : BelowBy w} {v : Value} (h : Calls P f args p.now fun e w' => e = .returned v ∧ w' = p.now) :
    Calls P f args p.now fun e w'' => e = .returned v ∧ ∃ q : BelowBy w, w'' = q.now :=
  h.mono fun _ w' ⟨he, hb⟩ => ⟨he, p, hb⟩
theorem by_cell {w : World} {a : Addr} {v : Value} (h : w.cell? a = some v) (p : BelowBy w) : p.now.cell? a = some v := (p.bel.cell (block_lt_of_cell h)).trans h
theorem by_range {w : World} {b o : Nat} {cs : List Value} (h : w.rangeAt b o cs) : ∀ w', (∃ p : BelowBy w, w' = p.now) → w'.rangeAt b o cs := by
  rintro _ ⟨p, rfl⟩ j v hj
  exact by_cell (h j v hj) p
/-- The load of a row, in such a region. -/
theorem quiet_load_row {P : Program} {ops : Array Oper} {C : World → Prop} {Q : Act → Prop} {a : Act} {o : Oper} {rest : List Oper} (hw : Region.wanted o (yielded ops a.tmps) = true) (ty : TypeId) (x : Operand) (ho : o.op = .load ty x)
    (b off : Nat) (hx : a.eval x = .pointer (some ⟨b, off, none⟩)) (cs : List Value) (d : TypeDesc) (hC : ∀ w, C w → w.rangeAt b off cs) (hu : P.underlying ty = some d) (hd : d.isRow = true) (hi : (P.info? ty).map (·.size) = some cs.length)
    (h : wpQuiet P ops C Q rest (a.put o.dst (.agg cs.toArray))) : wpQuiet P ops C Q (o :: rest) a :=
  BigFrame.wpQuiet_want hw fun K hK => ⟨.agg cs.toArray, fun w hw' => by
    unfold Oper.quietAt execOp
    simp only [ho, hx, Instr.loadAt, Instr.sureAddr, Sem.run_bind, Sem.run_pure, Result.andThen_ok, run_loadVar_mid w b off ty cs d (hC w hw') hu hd hi]
    exact ⟨rfl, rfl⟩, hK _ h⟩
end Go.Proofs.Ytkafabcklohlmaa
