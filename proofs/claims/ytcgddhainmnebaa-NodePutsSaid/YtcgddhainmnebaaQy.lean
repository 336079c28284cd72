/-
  A region that draws its order, whose operations only read and whose callees leave all that was there: walked once. Slices of strings cut.
-/
import Derived.Test.YtcgddhainmnebaaSt
namespace Go.Proofs.Ytcgddhainmnebaa
set_option maxRecDepth 4000
set_option linter.unusedVariables false
open Go.ChangeShapes Go.WideShapes Go.ChangeAt Go.RowKit

/-- A world in which all that was there in w is as it was. -/
structure BelowBy (w : World) where
  now : World
  bel : Below w.heap.size w now
instance byInhabited (w : World) : Inhabited (BelowBy w) := ⟨⟨w, Below.refl _ w⟩⟩
theorem wp_region_below {P : Program} {id : Nat} {Q : Exit → Act → World → Prop} {a : Act} {w : World} {l : List Oper} (hm : P.follows .mixedOrders = true) (hB : Region.lexB .any l.toArray = true)
    (h : wpQuiet P l.toArray (fun w' => ∃ p : BelowBy w, w' = p.now) (fun a' => ∀ w', (∃ p : BelowBy w, w' = p.now) → Q .normal a' w') l a) : (Code.region id l.toArray true).wp P Q a w :=
  wp_region_quiet (C := fun w' => ∃ p : BelowBy w, w' = p.now) hm hB ⟨⟨w.drew, (Below.refl _ w).drew⟩, rfl⟩ (by simpa using h)
theorem calls_below {P : Program} {f : FuncId} {args : Array Value} {w : World} {p : BelowBy w} {v : Value} (h : Calls P f args p.now fun e w' => e = .returned v ∧ Below p.now.heap.size p.now w') :
    Calls P f args p.now fun e w'' => e = .returned v ∧ ∃ q : BelowBy w, w'' = q.now :=
  h.mono fun _ w' ⟨he, hb⟩ => ⟨he, ⟨w', p.bel.trans (hb.mono p.bel.size)⟩, rfl⟩
theorem calls_below_same {P : Program} {f : FuncId} {args : Array Value} {w : World} {p : BelowBy w} {v : Value} (h : Calls P f args p.now fun e w' => e = .returned v ∧ w' = p.now) :
    Calls P f args p.now fun e w'' => e = .returned v ∧ ∃ q : BelowBy w, w'' = q.now :=
  h.mono fun _ w' ⟨he, hb⟩ => ⟨he, p, hb⟩
theorem by_cell {w : World} {a : Addr} {v : Value} (h : w.cell? a = some v) (p : BelowBy w) : p.now.cell? a = some v := (p.bel.cell (block_lt_of_cell h)).trans h
theorem SS.at {w : World} {a : Option Addr} {n c i : Nat} {l : List ByteArray} {s : ByteArray} (h : SS w (.slice a n c) l) (hs : l[i]? = some s) : ∃ b off, a = some ⟨b, off, none⟩ ∧ w.cell? ⟨b, off + i, none⟩ = some (.string s) := by
  obtain ⟨a', c', he, hcc, hc⟩ := h
  injection he with e1 e2 e3
  subst e1
  exact hc i s hs
theorem to_ss (W : World) (a : Option Addr) (len cap hi : Nat) (l : List ByteArray) (h : SS W (.slice a len cap) l) (h1 : hi ≤ len) :
    (∀ W', (Instr.slice 22 (.slice a len cap) none (some (.int .i64 (hi : Int))) none).run Try.prog W' = .ok (.slice (if cap = 0 then a else a.map (·.add 0)) hi cap) W') ∧ SS W (.slice (if cap = 0 then a else a.map (·.add 0)) hi cap) (l.take hi) := by
  obtain ⟨i0, hi0, hs⟩ := Option.map_eq_some_iff.1 (show (Try.prog.info? 9).map (·.size) = some 1 by kernel_rfl)
  obtain ⟨a', c', he, hcc, hc⟩ := h
  injection he with e1 e2 e3
  subst e1; subst e3; subst e2
  refine ⟨?_, ?_⟩
  · intro W'
    have b1 := ybound_ok hi cap .sliceAcap (by omega) W'
    simp [Instr.slice, run_underlying Try.underlying22, Instr.sliceBounds, sizeOf, typeInfo, hi0, b1]
  · refine ⟨_, _, by rw [List.length_take, Nat.min_eq_left h1], by rw [List.length_take]; omega, fun i q hq => ?_⟩
    rw [List.getElem?_take] at hq
    split at hq
    · have hlt := (List.getElem?_eq_some_iff.1 hq).1
      obtain ⟨b, off, e, hr⟩ := hc i q hq
      subst e
      refine ⟨b, off, ?_, hr⟩
      rw [if_neg (by omega)]
      simp [Addr.add_mid]
    · cases hq
end Go.Proofs.Ytcgddhainmnebaa
