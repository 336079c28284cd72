/-
  How a struct of a law of layer 10 comes in: banyanlaw10.Two.
-/
import Derived.Test.YtocdjaenhllemaaDoorUv
namespace Go.Proofs.YtocdjaenhllemaaDoor
set_option maxRecDepth 4000
set_option linter.unusedVariables false
open Go.ChangeShapes Go.WideShapes Go.ChangeAt Go.RowKit

def RTwo10 : World → Unit → List Value → Prop := fun W _ cs => ∃ (ka : Option Addr) (kc : Nat) (k : List Int) (fa : Option Addr) (fc : Nat) (f : List Int) (ga : Option Addr) (gc : Nat) (g : List Int) (o : Bool), cs = [Value.slice ka k.length kc] ++ ([Value.slice fa f.length fc] ++ ([Value.slice ga g.length gc] ++ ([Value.bool o]))) ∧ (k.length ≤ kc ∧ kc ≤ 140737488351232 ∧ BS W (.slice ka k.length kc) k) ∧ (f.length ≤ fc ∧ fc ≤ 140737488351232 ∧ BS W (.slice fa f.length fc) f) ∧ (g.length ≤ gc ∧ gc ≤ 140737488351232 ∧ BS W (.slice ga g.length gc) g)
theorem opn_two10 : Opn 44 RTwo10 := by
  intro H enc W fuel cs y h hw
  obtain ⟨xs, k, _, hx, hlen, hxl, hfs⟩ := DataW.trod_struct Tryd.underlying44 h
  rw [show Tryd.prog.cellsOf 44 = 4 by kernel_rfl] at hlen
  have hxk : xs.length = 4 := hxl
  have hd := congrArg Prod.fst hx
  dsimp only at hd
  clear hx hxl
  match xs, hxk with
  | [y0, y1, y2, y3], _ =>
    have e0 : Tryd.prog.cellsOf 22 = 1 := by kernel_rfl
    have e1 : Tryd.prog.cellsOf 4 = 1 := by kernel_rfl
    have hw2 : ∀ n ∈ DataW.weightsEach Tryd.prog [22, 22, 22, 4] [y0.1, y1.1, y2.1, y3.1], n ≤ reachBytes := fun n hn => hw n (by rw [hd]; simp only [DataW.weights, Tryd.underlying44]; exact hn)
    have g0 : DataW.trod enc Tryd.prog W 0 (fun _ => true) true k 22 ((cs.drop 0).take 1) = some y0 := by have q := hfs 0 _ rfl; rw [← e0]; exact q
    have g1 : DataW.trod enc Tryd.prog W 0 (fun _ => true) true k 22 ((cs.drop 1).take 1) = some y1 := by have q := hfs 1 _ rfl; rw [← e0]; exact q
    have g2 : DataW.trod enc Tryd.prog W 0 (fun _ => true) true k 22 ((cs.drop 2).take 1) = some y2 := by have q := hfs 2 _ rfl; rw [← e0]; exact q
    have g3 : DataW.trod enc Tryd.prog W 0 (fun _ => true) true k 4 ((cs.drop 3).take 1) = some y3 := by have q := hfs 3 _ rfl; rw [← e1]; exact q
    obtain ⟨k, ka, kc, r0, m0, n0, b0⟩ := opn_bytes _ _ _ _ _ _ g0 (fun n hn => hw2 n (DataW.weights_mem_each (j := 0) rfl rfl n hn))
    obtain ⟨f, fa, fc, r1, m1, n1, b1⟩ := opn_bytes _ _ _ _ _ _ g1 (fun n hn => hw2 n (DataW.weights_mem_each (j := 1) rfl rfl n hn))
    obtain ⟨g, ga, gc, r2, m2, n2, b2⟩ := opn_bytes _ _ _ _ _ _ g2 (fun n hn => hw2 n (DataW.weights_mem_each (j := 2) rfl rfl n hn))
    obtain ⟨o, r3⟩ := opn_bool Tryd.underlying4 _ _ _ _ _ _ g3 (fun n hn => hw2 n (DataW.weights_mem_each (j := 3) rfl rfl n hn))
    have hcs : cs = (cs.drop 0).take 1 ++ ((cs.drop 1).take 1 ++ ((cs.drop 2).take 1 ++ ((cs.drop 3).take 1))) := by
      conv => lhs; rw [← List.drop_zero (l := cs), lcut cs 0 1, lcut cs (0 + 1) 1, lcut cs (0 + 1 + 1) 1, lcut cs (0 + 1 + 1 + 1) 1]
      rw [List.drop_eq_nil_of_le (show cs.length ≤ 0 + 1 + 1 + 1 + 1 by omega), List.append_nil]
    rw [r0, r1, r2, r3] at hcs
    exact ⟨(), ka, kc, k, fa, fc, f, ga, gc, g, o, hcs, ⟨m0, n0, b0⟩, ⟨m1, n1, b1⟩, ⟨m2, n2, b2⟩⟩
def two10Cells (ka : Option Addr) (kc : Nat) (k : List Int) (fa : Option Addr) (fc : Nat) (f : List Int) (ga : Option Addr) (gc : Nat) (g : List Int) (o : Bool) : List Value := [Value.slice ka k.length kc] ++ ([Value.slice fa f.length fc] ++ ([Value.slice ga g.length gc] ++ ([Value.bool o])))
theorem par_two10 {H : Type} {enc : TypeId × Value → H} {W : World} {base : Nat} {v : Value} {d : DataW H} {p : List MemPlace} {ts : List TypeId} {ds : List (DataW H)} {j : Nat} (_hok : Value.okWide Tryd.prog W .any base 44 v) (h : ∃ fuel, DataW.trod enc Tryd.prog W 0 (fun _ => true) true fuel 44 v.cells.toList = some (d, p))
    (hsz : (DataW.weightsEach Tryd.prog ts ds).all (· ≤ reachBytes) = true) (ht : ts[j]? = some 44) (hd : ds[j]? = some d) : ∃ (ka : Option Addr) (kc : Nat) (k : List Int) (fa : Option Addr) (fc : Nat) (f : List Int) (ga : Option Addr) (gc : Nat) (g : List Int) (o : Bool), v = .agg (two10Cells ka kc k fa fc f ga gc g o).toArray ∧ (k.length ≤ kc ∧ kc ≤ 140737488351232 ∧ BS W (.slice ka k.length kc) k) ∧ (f.length ≤ fc ∧ fc ≤ 140737488351232 ∧ BS W (.slice fa f.length fc) f) ∧ (g.length ≤ gc ∧ gc ≤ 140737488351232 ∧ BS W (.slice ga g.length gc) g) := by
  rcases opn_param opn_two10 h hsz ht hd with ⟨_, ka, kc, k, fa, fc, f, ga, gc, g, o, e, q⟩
  have e : v.cells.toList = two10Cells ka kc k fa fc f ga gc g o := e
  refine ⟨ka, kc, k, fa, fc, f, ga, gc, g, o, ?_, q⟩
  rw [agg_cells (v := v) (by rw [e]; simp [two10Cells])]
  congr 1
  rw [← e]
end Go.Proofs.YtocdjaenhllemaaDoor
