/-
  How a struct of a law of layer 10 comes in: banyanlaw10.Turned.
-/
import Derived.Test.YtocdjaenhllemaaDoorUv
namespace Go.Proofs.YtocdjaenhllemaaDoor
set_option maxRecDepth 4000
set_option linter.unusedVariables false
open Go.ChangeShapes Go.WideShapes Go.ChangeAt Go.RowKit

def RTurned10 : World → Unit → List Value → Prop := fun W _ cs => ∃ (ka : Option Addr) (kc : Nat) (k : List Int) (u : UbV) (t : Int) (z : Int), cs = [Value.slice ka k.length kc] ++ (ubRow u ++ ([Value.int .u16 t] ++ ([Value.int .u8 z]))) ∧ (k.length ≤ kc ∧ kc ≤ 140737488351232 ∧ BS W (.slice ka k.length kc) k) ∧ (0 ≤ t ∧ t ≤ 65535) ∧ (0 ≤ z ∧ z ≤ 255)
theorem opn_turned10 : Opn 49 RTurned10 := by
  intro H enc W fuel cs y h hw
  obtain ⟨xs, k, _, hx, hlen, hxl, hfs⟩ := DataW.trod_struct Tryd.underlying49 h
  rw [show Tryd.prog.cellsOf 49 = 39 by kernel_rfl] at hlen
  have hxk : xs.length = 4 := hxl
  have hd := congrArg Prod.fst hx
  dsimp only at hd
  clear hx hxl
  match xs, hxk with
  | [y0, y1, y2, y3], _ =>
    have e0 : Tryd.prog.cellsOf 22 = 1 := by kernel_rfl
    have e1 : Tryd.prog.cellsOf 30 = 36 := by kernel_rfl
    have e2 : Tryd.prog.cellsOf 47 = 1 := by kernel_rfl
    have e3 : Tryd.prog.cellsOf 5 = 1 := by kernel_rfl
    have hw2 : ∀ n ∈ DataW.weightsEach Tryd.prog [22, 30, 47, 5] [y0.1, y1.1, y2.1, y3.1], n ≤ reachBytes := fun n hn => hw n (by rw [hd]; simp only [DataW.weights, Tryd.underlying49]; exact hn)
    have g0 : DataW.trod enc Tryd.prog W 0 (fun _ => true) true k 22 ((cs.drop 0).take 1) = some y0 := by have q := hfs 0 _ rfl; rw [← e0]; exact q
    have g1 : DataW.trod enc Tryd.prog W 0 (fun _ => true) true k 30 ((cs.drop 1).take 36) = some y1 := by have q := hfs 1 _ rfl; rw [← e1]; exact q
    have g2 : DataW.trod enc Tryd.prog W 0 (fun _ => true) true k 47 ((cs.drop 37).take 1) = some y2 := by have q := hfs 2 _ rfl; rw [← e2]; exact q
    have g3 : DataW.trod enc Tryd.prog W 0 (fun _ => true) true k 5 ((cs.drop 38).take 1) = some y3 := by have q := hfs 3 _ rfl; rw [← e3]; exact q
    obtain ⟨k, ka, kc, r0, m0, n0, b0⟩ := opn_bytes _ _ _ _ _ _ g0 (fun n hn => hw2 n (DataW.weights_mem_each (j := 0) rfl rfl n hn))
    obtain ⟨u, r1'⟩ := opn_ub _ _ _ _ _ _ g1 (fun n hn => hw2 n (DataW.weights_mem_each (j := 1) rfl rfl n hn))
    have r1 : (cs.drop 1).take 36 = ubRow u := r1'
    obtain ⟨t, r2, l2, h2⟩ := opn_int .u16 _ _ Tryd.underlying47 wf_u16 _ _ _ _ _ _ g2 (fun n hn => hw2 n (DataW.weights_mem_each (j := 2) rfl rfl n hn))
    obtain ⟨z, r3, l3, h3⟩ := opn_int .u8 _ _ Tryd.underlying5 wf_u8 _ _ _ _ _ _ g3 (fun n hn => hw2 n (DataW.weights_mem_each (j := 3) rfl rfl n hn))
    have hcs : cs = (cs.drop 0).take 1 ++ ((cs.drop 1).take 36 ++ ((cs.drop 37).take 1 ++ ((cs.drop 38).take 1))) := by
      conv => lhs; rw [← List.drop_zero (l := cs), lcut cs 0 1, lcut cs (0 + 1) 36, lcut cs (0 + 1 + 36) 1, lcut cs (0 + 1 + 36 + 1) 1]
      rw [List.drop_eq_nil_of_le (show cs.length ≤ 0 + 1 + 36 + 1 + 1 by omega), List.append_nil]
    rw [r0, r1, r2, r3] at hcs
    exact ⟨(), ka, kc, k, u, t, z, hcs, ⟨m0, n0, b0⟩, ⟨l2, h2⟩, ⟨l3, h3⟩⟩
def turned10Cells (ka : Option Addr) (kc : Nat) (k : List Int) (u : UbV) (t : Int) (z : Int) : List Value := [Value.slice ka k.length kc] ++ (ubRow u ++ ([Value.int .u16 t] ++ ([Value.int .u8 z])))
theorem par_turned10 {H : Type} {enc : TypeId × Value → H} {W : World} {base : Nat} {v : Value} {d : DataW H} {p : List MemPlace} {ts : List TypeId} {ds : List (DataW H)} {j : Nat} (_hok : Value.okWide Tryd.prog W .any base 49 v) (h : ∃ fuel, DataW.trod enc Tryd.prog W 0 (fun _ => true) true fuel 49 v.cells.toList = some (d, p))
    (hsz : (DataW.weightsEach Tryd.prog ts ds).all (· ≤ reachBytes) = true) (ht : ts[j]? = some 49) (hd : ds[j]? = some d) : ∃ (ka : Option Addr) (kc : Nat) (k : List Int) (u : UbV) (t : Int) (z : Int), v = .agg (turned10Cells ka kc k u t z).toArray ∧ (k.length ≤ kc ∧ kc ≤ 140737488351232 ∧ BS W (.slice ka k.length kc) k) ∧ (0 ≤ t ∧ t ≤ 65535) ∧ (0 ≤ z ∧ z ≤ 255) := by
  rcases opn_param opn_turned10 h hsz ht hd with ⟨_, ka, kc, k, u, t, z, e, q⟩
  have e : v.cells.toList = turned10Cells ka kc k u t z := e
  refine ⟨ka, kc, k, u, t, z, ?_, q⟩
  rw [agg_cells (v := v) (by rw [e]; simp [turned10Cells, ubRow_length])]
  congr 1
  rw [← e]
end Go.Proofs.YtocdjaenhllemaaDoor
