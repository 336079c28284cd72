/-
  How a struct of a law of layer 10 comes in: banyanlaw10.Newer.
-/
import Derived.Test.YtocdjaenhllemaaDoorUv
namespace Go.Proofs.YtocdjaenhllemaaDoor
set_option maxRecDepth 4000
set_option linter.unusedVariables false
open Go.ChangeShapes Go.WideShapes Go.ChangeAt Go.RowKit

def RNewer10 : World → Unit → List Value → Prop := fun W _ cs => ∃ (ka : Option Addr) (kc : Nat) (k : List Int) (s : Int) (t : Int) (ra : Option Addr) (rc : Nat) (r : List Int), cs = [Value.slice ka k.length kc] ++ ([Value.int .u64 s] ++ ([Value.int .u64 t] ++ ([Value.slice ra r.length rc]))) ∧ (k.length ≤ kc ∧ kc ≤ 140737488351232 ∧ BS W (.slice ka k.length kc) k) ∧ (0 ≤ s ∧ s ≤ 18446744073709551615) ∧ (0 ≤ t ∧ t ≤ 18446744073709551615) ∧ (r.length ≤ rc ∧ rc ≤ 140737488351232 ∧ BS W (.slice ra r.length rc) r)
theorem opn_newer10 : Opn 53 RNewer10 := by
  intro H enc W fuel cs y h hw
  obtain ⟨xs, k, _, hx, hlen, hxl, hfs⟩ := DataW.trod_struct Tryd.underlying53 h
  rw [show Tryd.prog.cellsOf 53 = 4 by kernel_rfl] at hlen
  have hxk : xs.length = 4 := hxl
  have hd := congrArg Prod.fst hx
  dsimp only at hd
  clear hx hxl
  match xs, hxk with
  | [y0, y1, y2, y3], _ =>
    have e0 : Tryd.prog.cellsOf 22 = 1 := by kernel_rfl
    have e1 : Tryd.prog.cellsOf 23 = 1 := by kernel_rfl
    have hw2 : ∀ n ∈ DataW.weightsEach Tryd.prog [22, 23, 23, 22] [y0.1, y1.1, y2.1, y3.1], n ≤ reachBytes := fun n hn => hw n (by rw [hd]; simp only [DataW.weights, Tryd.underlying53]; exact hn)
    have g0 : DataW.trod enc Tryd.prog W 0 (fun _ => true) true k 22 ((cs.drop 0).take 1) = some y0 := by have q := hfs 0 _ rfl; rw [← e0]; exact q
    have g1 : DataW.trod enc Tryd.prog W 0 (fun _ => true) true k 23 ((cs.drop 1).take 1) = some y1 := by have q := hfs 1 _ rfl; rw [← e1]; exact q
    have g2 : DataW.trod enc Tryd.prog W 0 (fun _ => true) true k 23 ((cs.drop 2).take 1) = some y2 := by have q := hfs 2 _ rfl; rw [← e1]; exact q
    have g3 : DataW.trod enc Tryd.prog W 0 (fun _ => true) true k 22 ((cs.drop 3).take 1) = some y3 := by have q := hfs 3 _ rfl; rw [← e0]; exact q
    obtain ⟨k, ka, kc, r0, m0, n0, b0⟩ := opn_bytes _ _ _ _ _ _ g0 (fun n hn => hw2 n (DataW.weights_mem_each (j := 0) rfl rfl n hn))
    obtain ⟨s, r1, l1, h1⟩ := opn_int .u64 _ _ Tryd.underlying23 wf_u64 _ _ _ _ _ _ g1 (fun n hn => hw2 n (DataW.weights_mem_each (j := 1) rfl rfl n hn))
    obtain ⟨t, r2, l2, h2⟩ := opn_int .u64 _ _ Tryd.underlying23 wf_u64 _ _ _ _ _ _ g2 (fun n hn => hw2 n (DataW.weights_mem_each (j := 2) rfl rfl n hn))
    obtain ⟨r, ra, rc, r3, m3, n3, b3⟩ := opn_bytes _ _ _ _ _ _ g3 (fun n hn => hw2 n (DataW.weights_mem_each (j := 3) rfl rfl n hn))
    have hcs : cs = (cs.drop 0).take 1 ++ ((cs.drop 1).take 1 ++ ((cs.drop 2).take 1 ++ ((cs.drop 3).take 1))) := by
      conv => lhs; rw [← List.drop_zero (l := cs), lcut cs 0 1, lcut cs (0 + 1) 1, lcut cs (0 + 1 + 1) 1, lcut cs (0 + 1 + 1 + 1) 1]
      rw [List.drop_eq_nil_of_le (show cs.length ≤ 0 + 1 + 1 + 1 + 1 by omega), List.append_nil]
    rw [r0, r1, r2, r3] at hcs
    exact ⟨(), ka, kc, k, s, t, ra, rc, r, hcs, ⟨m0, n0, b0⟩, ⟨l1, h1⟩, ⟨l2, h2⟩, ⟨m3, n3, b3⟩⟩
def newer10Cells (ka : Option Addr) (kc : Nat) (k : List Int) (s : Int) (t : Int) (ra : Option Addr) (rc : Nat) (r : List Int) : List Value := [Value.slice ka k.length kc] ++ ([Value.int .u64 s] ++ ([Value.int .u64 t] ++ ([Value.slice ra r.length rc])))
theorem par_newer10 {H : Type} {enc : TypeId × Value → H} {W : World} {base : Nat} {v : Value} {d : DataW H} {p : List MemPlace} {ts : List TypeId} {ds : List (DataW H)} {j : Nat} (_hok : Value.okWide Tryd.prog W .any base 53 v) (h : ∃ fuel, DataW.trod enc Tryd.prog W 0 (fun _ => true) true fuel 53 v.cells.toList = some (d, p))
    (hsz : (DataW.weightsEach Tryd.prog ts ds).all (· ≤ reachBytes) = true) (ht : ts[j]? = some 53) (hd : ds[j]? = some d) : ∃ (ka : Option Addr) (kc : Nat) (k : List Int) (s : Int) (t : Int) (ra : Option Addr) (rc : Nat) (r : List Int), v = .agg (newer10Cells ka kc k s t ra rc r).toArray ∧ (k.length ≤ kc ∧ kc ≤ 140737488351232 ∧ BS W (.slice ka k.length kc) k) ∧ (0 ≤ s ∧ s ≤ 18446744073709551615) ∧ (0 ≤ t ∧ t ≤ 18446744073709551615) ∧ (r.length ≤ rc ∧ rc ≤ 140737488351232 ∧ BS W (.slice ra r.length rc) r) := by
  rcases opn_param opn_newer10 h hsz ht hd with ⟨_, ka, kc, k, s, t, ra, rc, r, e, q⟩
  have e : v.cells.toList = newer10Cells ka kc k s t ra rc r := e
  refine ⟨ka, kc, k, s, t, ra, rc, r, ?_, q⟩
  rw [agg_cells (v := v) (by rw [e]; simp [newer10Cells])]
  congr 1
  rw [← e]
end Go.Proofs.YtocdjaenhllemaaDoor
