/-
  Ubers: Put's answer, of both, as one function; two answers compared.
-/
import Derived.Test.YtocdjaenhllemaaDoorUa
import Derived.Test.YtocdjaenhllemaaDoorUr
import Derived.Test.YtocdjaenhllemaaDoorBy
namespace Go.Proofs.YtocdjaenhllemaaDoor
set_option maxRecDepth 4000
open Go.ChangeShapes Go.WideShapes Go.ChangeAt Go.RowKit

def putA10 (k : List Int) (u : UbV) : List Int × Int := if mayU u = true then (putU k u, 0) else ([], 4)
theorem uput_any (k : List Int) (v : Value) (u : UbV) (w : World) (hK : KT w) (hv : BS w v k) (hr : Room v) (hn : k.length ≤ 900000) :
    Calls Tryd.prog 10 #[v, .agg (ubRow u).toArray] w fun e w' => ∃ x, e = .returned (.tuple #[x, .int .i64 (putA10 k u).2]) ∧ BS w' x (putA10 k u).1 ∧ Below w.heap.size w w' := by
  unfold putA10
  by_cases h : mayU u = true
  · rw [if_pos h]
    exact (uput_ok k v u w hK hv hr (by omega) h).mono fun e w' ⟨a, c, he, _, _, hb, hw⟩ => ⟨_, he, hb, hw⟩
  · rw [if_neg h]
    exact (uput_bad v u w (by simpa using h)).mono fun e w' ⟨he, hw⟩ => ⟨_, he, bs_nil w', hw⟩
theorem ruput_any (k : List Int) (v : Value) (u : UbV) (w : World) (hv : BS w v k) (hr : Room v) (hn : k.length ≤ 900000) :
    Calls Tryd.prog 11 #[v, .agg (ubRow u).toArray] w fun e w' => ∃ x, e = .returned (.tuple #[x, .int .i64 (putA10 k u).2]) ∧ BS w' x (putA10 k u).1 ∧ Below w.heap.size w w' := by
  unfold putA10
  by_cases h : mayU u = true
  · rw [if_pos h]
    exact (ruput_ok k v u w hv hr hn h).mono fun e w' ⟨a, c, he, _, _, hb, hw⟩ => ⟨_, he, hb, hw⟩
  · rw [if_neg h]
    exact (ruput_bad v u w (by simpa using h)).mono fun e w' ⟨he, hw⟩ => ⟨_, he, bs_nil w', hw⟩
end Go.Proofs.YtocdjaenhllemaaDoor
