/-
  How a key and a value come in.
-/
import Derived.Test.YtkafabcklohlmaaIv
namespace Go.Proofs.Ytkafabcklohlmaa
set_option maxRecDepth 4000
set_option linter.unusedVariables false
open Go.ChangeShapes Go.WideShapes Go.ChangeAt Go.RowKit

def RKvD : World → Unit → List Value → Prop := fun _ _ cs => ∃ K V : ByteArray, cs = [.string K, .string V] ∧ K.size ≤ 140737488351232 ∧ V.size ≤ 140737488351232
theorem opn_kv15 : Opn 45 RKvD := by
  intro H enc W fuel cs y h hw
  obtain ⟨xs, k, _, hx, hlen, hxl, hfs⟩ := DataW.trod_struct Try.underlying45 h
  rw [show Try.prog.cellsOf 45 = 2 by kernel_rfl] at hlen
  have hxk : xs.length = 2 := hxl
  have hd := congrArg Prod.fst hx
  dsimp only at hd
  clear hx hxl
  match xs, hxk with
  | [y0, y1], _ =>
    have es : Try.prog.cellsOf 9 = 1 := by kernel_rfl
    have hw2 : ∀ n ∈ DataW.weightsEach Try.prog [9, 9] [y0.1, y1.1], n ≤ reachBytes := fun n hn => hw n (by rw [hd]; simp only [DataW.weights, Try.underlying45]; exact hn)
    have g0 : DataW.trod enc Try.prog W 0 (fun _ => true) true k 9 ((cs.drop 0).take 1) = some y0 := by have q := hfs 0 _ rfl; rw [← es]; exact q
    have g1 : DataW.trod enc Try.prog W 0 (fun _ => true) true k 9 ((cs.drop 1).take 1) = some y1 := by have q := hfs 1 _ rfl; rw [← es]; exact q
    obtain ⟨sa, r1, z1⟩ := opn_str Try.underlying9 _ _ _ _ _ _ g0 (fun n hn => hw2 n (DataW.weights_mem_each (j := 0) rfl rfl n hn))
    obtain ⟨sb, r2, z2⟩ := opn_str Try.underlying9 _ _ _ _ _ _ g1 (fun n hn => hw2 n (DataW.weights_mem_each (j := 1) rfl rfl n hn))
    have hcs : cs = (cs.drop 0).take 1 ++ (cs.drop 1).take 1 := by
      match cs, hlen with
      | [_, _], _ => rfl
    rw [r1, r2] at hcs
    exact ⟨(), sa, sb, hcs, z1, z2⟩
theorem par_kv15 {H : Type} {enc : TypeId × Value → H} {W : World} {base : Nat} {v : Value} {d : DataW H} {p : List MemPlace} {ts : List TypeId} {ds : List (DataW H)} {j : Nat} (_hok : Value.okWide Try.prog W .any base 45 v) (h : ∃ fuel, DataW.trod enc Try.prog W 0 (fun _ => true) true fuel 45 v.cells.toList = some (d, p))
    (hsz : (DataW.weightsEach Try.prog ts ds).all (· ≤ reachBytes) = true) (ht : ts[j]? = some 45) (hd : ds[j]? = some d) : ∃ K V : ByteArray, v = .agg #[.string K, .string V] ∧ K.size ≤ 140737488351232 ∧ V.size ≤ 140737488351232 := by
  rcases opn_param opn_kv15 h hsz ht hd with ⟨_, K, V, e, q⟩
  refine ⟨K, V, ?_, q⟩
  rw [agg_cells (v := v) (by rw [e]; simp)]
  congr 1
  rw [← e]
theorem quiet_ld_kv {ops : Array Oper} {w : World} {Q : Act → Prop} {a : Act} {o : Oper} {rest : List Oper} (hw : Region.wanted o (yielded ops a.tmps) = true) (x : Operand) (ho : o.op = .load 45 x)
    (b : Nat) (hx : a.eval x = .pointer (some ⟨b, 0, none⟩)) (K V : ByteArray) (hC : w.rangeAt b 0 [.string K, .string V])
    (h : wpQuiet Try.prog ops (fun w' => ∃ p : BelowBy w, w' = p.now) Q rest (a.put o.dst (.agg #[.string K, .string V]))) : wpQuiet Try.prog ops (fun w' => ∃ p : BelowBy w, w' = p.now) Q (o :: rest) a :=
  quiet_load_row hw 45 x ho b 0 hx [.string K, .string V] _ (by_range hC) Try.underlying45 rfl (size_kv K V) h
theorem putD_bound (s : SetV) (h : s.nm.size ≤ 4000) : (putD s).1.1.size ≤ 140737488351232 ∧ (putD s).1.2.size ≤ 140737488351232 := by
  unfold putD
  split
  · rename_i e
    have := (ok_parts e).1
    have := putV_size s
    exact ⟨by show s.nm.size ≤ _; omega, by show (putV s).size ≤ _; omega⟩
  · exact ⟨by decide, by decide⟩
end Go.Proofs.Ytkafabcklohlmaa
