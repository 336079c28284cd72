/-
  The code: Rounds: a key's round keys.
-/
import Derived.Test.YtbnclmlbennhaaaYKeys
namespace Go.Proofs.Ytbnclmlbennhaaa
set_option maxRecDepth 4000
open Go.RowKit

theorem ystep_copy {P : Program} {ops : Array Oper} {o : Oper} {a : Act} {w : World} {K : Act → World → Prop} {Q : Exit → Act → World → Prop} {E : Prop} (hgd : o.guard = none) (d s : Operand) (dT sT : TypeId)
    (ho : o.op = .call { callee := .builtin .copy, args := #[d, s], argTypes := #[dT, sT] }) (elem : TypeId) (hu : P.underlying dT = some (.slice elem)) (hsz : (P.info? elem).map (·.size) = some 1)
    (g off dLen dCap : Nat) (ad : Addr) (sLen sCap : Nat) (hd : a.eval d = .slice (some ⟨g, off, none⟩) dLen dCap) (hs : a.eval s = .slice (some ad) sLen sCap)
    (cur : List Value) (t : TypeId) (hg : w.heap[g]? = some (.cells cur.toArray t (0, 0))) (cs : List Value) (hn : cs.length = Nat.min sLen dLen)
    (hsrc : ∀ j v, cs[j]? = some v → w.cell? (ad.add j) = some v) (hfit : off + cs.length ≤ cur.length) (h1 : ∀ v ∈ cs, v.oneCell' = true)
    (h : K (a.put o.dst (goInt cs.length)) (w.setRow g (List.take off cur ++ (cs ++ List.drop (off + cs.length) cur)).toArray)) :
    if Region.wanted o (yielded ops a.tmps) = true then Oper.wp P o a w K Q else E := by
  have hw : Region.wanted o (yielded ops a.tmps) = true := by simp [Region.wanted, hgd]
  rw [if_pos hw]
  have hrun := run_copy_row (P := P) w dT sT o.type elem g off dLen dCap ad sLen sCap cur.toArray t cs hu hsz hg hn hsrc (by simpa using hfit) h1
  unfold Oper.wp
  simp [execOp, ho, resolve, invoke, builtin, hd, hs, hrun, Result.andThen]
  exact h
theorem put4_putL (M : List (BitVec 8)) (o : Nat) (a b c d : BitVec 8) (h : o + 4 ≤ M.length) : put4 M o a b c d = putL M o [a, b, c, d] := by
  unfold put4
  rw [← putL_cons _ _ _ _ (by omega), ← putL_cons _ _ _ _ (by simp; omega), ← putL_cons _ _ _ _ (by simp; omega), ← putL_cons _ _ _ _ (by simp; omega)]
  simp [putL]
theorem yvs_putL (M : List (BitVec 8)) (o : Nat) (ys : List (BitVec 8)) : (List.take o (yvs M).toList ++ ((yvs ys).toList ++ List.drop (o + (yvs ys).toList.length) (yvs M).toList)).toArray = yvs (putL M o ys) := by
  simp [yvs, putL, List.map_take, List.map_drop]
theorem ygen_fresh {P : Program} {c : Code} {Q : Exit → Act → World → Prop} {a : Act} {w : World} {old cs : Array Value} {T : TypeId} {B : Obj}
    (h : ∀ W : World, W.heap[w.heap.size]? = some (.cells cs T (0, 0)) ∧ W.heap[w.heap.size + 1]? = some B ∧ W.heap.size = w.heap.size + 2 ∧ Below w.heap.size w W → c.wp P Q a W) :
    c.wp P Q a (((w.alloc (.cells old T)).setRow w.heap.size cs).alloc B) := by
  have e1 := setRow_heap (w.alloc (.cells old T)) w.heap.size _ cs _ _ (heap_alloc_new w _)
  refine h _ ⟨?_, ?_, by simp, (ybelow_row ((Below.refl w.heap.size w).alloc (Nat.le_refl _) _) (Nat.le_refl _) cs).alloc (by simp) _⟩
  · rw [Below.heap_alloc _ _ _ (by simp)]; exact e1
  · have := heap_alloc_new ((w.alloc (.cells old T)).setRow w.heap.size cs) B
    simpa using this

end Go.Proofs.Ytbnclmlbennhaaa
