import Derived.Test.YtgckapolpifbkaaGreatDoorWl
import Derived.Test.YtgckapolpifbkaaGreatDoorPt1
namespace Go.Proofs.YtgckapolpifbkaaGreatDoor
set_option maxRecDepth 4000
set_option linter.unusedVariables false
open Go.ChangeShapes Go.WideShapes Go.ChangeAt Go.RowKit
abbrev ENode := NodeV × Value × Value × Value
def nrow (e : ENode) : List Value := [.bool e.1.lf,e.2.1,e.2.2.1,e.2.2.2]
def rowsN (E : List ENode) : List Value := E.flatMap nrow
theorem rowR {w : World} {X t : Nat} {fr : Nat × Nat} {R : Array Value} (h : w.heap[X]? = some (.cells R t fr)) : w.rangeAt X 0 R.toList := by
 intro j v hv
 rw [Nat.zero_add,cell_of_row _ _ _ _ _ _ h,← Array.getElem?_toList]
 exact hv
theorem own_stay {B n k : Nat} {e : TypeId} {v : Value} {xs : List Value} {w w' : World} (h : w.ownsRow B e k v n xs) (q : ∀ g,v.ownBlock = some g → w'.heap[g]? = w.heap[g]?) : w'.ownsRow B e k v n xs := by
 refine ⟨h.1, ?_⟩
 rcases h.2 with hn | ⟨g,cap,cur,rfl,hb,hgg,rest⟩
 ·exact .inl hn
 ·exact .inr ⟨g,cap,cur,rfl,hb,(q g rfl).trans hgg,rest⟩
structure G2 (w0 W : World) (P D gl n : Nat) (ks : List (BitVec 8)) (F : Nat → Bool) (b : Nat) (V : List (BitVec 8)) (ws : List (Nat × List (BitVec 8))) (lim : Int) (dn : Bool) (L : List RowE) (v9 v10 : Value) (n9 n10 : Nat) (X : List PtrV) (E : List ENode) : Prop where
 q : ∃ M,QL w0 W P D gl n ks F b V ws lim dn L M ∧ (∀ g,v9.ownBlock = some g → g ∈ M) ∧ (∀ g,v10.ownBlock = some g → g ∈ M)
 a : W.ownsRow w0.heap.size 43 34 v9 n9 (rowsP X)
 i : W.ownsRow w0.heap.size 38 4 v10 n10 (rowsN E)
 nl : ∀ r ∈ L,v9.ownBlock ≠ some r.1 ∧ v10.ownBlock ≠ some r.1
section
variable {w0 W W' : World} {P D gl n b : Nat} {ks V : List (BitVec 8)} {F : Nat → Bool} {ws : List (Nat × List (BitVec 8))} {lim : Int} {dn : Bool} {L : List RowE} {v9 v10 : Value} {n9 n10 : Nat} {X : List PtrV} {E : List ENode}
theorem G2.bel (h : G2 w0 W P D gl n ks F b V ws lim dn L v9 v10 n9 n10 X E) : Below w0.heap.size w0 W := by
 obtain ⟨M,hq,_⟩ := h.q
 exact hq.bel
theorem G2.row (h : G2 w0 W P D gl n ks F b V ws lim dn L v9 v10 n9 n10 X E) (i : Nat) (r : RowE) (hr : L[i]? = some r) : W.heap[r.1]? = some (.cells r.2.1 r.2.2 (0,0)) := by
 obtain ⟨M,hq,_⟩ := h.q
 exact hq.row i r hr
theorem G2.apart (h : G2 w0 W P D gl n ks F b V ws lim dn L v9 v10 n9 n10 X E) : ∀ g,v9.ownBlock = some g → v10.ownBlock ≠ some g := by
 intro g h1 h2
 obtain ⟨c1,e1⟩ := own_type h.a h1
 obtain ⟨c2,e2⟩ := own_type h.i h2
 rw [e1] at e2
 injection e2 with e2
 injection e2 with _ e2
 exact absurd e2 (by decide)
theorem G2.below (h : G2 w0 W P D gl n ks F b V ws lim dn L v9 v10 n9 n10 X E) (q : Below W.heap.size W W') : G2 w0 W' P D gl n ks F b V ws lim dn L v9 v10 n9 n10 X E := by
 obtain ⟨M,hq,m9,m10⟩ := h.q
 exact ⟨⟨M,hq.below q,m9,m10⟩,own_belowP h.a q,own_belowP h.i q,h.nl⟩
theorem G2.fresh (h : G2 w0 W P D gl n ks F b V ws lim dn L v9 v10 n9 n10 X E) (o1 c1 : Array Value) (T1 : TypeId) : ∀ W',W' = (W.alloc (.cells o1 T1)).setRow W.heap.size c1 → G2 w0 W' P D gl n ks F b V ws lim dn ((W.heap.size,c1,T1) :: L) v9 v10 n9 n10 X E := fun W' hW => by
 obtain ⟨M,hq,m9,m10⟩ := h.q
 have hb := (fresh13 W o1 c1 T1 W' hW).2
 refine ⟨⟨M,hq.fresh o1 c1 T1 W' hW,m9,m10⟩,own_belowP h.a hb,own_belowP h.i hb,fun r hr => ?_⟩
 rcases List.mem_cons.1 hr with rfl | hr
 ·exact ⟨fun e => by have := (h.a.lt _ e).2; exact absurd this (Nat.lt_irrefl _),fun e => by have := (h.i.lt _ e).2; exact absurd this (Nat.lt_irrefl _)⟩
 ·exact h.nl r hr
theorem G2.less {L' : List RowE} (h : G2 w0 W P D gl n ks F b V ws lim dn L v9 v10 n9 n10 X E) (hL : ∀ r ∈ L',r ∈ L) : G2 w0 W P D gl n ks F b V ws lim dn L' v9 v10 n9 n10 X E := by
 obtain ⟨M,hq,m9,m10⟩ := h.q
 exact ⟨⟨M,hq.less hL (fun k hk => hk),m9,m10⟩,h.a,h.i,fun r hr => h.nl r (hL r hr)⟩
theorem G2.calls {fn : FuncId} {args : Array Value} {F' : Nat → Bool} {b' : Nat} {V' : List (BitVec 8)} {ws' : List (Nat × List (BitVec 8))} {lim' : Int} {dn' : Bool} {A : Ending → Prop} (h : G2 w0 W P D gl n ks F b V ws lim dn L v9 v10 n9 n10 X E)
 (c : ∀ M,QL w0 W P D gl n ks F b V ws lim dn L M → Calls Tryz.prog fn args W fun e w' => A e ∧ QL w0 w' P D gl n ks F' b' V' ws' lim' dn' L M ∧ Stay M W w') :
 Calls Tryz.prog fn args W fun e w' => A e ∧ G2 w0 w' P D gl n ks F' b' V' ws' lim' dn' L v9 v10 n9 n10 X E := by
 obtain ⟨M,hq,m9,m10⟩ := h.q
 refine (c M hq).mono ?_
 rintro e w' ⟨he,hq',hs⟩
 exact ⟨he,⟨M,hq',m9,m10⟩,own_stay h.a (fun g hg => hs g (m9 g hg)),own_stay h.i (fun g hg => hs g (m10 g hg)),h.nl⟩
end
theorem list_snoc {α : Type} (l : List α) (h : l ≠ []) : ∃ m x,l = m ++ [x] := ⟨l.dropLast,l.getLast h,(List.dropLast_concat_getLast h).symm⟩
theorem flush_length (n : Nat) (V : List (BitVec 8)) (hV : V.length = n * 512) : ∀ (k : Nat) (ws : List (Nat × List (BitVec 8))),ws.length = k → (∀ p ∈ ws,p.1 < n ∧ p.2.length = 512) → (flushM V ws).length = n * 512
 | 0,ws,hk,_ => by rw [List.eq_nil_of_length_eq_zero hk]; exact hV
 | k + 1,ws,hk,h => by
   obtain ⟨m,p,rfl⟩ := list_snoc ws (fun e => by rw [e] at hk; simp at hk)
   have ih := flush_length n V hV k m (by simpa using hk) (fun p hp => h p (List.mem_append_left _ hp))
   have hp := h p (by simp)
   rw [show flushM V (m ++ [p]) = putL (flushM V m) (p.1 * 512) p.2 by simp [flushM,List.foldl_append],putL_length _ _ _ (by rw [ih,hp.2]; omega)]
   exact ih
theorem flush_read (n a : Nat) (V : List (BitVec 8)) (hV : V.length = n * 512) : ∀ (k : Nat) (ws : List (Nat × List (BitVec 8))),ws.length = k → (∀ p ∈ ws,p.1 < n ∧ p.2.length = 512) → secY (flushM V ws) a = readM V ws a
 | 0,ws,hk,_ => by rw [List.eq_nil_of_length_eq_zero hk]; rfl
 | k + 1,ws,hk,h => by
   obtain ⟨m,p,rfl⟩ := list_snoc ws (fun e => by rw [e] at hk; simp at hk)
   have hm : ∀ p ∈ m,p.1 < n ∧ p.2.length = 512 := fun p hp => h p (List.mem_append_left _ hp)
   have ih := flush_read n a V hV k m (by simpa using hk) hm
   have hl := flush_length n V hV k m (by simpa using hk) hm
   have hp := h p (by simp)
   rw [show flushM V (m ++ [p]) = putL (flushM V m) (p.1 * 512) p.2 by simp [flushM,List.foldl_append],readM_more]
   by_cases e : p.1 = a
   ·rw [if_pos e,← e]
    exact secY_same _ _ _ n hl hp.1 hp.2
   ·rw [if_neg e,secY_other _ _ _ _ n hl hp.1 (Nat.le_of_eq hp.2) e]
    exact ih
theorem wpList_load_mid13 {P : Program} {ops : Array Oper} {rest : List Oper} {op : Oper} {a : Act} {w : World} {Q : Exit → Act → World → Prop} (hw : Region.wanted op (yielded ops a.tmps) = true) (ty : TypeId) (x : Operand) (ho : op.op = .load ty x)
 (b o : Nat) (hx : a.eval x = .pointer (some ⟨b,o,none⟩)) (cs : List Value) (d : TypeDesc) (hc : w.rangeAt b o cs)
 (hu : P.underlying ty = some d) (hd : d.isRow = true) (hi : (P.info? ty).map (·.size) = some cs.length)
 (h : wpList P ops Q rest (a.put op.dst (.agg cs.toArray)) w) : wpList P ops Q (op :: rest) a w :=
 wpList_step fun _ hK => by rw [if_pos hw]; exact wp_load_mid ty x ho b o hx cs d hc hu hd hi (hK _ _ h)
end Go.Proofs.YtgckapolpifbkaaGreatDoor
