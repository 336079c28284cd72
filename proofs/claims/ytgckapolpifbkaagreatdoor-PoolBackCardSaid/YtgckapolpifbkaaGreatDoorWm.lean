import Derived.Test.YtgckapolpifbkaaGreatDoorWl
import Derived.Test.YtgckapolpifbkaaGreatDoorPt1
namespace Go.Proofs.YtgckapolpifbkaaGreatDoor
set_option maxRecDepth 4000
set_option linter.unusedVariables false
open Go.ChangeShapes Go.WideShapes Go.ChangeAt Go.RowKit
abbrev ENode := NodeV × Value × Value × Value
def nrow (e : ENode) : List Value := [.bool e.1.lf, e.2.1, e.2.2.1, e.2.2.2]
def rowsN (E : List ENode) : List Value := E.flatMap nrow
theorem rowsN_snoc (l : List ENode) (q : ENode) : rowsN (l ++ [q]) = rowsN l ++ nrow q := by simp [rowsN]
theorem rowsN_at (l : List ENode) (i : Nat) (q : ENode) (hi : l[i]? = some q) (j : Nat) (hj : j < 4) : (rowsN l)[i * 4 + j]? = (nrow q)[j]? := by
  have hlen : ∀ e : ENode, (nrow e).length = 4 := fun _ => rfl
  induction l generalizing i with
  | nil => simp at hi
  | cons p l ih =>
    show (nrow p ++ rowsN l)[i * 4 + j]? = _
    cases i with
    | zero =>
      simp at hi
      subst hi
      rw [List.getElem?_append_left (by rw [hlen]; omega)]
      congr 1
      omega
    | succ i =>
      rw [List.getElem?_append_right (by rw [hlen]; omega), hlen]
      rw [← ih i (by simpa using hi)]
      congr 1
      omega
theorem info_nodeN : (Tryz.prog.info? 38).map (fun i => (i.zero, i.size, i.bytes)) = some (some (.agg nzero), 4, 80) := by kernel_rfl
theorem lit_nodeN (R : Array Value) (hR : R.size = 4) (W : World) : (Instr.buildSlice 72 1 #[(0, .agg R)]).run Tryz.prog W = .ok (.slice (some ⟨W.heap.size, 0, none⟩) 1 1) (W.alloc (.cells R 38)) :=
  lit_one Tryz.underlying72 info_nodeN (by decide) (by decide) _ hR W
theorem rowR {w : World} {X t : Nat} {fr : Nat × Nat} {R : Array Value} (h : w.heap[X]? = some (.cells R t fr)) : w.rangeAt X 0 R.toList := by
  intro j v hv
  rw [Nat.zero_add, cell_of_row _ _ _ _ _ _ h, ← Array.getElem?_toList]
  exact hv
theorem own_stay {B n k : Nat} {e : TypeId} {v : Value} {xs : List Value} {w w' : World} (h : w.ownsRow B e k v n xs) (q : ∀ g, v.ownBlock = some g → w'.heap[g]? = w.heap[g]?) : w'.ownsRow B e k v n xs := by
  refine ⟨h.1, ?_⟩
  rcases h.2 with hn | ⟨g, cap, cur, rfl, hb, hgg, rest⟩
  · exact .inl hn
  · exact .inr ⟨g, cap, cur, rfl, hb, (q g rfl).trans hgg, rest⟩
structure G2 (w0 W : World) (P D gl n : Nat) (ks : List (BitVec 8)) (F : Nat → Bool) (b : Nat) (V : List (BitVec 8)) (ws : List (Nat × List (BitVec 8))) (lim : Int) (dn : Bool) (L : List RowE) (v9 v10 : Value) (n9 n10 : Nat) (X : List PtrV) (E : List ENode) : Prop where
  q : ∃ M, QL w0 W P D gl n ks F b V ws lim dn L M ∧ (∀ g, v9.ownBlock = some g → g ∈ M) ∧ (∀ g, v10.ownBlock = some g → g ∈ M)
  a : W.ownsRow w0.heap.size 43 34 v9 n9 (rowsP X)
  i : W.ownsRow w0.heap.size 38 4 v10 n10 (rowsN E)
  nl : ∀ r ∈ L, v9.ownBlock ≠ some r.1 ∧ v10.ownBlock ≠ some r.1
section
variable {w0 W W' : World} {P D gl n b : Nat} {ks V : List (BitVec 8)} {F : Nat → Bool} {ws : List (Nat × List (BitVec 8))} {lim : Int} {dn : Bool} {L : List RowE} {v9 v10 : Value} {n9 n10 : Nat} {X : List PtrV} {E : List ENode}
theorem G2.bel (h : G2 w0 W P D gl n ks F b V ws lim dn L v9 v10 n9 n10 X E) : Below w0.heap.size w0 W := by
  obtain ⟨M, hq, _⟩ := h.q
  exact hq.bel
theorem G2.row (h : G2 w0 W P D gl n ks F b V ws lim dn L v9 v10 n9 n10 X E) (i : Nat) (r : RowE) (hr : L[i]? = some r) : W.heap[r.1]? = some (.cells r.2.1 r.2.2 (0, 0)) := by
  obtain ⟨M, hq, _⟩ := h.q
  exact hq.row i r hr
theorem G2.apart (h : G2 w0 W P D gl n ks F b V ws lim dn L v9 v10 n9 n10 X E) : ∀ g, v9.ownBlock = some g → v10.ownBlock ≠ some g := by
  intro g h1 h2
  obtain ⟨c1, e1⟩ := own_type h.a h1
  obtain ⟨c2, e2⟩ := own_type h.i h2
  rw [e1] at e2
  injection e2 with e2
  injection e2 with _ e2
  exact absurd e2 (by decide)
theorem G2.below (h : G2 w0 W P D gl n ks F b V ws lim dn L v9 v10 n9 n10 X E) (q : Below W.heap.size W W') : G2 w0 W' P D gl n ks F b V ws lim dn L v9 v10 n9 n10 X E := by
  obtain ⟨M, hq, m9, m10⟩ := h.q
  exact ⟨⟨M, hq.below q, m9, m10⟩, own_belowP h.a q, own_belowP h.i q, h.nl⟩
theorem G2.fresh (h : G2 w0 W P D gl n ks F b V ws lim dn L v9 v10 n9 n10 X E) (o1 c1 : Array Value) (T1 : TypeId) : ∀ W', W' = (W.alloc (.cells o1 T1)).setRow W.heap.size c1 → G2 w0 W' P D gl n ks F b V ws lim dn ((W.heap.size, c1, T1) :: L) v9 v10 n9 n10 X E := fun W' hW => by
  obtain ⟨M, hq, m9, m10⟩ := h.q
  have hb := (fresh13 W o1 c1 T1 W' hW).2
  refine ⟨⟨M, hq.fresh o1 c1 T1 W' hW, m9, m10⟩, own_belowP h.a hb, own_belowP h.i hb, fun r hr => ?_⟩
  rcases List.mem_cons.1 hr with rfl | hr
  · exact ⟨fun e => by have := (h.a.lt _ e).2; exact absurd this (Nat.lt_irrefl _), fun e => by have := (h.i.lt _ e).2; exact absurd this (Nat.lt_irrefl _)⟩
  · exact h.nl r hr
theorem G2.less {L' : List RowE} (h : G2 w0 W P D gl n ks F b V ws lim dn L v9 v10 n9 n10 X E) (hL : ∀ r ∈ L', r ∈ L) : G2 w0 W P D gl n ks F b V ws lim dn L' v9 v10 n9 n10 X E := by
  obtain ⟨M, hq, m9, m10⟩ := h.q
  exact ⟨⟨M, hq.less hL (fun k hk => hk), m9, m10⟩, h.a, h.i, fun r hr => h.nl r (hL r hr)⟩
theorem G2.calls {fn : FuncId} {args : Array Value} {F' : Nat → Bool} {b' : Nat} {V' : List (BitVec 8)} {ws' : List (Nat × List (BitVec 8))} {lim' : Int} {dn' : Bool} {A : Ending → Prop} (h : G2 w0 W P D gl n ks F b V ws lim dn L v9 v10 n9 n10 X E)
    (c : ∀ M, QL w0 W P D gl n ks F b V ws lim dn L M → Calls Tryz.prog fn args W fun e w' => A e ∧ QL w0 w' P D gl n ks F' b' V' ws' lim' dn' L M ∧ Stay M W w') :
    Calls Tryz.prog fn args W fun e w' => A e ∧ G2 w0 w' P D gl n ks F' b' V' ws' lim' dn' L v9 v10 n9 n10 X E := by
  obtain ⟨M, hq, m9, m10⟩ := h.q
  refine (c M hq).mono ?_
  rintro e w' ⟨he, hq', hs⟩
  exact ⟨he, ⟨M, hq', m9, m10⟩, own_stay h.a (fun g hg => hs g (m9 g hg)), own_stay h.i (fun g hg => hs g (m10 g hg)), h.nl⟩
theorem G2.litA (h : G2 w0 W P D gl n ks F b V ws lim dn L v9 v10 n9 n10 X E) (p : PtrV) (R : Array Value) (hR : (ptrRow p).toArray = R) :
    ∃ W', (Instr.buildSlice 35 1 #[(0, .agg R)]).run Tryz.prog W = .ok (.slice (some ⟨W.heap.size, 0, none⟩) 1 1) W' ∧ G2 w0 W' P D gl n ks F b V ws lim dn L v9 v10 n9 n10 X E ∧ W'.heap[W.heap.size]? = some (.cells R 43 (0, 0)) ∧ Below W.heap.size W W' := by
  subst hR
  have hb := (Below.refl W.heap.size W).alloc (Nat.le_refl _) (.cells (ptrRow p).toArray 43)
  exact ⟨_, lit_ptr p W, h.below hb, heap_alloc_new W _, hb⟩
theorem G2.litB (h : G2 w0 W P D gl n ks F b V ws lim dn L v9 v10 n9 n10 X E) (e : ENode) :
    ∃ W', (Instr.buildSlice 72 1 #[(0, .agg (nrow e).toArray)]).run Tryz.prog W = .ok (.slice (some ⟨W.heap.size, 0, none⟩) 1 1) W' ∧ G2 w0 W' P D gl n ks F b V ws lim dn L v9 v10 n9 n10 X E ∧ W'.heap[W.heap.size]? = some (.cells (nrow e).toArray 38 (0, 0)) ∧ Below W.heap.size W W' := by
  have hb := (Below.refl W.heap.size W).alloc (Nat.le_refl _) (.cells (nrow e).toArray 38)
  exact ⟨_, lit_nodeN _ rfl W, h.below hb, heap_alloc_new W _, hb⟩
theorem G2.appA (h : G2 w0 W P D gl n ks F b V ws lim dn L v9 v10 n9 n10 X E) (y : Nat) (p : PtrV) (R : Array Value) (hR : (ptrRow p).toArray = R) (hy : W.heap[y]? = some (.cells R 43 (0, 0))) (h9 : n9 ≤ 1000000) :
    ∃ a c W', (Builtin.append_ #[35, 35] 35 #[v9, .slice (some ⟨y, 0, none⟩) 1 1]).run Tryz.prog W = .ok (.slice a (n9 + 1) c) W' ∧ G2 w0 W' P D gl n ks F b V ws lim dn L (.slice a (n9 + 1) c) v10 (n9 + 1) n10 (X ++ [p]) E ∧
      ∀ (y' : Nat) (cs : Array Value), W.heap[y']? = some (Obj.cells cs 38 (0, 0)) → W'.heap[y']? = some (Obj.cells cs 38 (0, 0)) := by
  subst hR
  obtain ⟨M, hq, m9, m10⟩ := h.q
  obtain ⟨a, c, W', hr, ho, hg, hnb⟩ := append_one (P := Tryz.prog) Tryz.underlying35 info_ptr (by simp [ptrRow_length]) (by decide) h.a y (ptrRow p) hy (ptrRow_length p) (fun u hu => Array.all_eq_true_iff_forall_mem.1 (ptrRow_one p) u (by simpa using hu)) h9 (by decide) hq.bel.size
  have ht := Touch.grown hg
  obtain ⟨M', hq', hs, hn⟩ := hq.grown13 ht (fun g e => ⟨m9 g e, (h.a.lt g e).1⟩) (fun r hr => (h.nl r hr).1) (o' := (Value.slice a (n9 + 1) c).ownBlock) (hnb.imp id (fun e => ⟨_, e, Nat.le_refl _, (ho.lt _ e).2⟩))
  refine ⟨a, c, W', hr, ⟨⟨M', hq', hn, fun g e => hs g (m10 g e)⟩, by rw [rowsP_snoc]; exact ho, own_touch h.i ht (fun g e e' => ?_), fun r hm => ⟨fun e => ?_, (h.nl r hm).2⟩⟩, fun y' cs hy' => (ht.block y' (lt_of_block hy') (fun e => ?_)).trans hy'⟩
  · exact h.apart g (by simpa using e') e
  · rcases hnb with e2 | e2
    · exact (h.nl r hm).1 (e2.symm.trans e)
    · rw [e] at e2
      have := lt_of_block (hq.rows r hm).1
      injection e2 with e2
      omega
  · obtain ⟨c1, e1⟩ := own_type h.a (show v9.ownBlock = some y' by simpa using e)
    rw [e1] at hy'
    injection hy' with hy'
    injection hy' with _ e2
    exact absurd e2 (by decide)
theorem G2.appB (h : G2 w0 W P D gl n ks F b V ws lim dn L v9 v10 n9 n10 X E) (y : Nat) (e0 : ENode) (hone : (nrow e0).toArray.all (·.oneCell') = true) (hy : W.heap[y]? = some (.cells (nrow e0).toArray 38 (0, 0))) (h9 : n10 ≤ 1000000) :
    ∃ a c W', (Builtin.append_ #[72, 72] 72 #[v10, .slice (some ⟨y, 0, none⟩) 1 1]).run Tryz.prog W = .ok (.slice a (n10 + 1) c) W' ∧ G2 w0 W' P D gl n ks F b V ws lim dn L v9 (.slice a (n10 + 1) c) n9 (n10 + 1) X (E ++ [e0]) ∧
      ∀ (y' : Nat) (cs : Array Value), W.heap[y']? = some (Obj.cells cs 43 (0, 0)) → W'.heap[y']? = some (Obj.cells cs 43 (0, 0)) := by
  obtain ⟨M, hq, m9, m10⟩ := h.q
  obtain ⟨a, c, W', hr, ho, hg, hnb⟩ := append_one (P := Tryz.prog) Tryz.underlying72 info_nodeN rfl (by decide) h.i y (nrow e0) hy rfl (fun u hu => Array.all_eq_true_iff_forall_mem.1 hone u (by simpa using hu)) h9 (by decide) hq.bel.size
  have ht := Touch.grown hg
  obtain ⟨M', hq', hs, hn⟩ := hq.grown13 ht (fun g e => ⟨m10 g e, (h.i.lt g e).1⟩) (fun r hr => (h.nl r hr).2) (o' := (Value.slice a (n10 + 1) c).ownBlock) (hnb.imp id (fun e => ⟨_, e, Nat.le_refl _, (ho.lt _ e).2⟩))
  refine ⟨a, c, W', hr, ⟨⟨M', hq', fun g e => hs g (m9 g e), hn⟩, own_touch h.a ht (fun g e e' => ?_), by rw [rowsN_snoc]; exact ho, fun r hm => ⟨(h.nl r hm).1, fun e => ?_⟩⟩, fun y' cs hy' => (ht.block y' (lt_of_block hy') (fun e => ?_)).trans hy'⟩
  · exact h.apart g e (by simpa using e')
  · rcases hnb with e2 | e2
    · exact (h.nl r hm).2 (e2.symm.trans e)
    · rw [e] at e2
      have := lt_of_block (hq.rows r hm).1
      injection e2 with e2
      omega
  · obtain ⟨c1, e1⟩ := own_type h.i (show v10.ownBlock = some y' by simpa using e)
    rw [e1] at hy'
    injection hy' with hy'
    injection hy' with _ e2
    exact absurd e2 (by decide)
theorem G2.atA (h : G2 w0 W P D gl n ks F b V ws lim dn L v9 v10 n9 n10 X E) (i : Nat) (p : PtrV) (hi : X[i]? = some p) (hn : i < n9) : ∃ g c, v9 = .slice (some ⟨g, 0, none⟩) n9 c ∧ W.rangeAt g (0 + i * 34) (ptrRow p) := by
  rcases h.a.2 with ⟨_, h0⟩ | ⟨g, c, _, hv, _⟩
  · omega
  · refine ⟨g, c, hv, fun j v hj => ?_⟩
    have hl : j < 34 := by have := (List.getElem?_eq_some_iff.1 hj).1; rwa [ptrRow_length] at this
    have hc := h.a.cells (g := g) (by rw [hv]; rfl) (i * 34 + j) v (by rw [rowsP_at X i p hi j hl]; exact hj)
    rw [Addr.add_mid] at hc
    rw [show 0 + i * 34 + j = 0 + (i * 34 + j) by omega]
    exact hc
theorem G2.atB (h : G2 w0 W P D gl n ks F b V ws lim dn L v9 v10 n9 n10 X E) (i : Nat) (e : ENode) (hi : E[i]? = some e) (hn : i < n10) : ∃ g c, v10 = .slice (some ⟨g, 0, none⟩) n10 c ∧ W.rangeAt g (0 + i * 4) (nrow e) := by
  rcases h.i.2 with ⟨_, h0⟩ | ⟨g, c, _, hv, _⟩
  · omega
  · refine ⟨g, c, hv, fun j v hj => ?_⟩
    have hl : j < 4 := (List.getElem?_eq_some_iff.1 hj).1
    have hc := h.i.cells (g := g) (by rw [hv]; rfl) (i * 4 + j) v (by rw [rowsN_at E i e hi j hl]; exact hj)
    rw [Addr.add_mid] at hc
    rw [show 0 + i * 4 + j = 0 + (i * 4 + j) by omega]
    exact hc
end
def wsE (b : Nat) (E : List ENode) : List (Nat × List (BitVec 8)) := E.mapIdx fun j e => (2 + j, sealQ keyE b (2 + j) e.1)
def ptrsE (b : Nat) (E : List ENode) : List PtrV := E.mapIdx fun j e => ptrQ keyE b (2 + j) e.1
theorem wsE_snoc (b : Nat) (E : List ENode) (e : ENode) : wsE b (E ++ [e]) = wsE b E ++ [(2 + E.length, sealQ keyE b (2 + E.length) e.1)] := List.mapIdx_concat
theorem ptrsE_snoc (b : Nat) (E : List ENode) (e : ENode) : ptrsE b (E ++ [e]) = ptrsE b E ++ [ptrQ keyE b (2 + E.length) e.1] := List.mapIdx_concat
theorem wsE_length (b : Nat) (E : List ENode) : (wsE b E).length = E.length := List.length_mapIdx
theorem ptrsE_at (b : Nat) (E : List ENode) (i : Nat) (e : ENode) (h : E[i]? = some e) : (ptrsE b E)[i]? = some (ptrQ keyE b (2 + i) e.1) := by
  unfold ptrsE
  rw [List.getElem?_mapIdx, h]; rfl
theorem list_snoc {α : Type} (l : List α) (h : l ≠ []) : ∃ m x, l = m ++ [x] := ⟨l.dropLast, l.getLast h, (List.dropLast_concat_getLast h).symm⟩
theorem flush_length (n : Nat) (V : List (BitVec 8)) (hV : V.length = n * 512) : ∀ (k : Nat) (ws : List (Nat × List (BitVec 8))), ws.length = k → (∀ p ∈ ws, p.1 < n ∧ p.2.length = 512) → (flushM V ws).length = n * 512
  | 0, ws, hk, _ => by rw [List.eq_nil_of_length_eq_zero hk]; exact hV
  | k + 1, ws, hk, h => by
    obtain ⟨m, p, rfl⟩ := list_snoc ws (fun e => by rw [e] at hk; simp at hk)
    have ih := flush_length n V hV k m (by simpa using hk) (fun p hp => h p (List.mem_append_left _ hp))
    have hp := h p (by simp)
    rw [show flushM V (m ++ [p]) = putL (flushM V m) (p.1 * 512) p.2 by simp [flushM, List.foldl_append], putL_length _ _ _ (by rw [ih, hp.2]; omega)]
    exact ih
theorem flush_read (n a : Nat) (V : List (BitVec 8)) (hV : V.length = n * 512) : ∀ (k : Nat) (ws : List (Nat × List (BitVec 8))), ws.length = k → (∀ p ∈ ws, p.1 < n ∧ p.2.length = 512) → secY (flushM V ws) a = readM V ws a
  | 0, ws, hk, _ => by rw [List.eq_nil_of_length_eq_zero hk]; rfl
  | k + 1, ws, hk, h => by
    obtain ⟨m, p, rfl⟩ := list_snoc ws (fun e => by rw [e] at hk; simp at hk)
    have hm : ∀ p ∈ m, p.1 < n ∧ p.2.length = 512 := fun p hp => h p (List.mem_append_left _ hp)
    have ih := flush_read n a V hV k m (by simpa using hk) hm
    have hl := flush_length n V hV k m (by simpa using hk) hm
    have hp := h p (by simp)
    rw [show flushM V (m ++ [p]) = putL (flushM V m) (p.1 * 512) p.2 by simp [flushM, List.foldl_append], readM_more]
    by_cases e : p.1 = a
    · rw [if_pos e, ← e]
      exact secY_same _ _ _ n hl hp.1 hp.2
    · rw [if_neg e, secY_other _ _ _ _ n hl hp.1 (Nat.le_of_eq hp.2) e]
      exact ih
theorem readM_E (b : Nat) (V : List (BitVec 8)) : ∀ (k : Nat) (E : List ENode), E.length = k → ∀ i e, E[i]? = some e → readM V (wsE b E) (2 + i) = sealQ keyE b (2 + i) e.1
  | 0, E, hk, i, e, h => by rw [List.eq_nil_of_length_eq_zero hk] at h; simp at h
  | k + 1, E, hk, i, e, h => by
    obtain ⟨m, p, rfl⟩ := list_snoc E (fun e => by rw [e] at hk; simp at hk)
    have hm : m.length = k := by simpa using hk
    rw [wsE_snoc, readM_more]
    by_cases hi : i = m.length
    · subst hi
      rw [if_pos rfl]
      have : p = e := by simpa using h
      rw [this]
    · have hlt : i < (m ++ [p]).length := (List.getElem?_eq_some_iff.1 h).1
      rw [if_neg (by show ¬ 2 + m.length = 2 + i; omega)]
      exact readM_E b V k m hm i e (by rwa [List.getElem?_append_left (by simp at hlt; omega)] at h)
theorem readQ_E (b : Nat) (E : List ENode) (hE : E.length ≤ 30) (hc : ∀ e ∈ E, checkN e.1 = 0) (hb : b < 18446744073709551616) (hb0 : b ≠ 0) (i : Nat) (e : ENode) (h : E[i]? = some e) :
    readQ keyE 32 (ptrQ keyE b (2 + i) e.1) (flushM (zeroY (32 * 512)) (wsE b E)) [] false = (e.1, 0) := by
  have hi := (List.getElem?_eq_some_iff.1 h).1
  have hw : ∀ p ∈ wsE b E, p.1 < 32 ∧ p.2.length = 512 := by
    intro p hp
    unfold wsE at hp
    obtain ⟨j, hj, rfl⟩ := List.mem_mapIdx.1 hp
    exact ⟨by show 2 + j < 32; omega, sealQ_length (hc _ (List.getElem_mem hj))⟩
  refine readQ_wrote (kk := keyE) (b := b) (a := 2 + i) (n := 32) (nd := e.1) (hc e (List.mem_of_getElem? h)) (by omega) (by omega) (by omega) hb hb0 ?_
  show secY (flushM (zeroY (32 * 512)) (wsE b E)) (2 + i) = _
  rw [flush_read 32 (2 + i) _ (by rw [zeroY, List.length_replicate]) _ _ rfl hw]
  exact readM_E b _ _ E rfl i e h
theorem nodes_at2 {w w' : World} {x : List NodeV} {a : Option Addr} {n c i : Nat} (h : SlR RNode 4 w x a n c) (hb : Below w.heap.size w w') (hi : i < n) :
    ∃ b off q k v p, a = some ⟨b, off, none⟩ ∧ x[i]? = some q ∧ w'.rangeAt b (off + i * 4) [.bool q.lf, k, v, p] ∧ NR w k v p q ∧ NB q := by
  have hl : i < x.length := by rw [h.len]; exact hi
  obtain ⟨b, off, cs, h1, h2, _, h5⟩ := h.here i hl
  obtain ⟨k, v, p, rfl, hn, hnb⟩ := h2
  exact ⟨b, off, x[i], k, v, p, h1, List.getElem?_eq_getElem hl, fun j v hj => (hb.cell (block_lt_of_cell (h5 j v hj))).trans (h5 j v hj), hn, hnb⟩
theorem build_two (P P2 : Nat) (W : World) : (Instr.build 77 #[(0, .pointer (some ⟨P, 0, none⟩)), (1, .pointer (some ⟨P2, 0, none⟩))]).run Tryz.prog W = .ok (.agg #[.pointer (some ⟨P, 0, none⟩), .pointer (some ⟨P2, 0, none⟩)]) W := by kernel_rfl
theorem pool_one : (Tryz.prog.info? 24).map (·.size) = some 1 := by kernel_rfl
theorem index_two0 (u v : Value) (W : World) : (Instr.index 77 (.agg #[u, v]) (.int .i64 0)).run Tryz.prog W = .ok u W := by
  obtain ⟨i0, hi, hs⟩ := Option.map_eq_some_iff.1 pool_one
  exact yindex_agg 77 24 2 #[u, v] 0 u i0 _ Tryz.underlying77 Tryz.underlying24 rfl hi hs (by decide) rfl W
theorem index_two1 (u v : Value) (W : World) : (Instr.index 77 (.agg #[u, v]) (.int .i64 1)).run Tryz.prog W = .ok v W := by
  obtain ⟨i0, hi, hs⟩ := Option.map_eq_some_iff.1 pool_one
  exact yindex_agg 77 24 2 #[u, v] 1 v i0 _ Tryz.underlying77 Tryz.underlying24 rfl hi hs (by decide) rfl W
end Go.Proofs.YtgckapolpifbkaaGreatDoor
