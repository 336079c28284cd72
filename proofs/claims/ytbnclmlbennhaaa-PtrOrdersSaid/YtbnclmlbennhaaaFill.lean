/-
  Aggregates that are built of parts; slices of one element; a row of structs of one's own, one more.
-/
import Derived.Test.YtbnclmlbennhaaaTch
import Derived.Great.BuildSlice
import Derived.BigRegion
namespace Go.Proofs.Ytbnclmlbennhaaa
set_option maxRecDepth 4000
open Go.RowKit

theorem fold_at (off : Nat) : ∀ (xs : List Value) (s : Nat) (C : Array Value) (i : Nat),
    ((xs.zipIdx s).foldl (fun cs (p : Value × Nat) => cs.setIfInBounds (off + p.2) p.1) C)[i]? = if i < C.size ∧ off + s ≤ i ∧ i < off + s + xs.length then xs[i - (off + s)]? else C[i]?
  | [], s, C, i => by simp; omega
  | x :: xs, s, C, i => by
    rw [List.zipIdx_cons, List.foldl_cons, fold_at off xs (s + 1) _ i]
    simp only [Array.size_setIfInBounds, List.length_cons, Array.getElem?_setIfInBounds]
    by_cases h1 : i < C.size
    · by_cases h2 : i = off + s
      · subst h2
        simp [h1]; omega
      · by_cases h3 : off + s ≤ i ∧ i < off + s + (xs.length + 1)
        · rw [if_pos (by omega), if_pos (by omega), show i - (off + s) = i - (off + (s + 1)) + 1 by omega, List.getElem?_cons_succ]
        · rw [if_neg (by omega), if_neg (by omega), if_neg (by omega)]
    · simp only [h1, false_and, if_false]
      split
      · rename_i e
        rw [if_neg (by omega), Array.getElem?_eq_none (by omega)]
      · rfl
theorem fold_all (v C : Array Value) (off : Nat) (h : off + v.size ≤ C.size) (D : Array Value) (hD : ∀ i, D[i]? = if off ≤ i ∧ i < off + v.size then v[i - off]? else C[i]?) :
    v.zipIdx.foldl (fun cs (p : Value × Nat) => cs.setIfInBounds (off + p.2) p.1) C = D := by
  apply Array.ext_getElem?
  intro i
  have e : v.zipIdx.foldl (fun cs (p : Value × Nat) => cs.setIfInBounds (off + p.2) p.1) C = (v.toList.zipIdx 0).foldl (fun cs (p : Value × Nat) => cs.setIfInBounds (off + p.2) p.1) C := by
    rw [← Array.foldl_toList]; simp
  rw [e, fold_at, hD]
  simp only [Nat.add_zero, Array.length_toList, Array.getElem?_toList]
  by_cases h1 : off ≤ i ∧ i < off + v.size
  · rw [if_pos (by omega), if_pos h1]
  · rw [if_neg (by omega), if_neg h1]
theorem fill_cons (place : Nat → Option (Nat × Nat)) (C D v : Array Value) (x : Value) (i off size : Nat) (rest : List (Nat × Value)) (hx : x.cells = v) (hp : place i = some (off, size)) (hs : v.size = size) (h : off + v.size ≤ C.size) (hD : ∀ i, D[i]? = if off ≤ i ∧ i < off + v.size then v[i - off]? else C[i]?) :
    Instr.fill place C ((i, x) :: rest) = Instr.fill place D rest := by
  subst hx
  rw [Instr.fill, hp]
  dsimp only
  rw [if_neg (by simp [hs]; omega)]
  rw [fold_all _ C off h D hD]
/-- A row of as many cells, laid whole. -/
theorem fill_one (C v : Array Value) (size : Nat) (hv : v.size = size) (hc : C.size = size) : Instr.fill (fun i => some (i * size, size)) C [(0, .agg v)] = some v := by
  rw [fill_cons _ C v v (.agg v) 0 (0 * size) size [] rfl rfl hv (by omega) (fun i => by
    by_cases h : i < v.size
    · rw [if_pos (by omega)]; simp
    · rw [if_neg (by omega), Array.getElem?_eq_none (by omega), Array.getElem?_eq_none (by omega)])]
  rfl
theorem wp_append_at {P : Program} {o : Oper} {a : Act} {w : World} {K : Act → World → Prop} {Q : Exit → Act → World → Prop} (s x : Operand) (t : TypeId) (ho : o.op = .call { callee := .builtin .append, args := #[s, x], argTypes := #[t, t] }) (sv xv : Value) (hs : a.eval s = sv) (hx : a.eval x = xv)
    (v' : Value) (w' : World) (hr : (Builtin.append_ #[t, t] o.type #[sv, xv]).run P w = .ok v' w') (h : K (a.put o.dst v') w') : o.wp P a w K Q := by
  unfold Oper.wp execOp
  simp only [ho, resolve, invoke, builtin, Sem.run_bind, Sem.run_pure, Result.andThen_ok, List.map_toArray, List.map_cons, List.map_nil, hs, hx, hr]
  exact h
theorem wp_lit_at {P : Program} {o : Oper} {a : Act} {w : World} {K : Act → World → Prop} {Q : Exit → Act → World → Prop} (t : TypeId) (len : Nat) (parts : Array (Nat × Operand)) (ho : o.op = .buildSlice t len parts) (vs : Array (Nat × Value)) (hv : (parts.map fun (i, x) => (i, a.eval x)) = vs)
    (v : Value) (w' : World) (hr : (Instr.buildSlice t len vs).run P w = .ok v w') (h : K (a.put o.dst v) w') : o.wp P a w K Q := by
  subst hv
  unfold Oper.wp execOp
  simp only [ho, Sem.run_bind, hr, Result.andThen_ok]
  exact h
theorem yieldsIf_build {P : Program} {ops : Array Oper} {S : World → Prop} {op : Oper} {a : Act} (hw : Region.wanted op (yielded ops a.tmps) = true) (t : TypeId) (parts : Array (Nat × Operand)) (ho : op.op = .build t parts) (vs : Array (Nat × Value)) (v : Value) (hv : (parts.map fun (i, x) => (i, a.eval x)) = vs)
    (hr : ∀ W, (Instr.build t vs).run P W = .ok v W) : YieldsIf P ops S op v a := by
  subst hv
  exact .inl ⟨hw, fun w hw' => by
    unfold execOp
    simp only [ho, Sem.run_bind, Sem.run_pure, Result.andThen_ok, hr]⟩
theorem wpList_lit_run {P : Program} {ops : Array Oper} {rest : List Oper} {o : Oper} {a : Act} {w : World} {Q : Exit → Act → World → Prop} (hgd : o.guard = none) (t : TypeId) (len : Nat) (parts : Array (Nat × Operand)) (ho : o.op = .buildSlice t len parts) (vs : Array (Nat × Value)) (hv : (parts.map fun (i, x) => (i, a.eval x)) = vs)
    (v : Value) (w' : World) (hr : (Instr.buildSlice t len vs).run P w = .ok v w') (h : wpList P ops Q rest (a.put o.dst v) w') : wpList P ops Q (o :: rest) a w :=
  wpList_plain hgd fun _ hK => wp_lit_at t len parts ho vs hv v w' hr (hK _ _ h)
theorem lit_one {P : Program} {T E size bytes : Nat} {Z : Array Value} (ht : P.underlying T = some (.slice E)) (hinfo : (P.info? E).map (fun i => (i.zero, i.size, i.bytes)) = some (some (.agg Z), size, bytes)) (h0 : 1 ≤ size) (hs : size ≤ 100000) (cs : Array Value) (hc : cs.size = size) (W : World) :
    (Instr.buildSlice T 1 #[(0, .agg cs)]).run P W = .ok (.slice (some ⟨W.heap.size, 0, none⟩) 1 1) (W.alloc (.cells cs E)) := by
  obtain ⟨i, hi, hzz⟩ := Option.map_eq_some_iff.1 hinfo
  simp only [Prod.mk.injEq] at hzz
  obtain ⟨hz, hs', hb⟩ := hzz
  refine run_buildSlice W T E 1 _ cs i _ ht hi hz (by rw [hs']; omega) (by rw [hs']; omega) ?_
  rw [hs']
  exact fill_one _ _ size hc (by simp)
theorem append_one {P : Program} {T E size bytes B n : Nat} {Z : Array Value} {w : World} {v : Value} {xs : List Value} (ht : P.underlying T = some (.slice E)) (hinfo : (P.info? E).map (fun i => (i.zero, i.size, i.bytes)) = some (some (.agg Z), size, bytes)) (hZ : Z.size = size) (h0 : 1 ≤ size)
    (hown : w.ownsRow B E size v n xs) (y : Nat) (cs : List Value) (hy : w.heap[y]? = some (.cells cs.toArray E (0, 0))) (hcs : cs.length = size) (h1 : ∀ u ∈ cs, u.oneCell' = true) (hn : n ≤ 1000000) (hb : bytes ≤ 1000000) (hB : B ≤ w.heap.size) :
    ∃ a c w', (Builtin.append_ #[T, T] T #[v, .slice (some ⟨y, 0, none⟩) 1 1]).run P w = .ok (.slice a (n + 1) c) w' ∧ w'.ownsRow B E size (.slice a (n + 1) c) (n + 1) (xs ++ cs) ∧ w.grownBy w' v.ownBlock ∧ ((Value.slice a (n + 1) c).ownBlock = v.ownBlock ∨ (Value.slice a (n + 1) c).ownBlock = some w.heap.size) := by
  obtain ⟨i, hi, hzz⟩ := Option.map_eq_some_iff.1 hinfo
  simp only [Prod.mk.injEq] at hzz
  obtain ⟨hz, hs, hby⟩ := hzz
  have hmul : (n + 1) * bytes ≤ 1000001 * 1000000 := Nat.mul_le_mul (by omega) hb
  obtain ⟨v', W', hr, ho, hg, _, hnb⟩ := run_append_own_at (P := P) w B T T E i _ size bytes ht hi hz hs hby hZ (by omega)
    v n xs hown ⟨y, 0, none⟩ 1 1 cs (by rw [hcs]; omega) (fun j u hu => by
      rw [Addr.add_mid, cell_of_row _ _ _ _ _ _ hy]; simpa using hu) h1 (by unfold maxLen; omega) (by omega) hB
  obtain ⟨a', c', rfl⟩ : ∃ a c, v' = .slice a (n + 1) c := by
    rcases ho.2 with ⟨h5, h6⟩ | ⟨g', c, cur, h5, _⟩
    · omega
    · exact ⟨_, _, h5⟩
  exact ⟨a', c', W', hr, ho, hg, hnb⟩
end Go.Proofs.Ytbnclmlbennhaaa
