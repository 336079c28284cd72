/-
  Datasets of layer 15 as plain values: how one lies in memory, comes in, is compared; slices of datasets, read and of one's own.
-/
import Derived.Test.YtkafabcklohlmaaNo0
import Derived.Laws.EntriesVeiled
import Derived.Lib.Bytealg
namespace Go.Proofs.Ytkafabcklohlmaa
set_option maxRecDepth 4000
set_option linter.unusedVariables false
open Go.ChangeShapes Go.WideShapes Go.ChangeAt Go.RowKit

theorem bt15 {w a b : World} (h : Below w.heap.size w a) (q : Below a.heap.size a b) : Below w.heap.size w b := h.trans (q.mono h.size)
theorem ba15 (w : World) (o : Obj) : Below w.heap.size w (w.alloc o) := (Below.refl _ w).alloc (Nat.le_refl _) o
theorem new15 (w : World) (o : Obj) : (w.alloc o).heap[w.heap.size]? = some o := heap_alloc_new w o
structure SetV where
  nm : ByteArray
  fr : ByteArray
  sn : Bool
  rt : PtrV
theorem SetV.same {p q : SetV} (h1 : p.nm = q.nm) (h2 : p.fr = q.fr) (h3 : p.sn = q.sn) (h4 : p.rt = q.rt) : p = q := by
  cases p
  cases q
  simp only at h1 h2 h3 h4
  subst h1 h2 h3 h4
  rfl
instance : DecidableEq SetV := fun p q => if h : p.nm = q.nm ∧ p.fr = q.fr ∧ p.sn = q.sn ∧ p.rt = q.rt then isTrue (SetV.same h.1 h.2.1 h.2.2.1 h.2.2.2) else isFalse (fun e => h (by subst e; exact ⟨rfl, rfl, rfl, rfl⟩))
def zeroSet : SetV := ⟨⟨#[]⟩, ⟨#[]⟩, false, zeroPtr⟩
instance : Inhabited SetV := ⟨zeroSet⟩
def setRow (s : SetV) : List Value := .string s.nm :: .string s.fr :: .bool s.sn :: ptrRow s.rt
theorem setRow_length (s : SetV) : (setRow s).length = 37 := by simp [setRow, ptrRow_length]
theorem setRow_cells1 (s : SetV) : ∀ v ∈ setRow s, v.oneCell' = true := by
  intro v hv
  simp only [setRow, List.mem_cons] at hv
  rcases hv with rfl | rfl | rfl | h
  · rfl
  · rfl
  · rfl
  · exact ptrRow_cells1 _ v h
theorem setRow_one (s : SetV) : (setRow s).toArray.all (·.oneCell') = true := all_oneCell_toArray (setRow_cells1 s)
theorem size_set (s : SetV) : (Try.prog.info? 38).map (·.size) = some (setRow s).length := by
  rw [show (Try.prog.info? 38).map (·.size) = some 37 by kernel_rfl, setRow_length s]
theorem size_setA (s : SetV) : (Try.prog.info? 38).map (·.size) = some (setRow s).toArray.size := by
  rw [size_set s]; simp
theorem zero_set (W : World) : (zeroValue 38).run Try.prog W = .ok (.agg (setRow zeroSet).toArray) W := by kernel_rfl
theorem info_set : (Try.prog.info? 38).map (fun i => (i.zero, i.size, i.bytes)) = some (some (.agg (setRow zeroSet).toArray), 37, 88) := by kernel_rfl
theorem set_range {w : World} {b o : Nat} {s : SetV} (h : w.rangeAt b o (setRow s)) :
    w.cell? ⟨b, o, none⟩ = some (.string s.nm) ∧ w.cell? ⟨b, o + 1, none⟩ = some (.string s.fr) ∧ w.cell? ⟨b, o + 2, none⟩ = some (.bool s.sn) ∧ w.rangeAt b (o + 3) (ptrRow s.rt) := by
  refine ⟨h 0 _ rfl, h 1 _ rfl, h 2 _ rfl, fun j v hj => ?_⟩
  have := h (j + 3) v (by simpa [setRow] using hj)
  rwa [show o + (j + 3) = o + 3 + j by omega] at this
theorem set_at {w : World} {b t : Nat} {fr : Nat × Nat} {s : SetV} (h : w.heap[b]? = some (.cells (setRow s).toArray t fr)) :
    w.cell? ⟨b, 0, none⟩ = some (.string s.nm) ∧ w.cell? ⟨b, 1, none⟩ = some (.string s.fr) ∧ w.cell? ⟨b, 2, none⟩ = some (.bool s.sn) ∧ w.rangeAt b 3 (ptrRow s.rt) := by
  have := set_range (range_of_row h)
  simpa using this
/-! ### how one comes in -/
structure SetOk (s : SetV) : Prop where
  ns : s.nm.size ≤ 140737488351232
  fs : s.fr.size ≤ 140737488351232
def RSetV : World → SetV → List Value → Prop := fun _ s cs => cs = setRow s ∧ SetOk s
theorem opn_set : Opn 38 RSetV := by
  intro H enc W fuel cs y h hw
  obtain ⟨xs, k, _, hx, hlen, hxl, hfs⟩ := DataW.trod_struct Try.underlying38 h
  rw [show Try.prog.cellsOf 38 = 37 by kernel_rfl] at hlen
  have hxk : xs.length = 4 := hxl
  have hd := congrArg Prod.fst hx
  dsimp only at hd
  clear hx hxl
  match xs, hxk with
  | [y0, y1, y2, y3], _ =>
    have es : Try.prog.cellsOf 9 = 1 := by kernel_rfl
    have eb : Try.prog.cellsOf 4 = 1 := by kernel_rfl
    have ep : Try.prog.cellsOf 36 = 34 := by kernel_rfl
    have hw2 : ∀ n ∈ DataW.weightsEach Try.prog [9, 9, 4, 36] [y0.1, y1.1, y2.1, y3.1], n ≤ reachBytes := fun n hn => hw n (by rw [hd]; simp only [DataW.weights, Try.underlying38]; exact hn)
    have g0 : DataW.trod enc Try.prog W 0 (fun _ => true) true k 9 ((cs.drop 0).take 1) = some y0 := by have q := hfs 0 _ rfl; rw [← es]; exact q
    have g1 : DataW.trod enc Try.prog W 0 (fun _ => true) true k 9 ((cs.drop 1).take 1) = some y1 := by have q := hfs 1 _ rfl; rw [← es]; exact q
    have g2 : DataW.trod enc Try.prog W 0 (fun _ => true) true k 4 ((cs.drop 2).take 1) = some y2 := by have q := hfs 2 _ rfl; rw [← eb]; exact q
    have g3 : DataW.trod enc Try.prog W 0 (fun _ => true) true k 36 ((cs.drop 3).take 34) = some y3 := by have q := hfs 3 _ rfl; rw [← ep]; exact q
    obtain ⟨s0, r0, z0⟩ := opn_str Try.underlying9 _ _ _ _ _ _ g0 (fun n hn => hw2 n (DataW.weights_mem_each (j := 0) rfl rfl n hn))
    obtain ⟨s1, r1, z1⟩ := opn_str Try.underlying9 _ _ _ _ _ _ g1 (fun n hn => hw2 n (DataW.weights_mem_each (j := 1) rfl rfl n hn))
    obtain ⟨s2, r2⟩ := opn_bool Try.underlying4 _ _ _ _ _ _ g2 (fun n hn => hw2 n (DataW.weights_mem_each (j := 2) rfl rfl n hn))
    obtain ⟨s3, r3'⟩ := opn_ptr _ _ _ _ _ _ g3 (fun n hn => hw2 n (DataW.weights_mem_each (j := 3) rfl rfl n hn))
    have r3 : (cs.drop 3).take 34 = ptrRow s3 := r3'
    have hcs : cs = (cs.drop 0).take 1 ++ ((cs.drop 1).take 1 ++ ((cs.drop 2).take 1 ++ (cs.drop 3).take 34)) := by
      conv => lhs; rw [← List.drop_zero (l := cs), lcut cs 0 1, lcut cs (0 + 1) 1, lcut cs (0 + 1 + 1) 1, lcut cs (0 + 1 + 1 + 1) 34]
      rw [List.drop_eq_nil_of_le (show cs.length ≤ 0 + 1 + 1 + 1 + 34 by omega), List.append_nil]
    rw [r0, r1, r2, r3] at hcs
    exact ⟨⟨s0, s1, s2, s3⟩, hcs, z0, z1⟩
theorem opn_sets : Opn 22 (RSl RSetV 37) := opn_slice 37 Try.underlying22 (by kernel_rfl) (by decide) (of_decide_eq_true (by kernel_rfl)) opn_set
theorem par_set {H : Type} {enc : TypeId × Value → H} {W : World} {base : Nat} {v : Value} {d : DataW H} {p : List MemPlace} {ts : List TypeId} {ds : List (DataW H)} {j : Nat} (_hok : Value.okWide Try.prog W .any base 38 v) (h : ∃ fuel, DataW.trod enc Try.prog W 0 (fun _ => true) true fuel 38 v.cells.toList = some (d, p))
    (hsz : (DataW.weightsEach Try.prog ts ds).all (· ≤ reachBytes) = true) (ht : ts[j]? = some 38) (hd : ds[j]? = some d) : ∃ s : SetV, v = .agg (setRow s).toArray ∧ SetOk s := by
  obtain ⟨s, hq⟩ := opn_param opn_set h hsz ht hd
  have e : v.cells.toList = setRow s := hq.1
  refine ⟨s, ?_, hq.2⟩
  rw [agg_cells (v := v) (by rw [e, setRow_length]; decide)]
  congr 1
  rw [← e]
/-! ### compared -/
def setLits (s : SetV) : List Lit := .string s.nm.data.toList :: .string s.fr.data.toList :: .bool s.sn :: ptrLits s.rt
theorem lits_set (s : SetV) (ho : SetOk s) (d : Nat) : Try.prog.keyLits (d + 4) 38 (setRow s) = some (setLits s) := by
  have h1 : Try.prog.cellsOf 9 = 1 := by kernel_rfl
  have h2 : Try.prog.cellsOf 4 = 1 := by kernel_rfl
  have h3 : Try.prog.cellsOf 36 = 34 := by kernel_rfl
  have e0 : ∀ b : ByteArray, b.size ≤ 140737488351232 → Try.prog.keyLits (d + 3) 9 [Value.string b] = some [.string b.data.toList] := by
    intro b hb
    unfold Program.keyLits
    rw [Try.underlying9]
    dsimp only
    rw [if_pos (by unfold maxLen; omega)]
  have e1 : Try.prog.keyLits (d + 3) 4 [Value.bool s.sn] = some [.bool s.sn] := by
    unfold Program.keyLits
    rw [Try.underlying4]
  have e2 := lits_ptr s.rt d
  have e3 : (ptrRow s.rt).take 34 = ptrRow s.rt := List.take_of_length_le (by rw [ptrRow_length]; exact Nat.le_refl _)
  have ea := e0 s.nm ho.ns
  have eb := e0 s.fr ho.fs
  unfold Program.keyLits
  rw [Try.underlying38]
  dsimp only
  rw [if_pos ⟨by rw [setRow_length s]; kernel_rfl, by simp⟩]
  unfold setRow
  simp [h1, h2, h3, ea, eb, e1, e2, e3, setLits]
def klS (s : SetV) : Lit := .string (keyBytes (setLits s))
theorem key_set (s : SetV) (ho : SetOk s) : keyOf Try.prog 38 (.agg (setRow s).toArray) = some (klS s) := by
  have ht : ∃ d, Try.prog.types.size + 1 = d + 4 := ⟨Try.prog.types.size - 3, by rw [show Try.prog.types.size = Try.prog.types.size - 3 + 3 from of_decide_eq_true (by kernel_rfl)]; rfl⟩
  obtain ⟨d, hd⟩ := ht
  unfold keyOf
  rw [Try.underlying38]
  dsimp only
  rw [if_pos, hd]
  · show (Try.prog.keyLits (d + 4) 38 (setRow s).toArray.toList).map _ = _
    rw [show (setRow s).toArray.toList = setRow s from rfl, lits_set s ho d]
    rfl
  · rw [show Try.prog.keyType 38 = true by kernel_rfl, Bool.true_and]
    unfold Value.formed
    rw [Try.underlying38]
    simp only [List.size_toArray, setRow_length, show Try.prog.cellsOf 38 = 37 by kernel_rfl]
    rfl
theorem law_set : WideMaps.KeyLaw Try.prog 38 := deep_law_laid laidOut (m := 4) (by decide) (of_decide_eq_true (by kernel_rfl)) (by kernel_rfl) (by rw [Try.underlying38])
theorem setRow_inj {p q : SetV} (h : setRow p = setRow q) : p = q := by
  unfold setRow at h
  simp only [List.cons.injEq, Value.string.injEq, Value.bool.injEq] at h
  exact SetV.same h.1 h.2.1 h.2.2.1 (ptrRow_inj h.2.2.2)
theorem klS_inj {p q : SetV} (hp : SetOk p) (hq : SetOk q) (h : klS p = klS q) : p = q := by
  have := (Maps.Keyed.of_law law_set).inj (key_set p hp) (h ▸ key_set q hq)
  injection this with e
  exact setRow_inj (by simpa using congrArg Array.toList e)
theorem eq_set (p q : SetV) (hp : SetOk p) (hq : SetOk q) (w : World) : (Op.equalIn 10000 38 (.agg (setRow p).toArray) (.agg (setRow q).toArray)).run Try.prog w = .ok (decide (p = q)) w := by
  obtain ⟨r, h1, h2⟩ := run_equal_deep w (m := 4) (by decide) (show Try.prog.keyTypeAt 4 38 = true by kernel_rfl) (by rw [Try.underlying38]) (key_set p hp) (key_set q hq)
  have e : r = decide (p = q) := by
    by_cases h : p = q
    · subst h; simp [h2.2 rfl]
    · rw [decide_eq_false h]
      cases r with
      | false => rfl
      | true => exact absurd (klS_inj hp hq (h2.1 rfl)) h
  rw [← e]
  exact h1
theorem setok_zero : SetOk zeroSet := ⟨by decide, by decide⟩
/-! ### slices of datasets -/
def rowsS (l : List SetV) : List Value := l.flatMap setRow
theorem rowsS_app (a b : List SetV) : rowsS (a ++ b) = rowsS a ++ rowsS b := by simp [rowsS]
theorem rowsS_len : ∀ S : List SetV, (rowsS S).length = S.length * 37
  | [] => rfl
  | x :: S => by
    have := rowsS_len S
    show (setRow x ++ rowsS S).length = _
    rw [List.length_append, this, List.length_cons, setRow_length]
    omega
theorem rowsS_one (S : List SetV) : ∀ v ∈ rowsS S, v.oneCell' = true := by
  intro v hv
  obtain ⟨x, _, hx⟩ := List.mem_flatMap.1 hv
  exact setRow_cells1 x v hx
theorem rowsS_at : ∀ (S : List SetV) (i : Nat) (x : SetV), S[i]? = some x → ∀ j, j < 37 → (rowsS S)[i * 37 + j]? = (setRow x)[j]?
  | [], i, x, h, _, _ => by simp at h
  | y :: S, 0, x, h, j, hv => by
    obtain rfl : y = x := by simpa using h
    show (setRow y ++ rowsS S)[0 * 37 + j]? = _
    rw [show 0 * 37 + j = j by omega, List.getElem?_append_left (by rw [setRow_length]; omega)]
  | y :: S, i + 1, x, h, j, hv => by
    have := rowsS_at S i x (by simpa using h) j hv
    show (setRow y ++ rowsS S)[(i + 1) * 37 + j]? = _
    rw [List.getElem?_append_right (by rw [setRow_length]; omega), setRow_length, show (i + 1) * 37 + j - 37 = i * 37 + j by omega]
    exact this
/-- A slice that reads as these datasets. -/
def LS (w : World) (v : Value) (l : List SetV) : Prop :=
  ∃ a c, v = .slice a l.length c ∧ l.length ≤ c ∧ ∀ (i : Nat) (q : SetV), l[i]? = some q → ∃ b off, a = some ⟨b, off, none⟩ ∧ w.rangeAt b (off + i * 37) (setRow q)
theorem LS.below {w w' : World} {v : Value} {l : List SetV} (h : LS w v l) (hb : Below w.heap.size w w') : LS w' v l := by
  obtain ⟨a, c, e, hc, h⟩ := h
  refine ⟨a, c, e, hc, fun i q hq => ?_⟩
  obtain ⟨b, off, h1, h2⟩ := h i q hq
  exact ⟨b, off, h1, range_below h2 hb⟩
theorem ls_nil (w : World) : LS w (.slice none 0 0) [] := ⟨none, 0, rfl, Nat.le_refl _, fun i q hq => by simp at hq⟩
theorem ls_in {w : World} {x : List SetV} {a : Option Addr} {n c : Nat} (h : SlR RSetV 37 w x a n c) : LS w (.slice a n c) x ∧ (∀ q ∈ x, SetOk q) ∧ x.length = n := by
  refine ⟨⟨a, c, by rw [h.len], by rw [h.len]; exact h.cap, fun i q hq => ?_⟩, fun q hq => ?_, h.len⟩
  · obtain ⟨hi, rfl⟩ := List.getElem?_eq_some_iff.1 hq
    obtain ⟨b, off, cs, h1, h2, _, h5⟩ := h.here i hi
    obtain ⟨rfl, ho⟩ := h2
    exact ⟨b, off, h1, h5⟩
  · obtain ⟨i, hi, rfl⟩ := List.getElem_of_mem hq
    obtain ⟨b, off, cs, h1, h2, _, h5⟩ := h.here i hi
    exact h2.2
theorem index_set (b off len cap i : Nat) (h : i < len) (W : World) : (Instr.indexAt 22 (.slice (some ⟨b, off, none⟩) len cap) (.int .i64 (i : Int))).run Try.prog W = .ok (.pointer (some ⟨b, off + i * 37, none⟩)) W := by
  obtain ⟨i0, hi, hs⟩ := Option.map_eq_some_iff.1 (show (Try.prog.info? 38).map (·.size) = some 37 by kernel_rfl)
  simp [Instr.indexAt, asIntOf, run_underlying Try.underlying22, sizeOf, typeInfo, hi, hs, h, Addr.add_mid]
theorem lit_set (s : SetV) (W : World) : (Instr.buildSlice 22 1 #[(0, .agg (setRow s).toArray)]).run Try.prog W = .ok (.slice (some ⟨W.heap.size, 0, none⟩) 1 1) (W.alloc (.cells (setRow s).toArray 38)) :=
  lit_one Try.underlying22 info_set (by decide) (by decide) (setRow s).toArray (by simp [setRow_length]) W
theorem lit_noset (W : World) : (Instr.buildSlice 22 0 #[]).run Try.prog W = .ok (.slice (some ⟨W.heap.size, 0, none⟩) 0 0) (W.alloc (.cells #[] 38)) := by
  obtain ⟨i, hi, hs⟩ := Option.map_eq_some_iff.1 (show (Try.prog.info? 38).map (·.size) = some 37 by kernel_rfl)
  simp [Instr.buildSlice, run_underlying Try.underlying22, sizeOf, typeInfo, hi, Instr.fill, newRow]
  exact congrArg (fun x => W.alloc (Obj.cells x 38)) (Array.eq_empty_of_size_eq_zero (by simp))
/-- A row of datasets of one's own. -/
def OWS (w : World) (B : Nat) (v : Value) (S : List SetV) : Prop := w.ownsRow B 38 37 v S.length (rowsS S)
theorem OWS.nil (w : World) (B : Nat) : OWS w B (.slice none 0 0) [] := World.ownsRow_nil w B _ _
theorem OWS.move {w w' : World} {B : Nat} {v : Value} {S : List SetV} (h : OWS w B v S) (q : ∀ g, v.ownBlock = some g → w'.heap[g]? = w.heap[g]?) : OWS w' B v S := by
  refine ⟨h.1, ?_⟩
  rcases h.2 with ⟨e, h0⟩ | ⟨g, cap, cur, rfl, hb, hc, h1, h2, h3, h4⟩
  · exact .inl ⟨e, h0⟩
  · exact .inr ⟨g, cap, cur, rfl, hb, (q g rfl).trans hc, h1, h2, h3, h4⟩
theorem OWS.below {w w' : World} {B : Nat} {v : Value} {S : List SetV} (h : OWS w B v S) (q : Below w.heap.size w w') : OWS w' B v S :=
  h.move (fun g hg => q.block g (World.ownsRow.lt h g hg).2)
theorem OWS.ls {w : World} {B : Nat} {v : Value} {S : List SetV} (h : OWS w B v S) : LS w v S := by
  rcases h.2 with ⟨rfl, h0⟩ | ⟨g, cap, cur, rfl, hb, hc, h1, h2, h3, h4⟩
  · have e := List.length_eq_zero_iff.1 h0
    subst e
    exact ls_nil w
  · refine ⟨_, cap, rfl, h1, fun i q hq => ⟨g, 0, rfl, fun j x hx => ?_⟩⟩
    obtain ⟨hi, _⟩ := List.getElem?_eq_some_iff.1 hq
    obtain ⟨hj, _⟩ := List.getElem?_eq_some_iff.1 hx
    rw [setRow_length] at hj
    have h0 := rowsS_at S i q hq j hj
    rw [hx, ← h4, List.getElem?_take_of_lt (by omega), Array.getElem?_toList] at h0
    rw [Nat.zero_add, cell_of_row w g _ cur _ _ hc]
    exact h0
theorem OWS.up {w : World} {B C : Nat} {v : Value} {S : List SetV} (h : OWS w B v S) (q : C ≤ B) : OWS w C v S := by
  refine ⟨h.1, ?_⟩
  rcases h.2 with ⟨e, h0⟩ | ⟨g, cap, cur, rfl, hb, hc, h1, h2, h3, h4⟩
  · exact .inl ⟨e, h0⟩
  · exact .inr ⟨g, cap, cur, rfl, Nat.le_trans q hb, hc, h1, h2, h3, h4⟩
/-- More datasets, of a slice that is there. -/
theorem ows_app {w : World} {B : Nat} {v u : Value} {K M : List SetV} (h : OWS w B v K) (hB : B ≤ w.heap.size) (hu : LS w u M) (hn : K.length + M.length ≤ 100000) (ty : TypeId) :
    ∃ v' w', (Builtin.append_ #[22, 22] ty #[v, u]).run Try.prog w = .ok v' w' ∧ OWS w' B v' (K ++ M) ∧ w.grownBy w' v.ownBlock := by
  obtain ⟨i, hi, hz⟩ := Option.map_eq_some_iff.1 info_set
  simp only [Prod.mk.injEq] at hz
  obtain ⟨h1, h2, h3⟩ := hz
  obtain ⟨ad, cu, rfl, hcu, hc⟩ := hu
  cases ad with
  | none =>
    have hl : M = [] := by
      cases M with
      | nil => rfl
      | cons p l => obtain ⟨b, off, h, _⟩ := hc 0 p rfl; cases h
    subst hl
    refine ⟨v, w, ?_, by rw [List.append_nil]; exact h, ⟨rfl, rfl, rfl, Nat.le_refl _, fun _ _ _ => rfl⟩⟩
    rcases h.2 with ⟨e, h0⟩ | ⟨g, cap, cur, rfl, hb, hcc, q1, q2, q3, q4⟩
    · rw [e]
      simp [Builtin.append_, run_underlying Try.underlying22, sizeOf, typeInfo, hi, Builtin.lenOf, Builtin.firstCells]
    · simp [Builtin.append_, run_underlying Try.underlying22, sizeOf, typeInfo, hi, Builtin.lenOf, Builtin.firstCells, q1, storeCells]
  | some ad =>
    obtain ⟨v', w', hr, ho, hg, _, hnb⟩ := run_append_own_at (P := Try.prog) w B 22 ty 38 i _ 37 88 Try.underlying22 hi h1 h2 h3 (by simp [Value.cells, setRow_length]) (by decide) v K.length (rowsS K) h ad M.length cu (rowsS M) (rowsS_len M) (fun j u hj => by
      have hjl : j < M.length * 37 := by have := (List.getElem?_eq_some_iff.1 hj).1; rwa [rowsS_len] at this
      have hd : j / 37 < M.length := by omega
      obtain ⟨b, off, he, hrg⟩ := hc (j / 37) M[j / 37] (List.getElem?_eq_getElem hd)
      obtain rfl := Option.some.inj he
      have e := rowsS_at M (j / 37) M[j / 37] (List.getElem?_eq_getElem hd) (j % 37) (by omega)
      rw [show j / 37 * 37 + j % 37 = j by omega, hj] at e
      have h3 := hrg (j % 37) u e.symm
      rw [Addr.add_mid]
      rw [show off + j / 37 * 37 + j % 37 = off + j by omega] at h3
      exact h3) (rowsS_one M) (by unfold maxLen; omega) (by omega) hB
    exact ⟨v', w', hr, by unfold OWS; rw [rowsS_app, List.length_append]; exact ho, hg⟩
theorem OWS.grown {w w0 w' : World} {v : Value} {K : List SetV} (h : OWS w w0.heap.size v K) (hg : w.grownBy w' v.ownBlock) (hb : Below w0.heap.size w0 w) : Below w0.heap.size w0 w' :=
  hb.trans ((Below.refl w0.heap.size w).grown hg hb.size (fun k hk => (World.ownsRow.lt h k hk).1))
/-- Parts of a slice. -/
theorem ls_drop (W : World) (a : Option Addr) (len cap lo : Nat) (l : List SetV) (h : LS W (.slice a len cap) l) (h1 : lo ≤ len) :
    ∃ a2 : Option Addr, (∀ W', (Instr.slice 22 (.slice a len cap) (some (.int .i64 (lo : Int))) none none).run Try.prog W' = .ok (.slice a2 (len - lo) (cap - lo)) W') ∧ LS W (.slice a2 (len - lo) (cap - lo)) (l.drop lo) := by
  obtain ⟨i0, hi0, hs⟩ := Option.map_eq_some_iff.1 (show (Try.prog.info? 38).map (·.size) = some 37 by kernel_rfl)
  obtain ⟨a', c', he, h3, hc⟩ := h
  injection he with e1 e2 e3
  subst e1; subst e3; subst e2
  refine ⟨if cap = lo then a else a.map (·.add (lo * 37)), ?_, ?_⟩
  · intro W'
    have b2 := ybound_ok lo l.length .sliceB h1 W'
    simp [Instr.slice, run_underlying Try.underlying22, Instr.sliceBounds, sizeOf, typeInfo, hi0, hs, b2]
  · refine ⟨_, _, by rw [List.length_drop], by rw [List.length_drop]; omega, fun i q hq => ?_⟩
    rw [List.getElem?_drop] at hq
    have hlt := (List.getElem?_eq_some_iff.1 hq).1
    obtain ⟨b, off, e, hr⟩ := hc (lo + i) q hq
    subst e
    refine ⟨b, off + lo * 37, ?_, ?_⟩
    · rw [if_neg (by omega)]; simp [Addr.add_mid]
    · rw [show off + lo * 37 + i * 37 = off + (lo + i) * 37 by omega]; exact hr
theorem ls_take (W : World) (a : Option Addr) (len cap hi : Nat) (l : List SetV) (h : LS W (.slice a len cap) l) (h1 : hi ≤ len) :
    ∃ a2 : Option Addr, (∀ W', (Instr.slice 22 (.slice a len cap) none (some (.int .i64 (hi : Int))) none).run Try.prog W' = .ok (.slice a2 hi cap) W') ∧ LS W (.slice a2 hi cap) (l.take hi) := by
  obtain ⟨i0, hi0, hs⟩ := Option.map_eq_some_iff.1 (show (Try.prog.info? 38).map (·.size) = some 37 by kernel_rfl)
  obtain ⟨a', c', he, h3, hc⟩ := h
  injection he with e1 e2 e3
  subst e1; subst e3; subst e2
  refine ⟨if cap = 0 then a else a.map (·.add 0), ?_, ?_⟩
  · intro W'
    have b1 := ybound_ok hi cap .sliceAcap (by omega) W'
    simp [Instr.slice, run_underlying Try.underlying22, Instr.sliceBounds, sizeOf, typeInfo, hi0, b1]
  · refine ⟨_, _, by rw [List.length_take, Nat.min_eq_left h1], by rw [List.length_take]; omega, fun i q hq => ?_⟩
    rw [List.getElem?_take] at hq
    split at hq
    · have hlt := (List.getElem?_eq_some_iff.1 hq).1
      obtain ⟨b, off, e, hr⟩ := hc i q hq
      subst e
      refine ⟨b, off, ?_, hr⟩
      rw [if_neg (by omega)]
      simp [Addr.add_mid]
    · cases hq
theorem ls_one0 {w : World} {b : Nat} {s : SetV} (h : w.heap[b]? = some (.cells (setRow s).toArray 38 (0, 0))) : LS w (.slice (some ⟨b, 0, none⟩) 1 1) [s] := by
  refine ⟨_, 1, rfl, Nat.le_refl _, fun i q hq => ⟨b, 0, rfl, ?_⟩⟩
  match i, hq with
  | 0, hq =>
    obtain rfl : s = q := by simpa using hq
    exact range_of_row h
end Go.Proofs.Ytkafabcklohlmaa
