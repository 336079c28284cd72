/-
  Pointers of layer 8 as plain values: how one lies in memory, comes in, is compared, is a map's key; the order among them.
-/
import Derived.Test.YtfgdddejpdjllaaDoorCod0
import Derived.Test.YtfgdddejpdjllaaDoorCtr0
import Derived.DeepKeys4
import Derived.Maps.Keyed
namespace Go.Proofs.YtfgdddejpdjllaaDoor
set_option maxRecDepth 4000
open Go.ChangeShapes Go.WideShapes Go.ChangeAt Go.RowKit

/-- A pointer: address, birth, sum, each in its bounds. -/
structure PtrV where
  ad : Int
  bi : Int
  su : List Int
  a0 : 0 ≤ ad ∧ ad ≤ 4294967295
  b0 : 0 ≤ bi ∧ bi ≤ 18446744073709551615
  s0 : su.length = 32 ∧ Byt su
theorem PtrV.same {p q : PtrV} (h1 : p.ad = q.ad) (h2 : p.bi = q.bi) (h3 : p.su = q.su) : p = q := by
  cases p
  cases q
  simp only at h1 h2 h3
  subst h1 h2 h3
  rfl
instance : DecidableEq PtrV := fun p q => if h : p.ad = q.ad ∧ p.bi = q.bi ∧ p.su = q.su then isTrue (PtrV.same h.1 h.2.1 h.2.2) else isFalse (fun e => h (by subst e; exact ⟨rfl, rfl, rfl⟩))
theorem byt_zeros8 (n : Nat) : Byt (List.replicate n 0) := by
  intro z hz
  obtain ⟨_, rfl⟩ := List.mem_replicate.1 hz
  omega
def zeroPtr : PtrV := ⟨0, 0, List.replicate 32 0, by decide, by decide, by decide, byt_zeros8 32⟩
instance : Inhabited PtrV := ⟨zeroPtr⟩
def ptrRow (q : PtrV) : List Value := .int .u32 q.ad :: .int .u64 q.bi :: q.su.map (Value.int .u8)
theorem ptrRow_length (q : PtrV) : (ptrRow q).length = 34 := by simp [ptrRow, q.s0.1]
theorem ptrRow_inj {p q : PtrV} (h : ptrRow p = ptrRow q) : p = q := by
  unfold ptrRow at h
  simp only [List.cons.injEq, Value.int.injEq, true_and] at h
  refine PtrV.same h.1 h.2.1 (List.map_inj_right (fun x y e => ?_) |>.1 h.2.2)
  injection e
theorem ptrRow_one (q : PtrV) : (ptrRow q).toArray.all (·.oneCell') = true := by
  apply all_oneCell_toArray
  intro v hv
  simp only [ptrRow, List.mem_cons, List.mem_map] at hv
  rcases hv with rfl | rfl | ⟨z, _, rfl⟩ <;> rfl
theorem ptrRow_cells1 (q : PtrV) : ∀ v ∈ ptrRow q, v.oneCell' = true := by
  intro v hv
  simp only [ptrRow, List.mem_cons, List.mem_map] at hv
  rcases hv with rfl | rfl | ⟨z, _, rfl⟩ <;> rfl
theorem size_ptr (q : PtrV) : (Tryd.prog.info? 41).map (·.size) = some (ptrRow q).length := by
  rw [show (Tryd.prog.info? 41).map (·.size) = some 34 by kernel_rfl, ptrRow_length q]
theorem size_ptrA (q : PtrV) : (Tryd.prog.info? 41).map (·.size) = some (ptrRow q).toArray.size := by
  rw [size_ptr q]; simp
theorem zero_ptr (W : World) : (zeroValue 41).run Tryd.prog W = .ok (.agg (ptrRow zeroPtr).toArray) W := by kernel_rfl
theorem info_ptr : (Tryd.prog.info? 41).map (fun i => (i.zero, i.size, i.bytes)) = some (some (.agg (ptrRow zeroPtr).toArray), 34, 48) := by kernel_rfl
/-- What a block or a row that holds one gives. -/
theorem ptr_range {w : World} {b o : Nat} {q : PtrV} (h : w.rangeAt b o (ptrRow q)) :
    w.cell? ⟨b, o, none⟩ = some (.int .u32 q.ad) ∧ w.cell? ⟨b, o + 1, none⟩ = some (.int .u64 q.bi) ∧ w.rangeAt b (o + 2) (q.su.map (Value.int .u8)) := by
  refine ⟨h 0 _ rfl, h 1 _ rfl, fun j v hj => ?_⟩
  have := h (j + 2) v (by simpa [ptrRow] using hj)
  rwa [show o + (j + 2) = o + 2 + j by omega] at this
theorem range_of_row {w : World} {b t : Nat} {fr : Nat × Nat} {cs : List Value} (h : w.heap[b]? = some (.cells cs.toArray t fr)) : w.rangeAt b 0 cs := by
  intro j v hj
  rw [Nat.zero_add, cell_of_row _ _ _ _ _ _ h]
  simpa using hj
theorem ptr_at {w : World} {b t : Nat} {fr : Nat × Nat} {q : PtrV} (h : w.heap[b]? = some (.cells (ptrRow q).toArray t fr)) :
    w.cell? ⟨b, 0, none⟩ = some (.int .u32 q.ad) ∧ w.cell? ⟨b, 1, none⟩ = some (.int .u64 q.bi) ∧ w.rangeAt b 2 (q.su.map (Value.int .u8)) := by
  have := ptr_range (range_of_row h)
  simpa using this

/-! ### how one comes in -/
def RPtrV : World → PtrV → List Value → Prop := fun _ q cs => cs = ptrRow q
theorem opn_ptr : Opn 41 RPtrV := by
  intro H enc W fuel cs y h hw
  obtain ⟨xs, k, _, hx, hlen, hxl, hfs⟩ := DataW.trod_struct Tryd.underlying41 h
  rw [show Tryd.prog.cellsOf 41 = 34 by kernel_rfl] at hlen
  have hxk : xs.length = 3 := hxl
  have hd := congrArg Prod.fst hx
  dsimp only at hd
  clear hx hxl
  match xs, hxk with
  | [y0, y1, y2], _ =>
    have e0 : Tryd.prog.cellsOf 35 = 1 := by kernel_rfl
    have e1 : Tryd.prog.cellsOf 34 = 1 := by kernel_rfl
    have e2 : Tryd.prog.cellsOf 26 = 32 := by kernel_rfl
    have hw2 : ∀ n ∈ DataW.weightsEach Tryd.prog [35, 34, 26] [y0.1, y1.1, y2.1], n ≤ reachBytes := fun n hn => hw n (by rw [hd]; simp only [DataW.weights, Tryd.underlying41]; exact hn)
    have g0 : DataW.trod enc Tryd.prog W 0 (fun _ => true) true k 35 ((cs.drop 0).take 1) = some y0 := by have q := hfs 0 _ rfl; rw [← e0]; exact q
    have g1 : DataW.trod enc Tryd.prog W 0 (fun _ => true) true k 34 ((cs.drop 1).take 1) = some y1 := by have q := hfs 1 _ rfl; rw [← e1]; exact q
    have g2 : DataW.trod enc Tryd.prog W 0 (fun _ => true) true k 26 ((cs.drop 2).take 32) = some y2 := by have q := hfs 2 _ rfl; rw [← e2]; exact q
    obtain ⟨a0, r0, l0, h0⟩ := opn_int .u32 _ _ Tryd.underlying35 wf_u32 _ _ _ _ _ _ g0 (fun n hn => hw2 n (DataW.weights_mem_each (j := 0) rfl rfl n hn))
    obtain ⟨a1, r1, l1, h1⟩ := opn_int .u64 _ _ Tryd.underlying34 wf_u64 _ _ _ _ _ _ g1 (fun n hn => hw2 n (DataW.weights_mem_each (j := 1) rfl rfl n hn))
    obtain ⟨a2, r2, l2, z2⟩ := opn_row Tryd.underlying26 e2 _ _ _ _ _ _ g2 (fun n hn => hw2 n (DataW.weights_mem_each (j := 2) rfl rfl n hn))
    have hcs : cs = (cs.drop 0).take 1 ++ ((cs.drop 1).take 1 ++ (cs.drop 2).take 32) := by
      conv => lhs; rw [← List.drop_zero (l := cs), lcut cs 0 1, lcut cs (0 + 1) 1, lcut cs (0 + 1 + 1) 32]
      rw [List.drop_eq_nil_of_le (show cs.length ≤ 0 + 1 + 1 + 32 by omega), List.append_nil]
    rw [r0, r1, r2] at hcs
    refine ⟨⟨a0, a1, a2, ⟨l0, h0⟩, ⟨l1, h1⟩, l2, z2⟩, ?_⟩
    unfold RPtrV
    rw [hcs]
    rfl
abbrev Ptrs (w : World) (x : List PtrV) (a : Option Addr) (n c : Nat) : Prop := SlR RPtrV 34 w x a n c
theorem built_ptr (parts : List (Nat × Value)) : Tryd.prog.built 41 parts = Instr.fill (#[(0, 1), (1, 1), (2, 32)][·]?) (ptrRow zeroPtr).toArray parts := by kernel_rfl
theorem fill_ptr (q : PtrV) : Instr.fill (#[(0, 1), (1, 1), (2, 32)][·]?) (ptrRow zeroPtr).toArray [(0, .int .u32 q.ad), (1, .int .u64 q.bi), (2, .agg (i8s q.su))] = some (ptrRow q).toArray := by
  have hq := q.s0.1
  rw [fill_cons _ _ (Value.int .u32 q.ad :: Value.int .u64 0 :: (List.replicate 32 0).map (Value.int .u8)).toArray #[.int .u32 q.ad] (.int .u32 q.ad) 0 0 1 _ rfl rfl rfl (by simp [ptrRow_length]) (fun i => by
    unfold ptrRow zeroPtr
    cases i with
    | zero => simp
    | succ i => simp)]
  rw [fill_cons _ _ (Value.int .u32 q.ad :: Value.int .u64 q.bi :: (List.replicate 32 0).map (Value.int .u8)).toArray #[.int .u64 q.bi] (.int .u64 q.bi) 1 1 1 _ rfl rfl rfl (by simp) (fun i => by
    match i with
    | 0 => simp
    | 1 => simp
    | i + 2 =>
      rw [if_neg (by simp)]
      simp)]
  rw [fill_cons _ _ (ptrRow q).toArray (i8s q.su) (.agg (i8s q.su)) 2 2 32 _ rfl rfl (by rw [i8s_size, hq]) (by rw [i8s_size, hq]; simp) (fun i => by
    unfold ptrRow i8s
    match i with
    | 0 => simp
    | 1 => simp
    | i + 2 =>
      by_cases h : i < q.su.length
      · rw [if_pos (by simp; omega)]; simp
      · rw [if_neg (by simp only [List.size_toArray, List.length_map]; omega)]
        simp only [List.getElem?_toArray, List.getElem?_cons_succ]
        rw [List.getElem?_eq_none (by simp; omega), List.getElem?_eq_none (by simp; omega)])]
  rfl
theorem build_ptr (q : PtrV) (W : World) : (Instr.build 41 #[(0, .int .u32 q.ad), (1, .int .u64 q.bi), (2, .agg (i8s q.su))]).run Tryd.prog W = .ok (.agg (ptrRow q).toArray) W :=
  run_build W 41 _ _ (by rw [built_ptr]; exact fill_ptr q)
theorem build_none (W : World) : (Instr.build 41 #[]).run Tryd.prog W = .ok (.agg (ptrRow zeroPtr).toArray) W :=
  run_build W 41 _ _ (by rw [built_ptr]; rfl)

theorem wpList_build_run {P : Program} {ops : Array Oper} {rest : List Oper} {o : Oper} {a : Act} {w : World} {Q : Exit → Act → World → Prop} (hgd : o.guard = none) (t : TypeId) (parts : Array (Nat × Operand)) (ho : o.op = .build t parts) (vs : Array (Nat × Value)) (hv : (parts.map fun (i, x) => (i, a.eval x)) = vs)
    (v : Value) (hr : (Instr.build t vs).run P w = .ok v w) (h : wpList P ops Q rest (a.put o.dst v) w) : wpList P ops Q (o :: rest) a w :=
  wpList_plain hgd fun _ hK => by
    subst hv
    unfold Oper.wp execOp
    simp only [ho, Sem.run_bind, hr, Result.andThen_ok]
    exact hK _ _ h

/-! ### as a map's key, and compared -/
def ptrLits (q : PtrV) : List Lit := .int .u32 q.ad :: .int .u64 q.bi :: q.su.map (Lit.int .u8)
theorem mapM_range {β : Type} (f : Nat → Option β) (g : Nat → β) : ∀ n, (∀ i, i < n → f i = some (g i)) → (List.range n).mapM f = some ((List.range n).map g)
  | 0, _ => rfl
  | n + 1, h => by
    rw [List.range_succ, List.mapM_append, mapM_range f g n (fun i hi => h i (by omega))]
    simp [h n (by omega)]
theorem flat_singles {α : Type} (d : α) (l : List α) : ((List.range l.length).map fun i => [l.getD i d]).flatten = l := by
  have h : ∀ r : List Nat, (r.map fun i => [l.getD i d]).flatten = r.map fun i => l.getD i d := by
    intro r
    induction r with
    | nil => rfl
    | cons a r ih => rw [List.map_cons, List.flatten_cons, ih]; rfl
  rw [h]
  apply List.ext_getElem?
  intro i
  rw [List.getElem?_map]
  by_cases h : i < l.length
  · rw [List.getElem?_range h]
    simp [List.getElem?_eq_getElem h, List.getD]
  · rw [List.getElem?_eq_none (by simpa using h), List.getElem?_eq_none (by omega)]
    rfl
theorem lits_hash (l : List Int) (hl : l.length = 32) (hb : Byt l) (d : Nat) : Tryd.prog.keyLits (d + 2) 26 (l.map (Value.int .u8)) = some (l.map (Lit.int .u8)) := by
  unfold Program.keyLits
  rw [Tryd.underlying26]
  dsimp only
  rw [if_pos (by rw [List.length_map, hl]; kernel_rfl), show Tryd.prog.cellsOf 5 = 1 by kernel_rfl]
  rw [mapM_range _ (fun i => [(l.map (Lit.int .u8)).getD i (.int .u8 0)]) 32 ?_]
  · have := flat_singles (.int .u8 0) (l.map (Lit.int .u8))
    rw [List.length_map, hl] at this
    rw [Option.map_some, this]
  · intro i hi
    have hx : i < l.length := by omega
    have e : ((l.map (Value.int .u8)).drop (i * 1)).take 1 = [Value.int .u8 l[i]] := by
      rw [Nat.mul_one, ← List.map_drop, ← List.map_take, List.drop_eq_getElem_cons hx]
      rfl
    have hz := hb l[i] (List.getElem_mem hx)
    rw [e]
    unfold Program.keyLits
    rw [Tryd.underlying5]
    dsimp only
    rw [if_pos ⟨rfl, by simp [Lit.wf, IntKind.min, IntKind.max, IntKind.signed, IntKind.bits]; omega⟩]
    simp [hx]
theorem lits_ptr (q : PtrV) (d : Nat) : Tryd.prog.keyLits (d + 3) 41 (ptrRow q) = some (ptrLits q) := by
  have h1 : Tryd.prog.cellsOf 35 = 1 := by kernel_rfl
  have h2 : Tryd.prog.cellsOf 34 = 1 := by kernel_rfl
  have h3 : Tryd.prog.cellsOf 26 = 32 := by kernel_rfl
  have ha := q.a0
  have hb := q.b0
  have e0 : Tryd.prog.keyLits (d + 2) 35 [Value.int .u32 q.ad] = some [.int .u32 q.ad] := by
    unfold Program.keyLits
    rw [Tryd.underlying35]
    dsimp only
    rw [if_pos ⟨rfl, by simp [Lit.wf, IntKind.min, IntKind.max, IntKind.signed, IntKind.bits]; omega⟩]
  have e1 : Tryd.prog.keyLits (d + 2) 34 [Value.int .u64 q.bi] = some [.int .u64 q.bi] := by
    unfold Program.keyLits
    rw [Tryd.underlying34]
    dsimp only
    rw [if_pos ⟨rfl, by simp [Lit.wf, IntKind.min, IntKind.max, IntKind.signed, IntKind.bits]; omega⟩]
  have e2 := lits_hash q.su q.s0.1 q.s0.2 d
  have e3 : (q.su.map (Value.int .u8)).take 32 = q.su.map (Value.int .u8) := List.take_of_length_le (by rw [List.length_map, q.s0.1]; exact Nat.le_refl _)
  unfold Program.keyLits
  rw [Tryd.underlying41]
  dsimp only
  rw [if_pos ⟨by rw [ptrRow_length q]; kernel_rfl, by simp⟩]
  unfold ptrRow
  simp [h1, h2, h3, e0, e1, e2, e3, ptrLits]
def kl (q : PtrV) : Lit := .string (keyBytes (ptrLits q))
theorem key_ptr (q : PtrV) : keyOf Tryd.prog 41 (.agg (ptrRow q).toArray) = some (kl q) := by
  have ht : ∃ d, Tryd.prog.types.size + 1 = d + 3 := ⟨Tryd.prog.types.size - 2, by rw [show Tryd.prog.types.size = Tryd.prog.types.size - 2 + 2 from of_decide_eq_true (by kernel_rfl)]; rfl⟩
  obtain ⟨d, hd⟩ := ht
  unfold keyOf
  rw [Tryd.underlying41]
  dsimp only
  rw [if_pos, hd]
  · show (Tryd.prog.keyLits (d + 3) 41 (ptrRow q).toArray.toList).map _ = _
    rw [show (ptrRow q).toArray.toList = ptrRow q from rfl, lits_ptr q d]
    rfl
  · rw [show Tryd.prog.keyType 41 = true by kernel_rfl, Bool.true_and]
    unfold Value.formed
    rw [Tryd.underlying41]
    simp only [List.size_toArray, ptrRow_length, show Tryd.prog.cellsOf 41 = 34 by kernel_rfl]
    rfl
theorem law_ptr : WideMaps.KeyLaw Tryd.prog 41 := deep_law_laid laidOut (m := 3) (by decide) (of_decide_eq_true (by kernel_rfl)) (by kernel_rfl) (by rw [Tryd.underlying41])
theorem keyed_ptr : Maps.Keyed Tryd.prog 41 := Maps.Keyed.of_law law_ptr
theorem kl_inj {p q : PtrV} (h : kl p = kl q) : p = q := by
  have := keyed_ptr.inj (key_ptr p) (h ▸ key_ptr q)
  injection this with e
  exact ptrRow_inj (by simpa using congrArg Array.toList e)
theorem eq_ptr (p q : PtrV) (w : World) : (Op.equalIn 10000 41 (.agg (ptrRow p).toArray) (.agg (ptrRow q).toArray)).run Tryd.prog w = .ok (decide (p = q)) w := by
  obtain ⟨r, h1, h2⟩ := run_equal_deep w (m := 3) (by decide) (show Tryd.prog.keyTypeAt 3 41 = true by kernel_rfl) (by rw [Tryd.underlying41]) (key_ptr p) (key_ptr q)
  have e : r = decide (p = q) := by
    by_cases h : p = q
    · subst h; simp [h2.2 rfl]
    · rw [decide_eq_false h]
      cases r with
      | false => rfl
      | true => exact absurd (kl_inj (h2.1 rfl)) h
  rw [← e]
  exact h1
/-- .. with the pointer that leads nowhere, written out (as the walk reckons it). -/
theorem eq_zero (p : PtrV) (w : World) : (Op.equalIn 10000 41 (.agg (ptrRow p).toArray) (.agg #[.int .u32 0, .int .u64 0, .int .u8 0, .int .u8 0, .int .u8 0, .int .u8 0, .int .u8 0, .int .u8 0, .int .u8 0, .int .u8 0, .int .u8 0, .int .u8 0, .int .u8 0, .int .u8 0, .int .u8 0, .int .u8 0, .int .u8 0, .int .u8 0, .int .u8 0, .int .u8 0, .int .u8 0, .int .u8 0, .int .u8 0, .int .u8 0, .int .u8 0, .int .u8 0, .int .u8 0, .int .u8 0, .int .u8 0, .int .u8 0, .int .u8 0, .int .u8 0, .int .u8 0, .int .u8 0])).run Tryd.prog w = .ok (decide (p = zeroPtr)) w := eq_ptr p zeroPtr w
end Go.Proofs.YtfgdddejpdjllaaDoor
