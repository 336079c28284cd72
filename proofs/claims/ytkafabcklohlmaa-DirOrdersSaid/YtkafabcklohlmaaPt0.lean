/-
  Pv: Pointers of layer 8 as plain values: how one lies in memory, comes in, is compared, is a map's key; the order among them.
  Pt: The small functions of layer 8: Null, Check, Put, Get, of the program and of the document's answer.
  Old: Readers whose bytes lie in blocks that were there ahead of something: Num and Hash, of the program and of the document's answer. (Written by tools/XOld.make.py.)
  Pg: Pointers read: Get, of the program and of the document's answer.
-/
import Derived.Test.YtkafabcklohlmaaCod0
import Derived.Test.YtkafabcklohlmaaCtr0
import Derived.DeepKeys4
import Derived.Maps.Keyed
namespace Go.Proofs.Ytkafabcklohlmaa
set_option maxRecDepth 4000
open Go.ChangeShapes Go.WideShapes Go.ChangeAt Go.RowKit

/-- A pointer: address, birth, sum, each in its bounds. -/
structure PtrV where
  ad : Int
  bi : Int
  su : List Int
  a0 : 0 ≤ ad ∧ ad ≤ 4294967295
  b0 : 0 ≤ bi ∧ bi ≤ 18446744073709551615
  s0 : su.length = 32 ∧ Byt su
theorem PtrV.same {p q : PtrV} (h1 : p.ad = q.ad) (h2 : p.bi = q.bi) (h3 : p.su = q.su) : p = q := by
  cases p
  cases q
  simp only at h1 h2 h3
  subst h1 h2 h3
  rfl
instance : DecidableEq PtrV := fun p q => if h : p.ad = q.ad ∧ p.bi = q.bi ∧ p.su = q.su then isTrue (PtrV.same h.1 h.2.1 h.2.2) else isFalse (fun e => h (by subst e; exact ⟨rfl, rfl, rfl⟩))
theorem byt_zeros8 (n : Nat) : Byt (List.replicate n 0) := by
  intro z hz
  obtain ⟨_, rfl⟩ := List.mem_replicate.1 hz
  omega
def zeroPtr : PtrV := ⟨0, 0, List.replicate 32 0, by decide, by decide, by decide, byt_zeros8 32⟩
instance : Inhabited PtrV := ⟨zeroPtr⟩
def ptrRow (q : PtrV) : List Value := .int .u32 q.ad :: .int .u64 q.bi :: q.su.map (Value.int .u8)
theorem ptrRow_length (q : PtrV) : (ptrRow q).length = 34 := by simp [ptrRow, q.s0.1]
theorem ptrRow_inj {p q : PtrV} (h : ptrRow p = ptrRow q) : p = q := by
  unfold ptrRow at h
  simp only [List.cons.injEq, Value.int.injEq, true_and] at h
  refine PtrV.same h.1 h.2.1 (List.map_inj_right (fun x y e => ?_) |>.1 h.2.2)
  injection e
theorem ptrRow_one (q : PtrV) : (ptrRow q).toArray.all (·.oneCell') = true := by
  apply all_oneCell_toArray
  intro v hv
  simp only [ptrRow, List.mem_cons, List.mem_map] at hv
  rcases hv with rfl | rfl | ⟨z, _, rfl⟩ <;> rfl
theorem ptrRow_cells1 (q : PtrV) : ∀ v ∈ ptrRow q, v.oneCell' = true := by
  intro v hv
  simp only [ptrRow, List.mem_cons, List.mem_map] at hv
  rcases hv with rfl | rfl | ⟨z, _, rfl⟩ <;> rfl
theorem size_ptr (q : PtrV) : (Try.prog.info? 36).map (·.size) = some (ptrRow q).length := by
  rw [show (Try.prog.info? 36).map (·.size) = some 34 by kernel_rfl, ptrRow_length q]
theorem size_ptrA (q : PtrV) : (Try.prog.info? 36).map (·.size) = some (ptrRow q).toArray.size := by
  rw [size_ptr q]; simp
theorem zero_ptr (W : World) : (zeroValue 36).run Try.prog W = .ok (.agg (ptrRow zeroPtr).toArray) W := by kernel_rfl
theorem info_ptr : (Try.prog.info? 36).map (fun i => (i.zero, i.size, i.bytes)) = some (some (.agg (ptrRow zeroPtr).toArray), 34, 48) := by kernel_rfl
/-- What a block or a row that holds one gives. -/
theorem ptr_range {w : World} {b o : Nat} {q : PtrV} (h : w.rangeAt b o (ptrRow q)) :
    w.cell? ⟨b, o, none⟩ = some (.int .u32 q.ad) ∧ w.cell? ⟨b, o + 1, none⟩ = some (.int .u64 q.bi) ∧ w.rangeAt b (o + 2) (q.su.map (Value.int .u8)) := by
  refine ⟨h 0 _ rfl, h 1 _ rfl, fun j v hj => ?_⟩
  have := h (j + 2) v (by simpa [ptrRow] using hj)
  rwa [show o + (j + 2) = o + 2 + j by omega] at this
theorem range_of_row {w : World} {b t : Nat} {fr : Nat × Nat} {cs : List Value} (h : w.heap[b]? = some (.cells cs.toArray t fr)) : w.rangeAt b 0 cs := by
  intro j v hj
  rw [Nat.zero_add, cell_of_row _ _ _ _ _ _ h]
  simpa using hj
theorem ptr_at {w : World} {b t : Nat} {fr : Nat × Nat} {q : PtrV} (h : w.heap[b]? = some (.cells (ptrRow q).toArray t fr)) :
    w.cell? ⟨b, 0, none⟩ = some (.int .u32 q.ad) ∧ w.cell? ⟨b, 1, none⟩ = some (.int .u64 q.bi) ∧ w.rangeAt b 2 (q.su.map (Value.int .u8)) := by
  have := ptr_range (range_of_row h)
  simpa using this

/-! ### how one comes in -/
def RPtrV : World → PtrV → List Value → Prop := fun _ q cs => cs = ptrRow q
theorem opn_ptr : Opn 36 RPtrV := by
  intro H enc W fuel cs y h hw
  obtain ⟨xs, k, _, hx, hlen, hxl, hfs⟩ := DataW.trod_struct Try.underlying36 h
  rw [show Try.prog.cellsOf 36 = 34 by kernel_rfl] at hlen
  have hxk : xs.length = 3 := hxl
  have hd := congrArg Prod.fst hx
  dsimp only at hd
  clear hx hxl
  match xs, hxk with
  | [y0, y1, y2], _ =>
    have e0 : Try.prog.cellsOf 31 = 1 := by kernel_rfl
    have e1 : Try.prog.cellsOf 32 = 1 := by kernel_rfl
    have e2 : Try.prog.cellsOf 34 = 32 := by kernel_rfl
    have hw2 : ∀ n ∈ DataW.weightsEach Try.prog [31, 32, 34] [y0.1, y1.1, y2.1], n ≤ reachBytes := fun n hn => hw n (by rw [hd]; simp only [DataW.weights, Try.underlying36]; exact hn)
    have g0 : DataW.trod enc Try.prog W 0 (fun _ => true) true k 31 ((cs.drop 0).take 1) = some y0 := by have q := hfs 0 _ rfl; rw [← e0]; exact q
    have g1 : DataW.trod enc Try.prog W 0 (fun _ => true) true k 32 ((cs.drop 1).take 1) = some y1 := by have q := hfs 1 _ rfl; rw [← e1]; exact q
    have g2 : DataW.trod enc Try.prog W 0 (fun _ => true) true k 34 ((cs.drop 2).take 32) = some y2 := by have q := hfs 2 _ rfl; rw [← e2]; exact q
    obtain ⟨a0, r0, l0, h0⟩ := opn_int .u32 _ _ Try.underlying31 wf_u32 _ _ _ _ _ _ g0 (fun n hn => hw2 n (DataW.weights_mem_each (j := 0) rfl rfl n hn))
    obtain ⟨a1, r1, l1, h1⟩ := opn_int .u64 _ _ Try.underlying32 wf_u64 _ _ _ _ _ _ g1 (fun n hn => hw2 n (DataW.weights_mem_each (j := 1) rfl rfl n hn))
    obtain ⟨a2, r2, l2, z2⟩ := opn_row Try.underlying34 e2 _ _ _ _ _ _ g2 (fun n hn => hw2 n (DataW.weights_mem_each (j := 2) rfl rfl n hn))
    have hcs : cs = (cs.drop 0).take 1 ++ ((cs.drop 1).take 1 ++ (cs.drop 2).take 32) := by
      conv => lhs; rw [← List.drop_zero (l := cs), lcut cs 0 1, lcut cs (0 + 1) 1, lcut cs (0 + 1 + 1) 32]
      rw [List.drop_eq_nil_of_le (show cs.length ≤ 0 + 1 + 1 + 32 by omega), List.append_nil]
    rw [r0, r1, r2] at hcs
    refine ⟨⟨a0, a1, a2, ⟨l0, h0⟩, ⟨l1, h1⟩, l2, z2⟩, ?_⟩
    unfold RPtrV
    rw [hcs]
    rfl
abbrev Ptrs (w : World) (x : List PtrV) (a : Option Addr) (n c : Nat) : Prop := SlR RPtrV 34 w x a n c
theorem built_ptr (parts : List (Nat × Value)) : Try.prog.built 36 parts = Instr.fill (#[(0, 1), (1, 1), (2, 32)][·]?) (ptrRow zeroPtr).toArray parts := by kernel_rfl
theorem fill_ptr (q : PtrV) : Instr.fill (#[(0, 1), (1, 1), (2, 32)][·]?) (ptrRow zeroPtr).toArray [(0, .int .u32 q.ad), (1, .int .u64 q.bi), (2, .agg (i8s q.su))] = some (ptrRow q).toArray := by
  have hq := q.s0.1
  rw [fill_cons _ _ (Value.int .u32 q.ad :: Value.int .u64 0 :: (List.replicate 32 0).map (Value.int .u8)).toArray #[.int .u32 q.ad] (.int .u32 q.ad) 0 0 1 _ rfl rfl rfl (by simp [ptrRow_length]) (fun i => by
    unfold ptrRow zeroPtr
    cases i with
    | zero => simp
    | succ i => simp)]
  rw [fill_cons _ _ (Value.int .u32 q.ad :: Value.int .u64 q.bi :: (List.replicate 32 0).map (Value.int .u8)).toArray #[.int .u64 q.bi] (.int .u64 q.bi) 1 1 1 _ rfl rfl rfl (by simp) (fun i => by
    match i with
    | 0 => simp
    | 1 => simp
    | i + 2 =>
      rw [if_neg (by simp)]
      simp)]
  rw [fill_cons _ _ (ptrRow q).toArray (i8s q.su) (.agg (i8s q.su)) 2 2 32 _ rfl rfl (by rw [i8s_size, hq]) (by rw [i8s_size, hq]; simp) (fun i => by
    unfold ptrRow i8s
    match i with
    | 0 => simp
    | 1 => simp
    | i + 2 =>
      by_cases h : i < q.su.length
      · rw [if_pos (by simp; omega)]; simp
      · rw [if_neg (by simp only [List.size_toArray, List.length_map]; omega)]
        simp only [List.getElem?_toArray, List.getElem?_cons_succ]
        rw [List.getElem?_eq_none (by simp; omega), List.getElem?_eq_none (by simp; omega)])]
  rfl
theorem build_ptr (q : PtrV) (W : World) : (Instr.build 36 #[(0, .int .u32 q.ad), (1, .int .u64 q.bi), (2, .agg (i8s q.su))]).run Try.prog W = .ok (.agg (ptrRow q).toArray) W :=
  run_build W 36 _ _ (by rw [built_ptr]; exact fill_ptr q)
theorem build_none (W : World) : (Instr.build 36 #[]).run Try.prog W = .ok (.agg (ptrRow zeroPtr).toArray) W :=
  run_build W 36 _ _ (by rw [built_ptr]; rfl)

theorem wpList_build_run {P : Program} {ops : Array Oper} {rest : List Oper} {o : Oper} {a : Act} {w : World} {Q : Exit → Act → World → Prop} (hgd : o.guard = none) (t : TypeId) (parts : Array (Nat × Operand)) (ho : o.op = .build t parts) (vs : Array (Nat × Value)) (hv : (parts.map fun (i, x) => (i, a.eval x)) = vs)
    (v : Value) (hr : (Instr.build t vs).run P w = .ok v w) (h : wpList P ops Q rest (a.put o.dst v) w) : wpList P ops Q (o :: rest) a w :=
  wpList_plain hgd fun _ hK => by
    subst hv
    unfold Oper.wp execOp
    simp only [ho, Sem.run_bind, hr, Result.andThen_ok]
    exact hK _ _ h

/-! ### as a map's key, and compared -/
def ptrLits (q : PtrV) : List Lit := .int .u32 q.ad :: .int .u64 q.bi :: q.su.map (Lit.int .u8)
theorem mapM_range {β : Type} (f : Nat → Option β) (g : Nat → β) : ∀ n, (∀ i, i < n → f i = some (g i)) → (List.range n).mapM f = some ((List.range n).map g)
  | 0, _ => rfl
  | n + 1, h => by
    rw [List.range_succ, List.mapM_append, mapM_range f g n (fun i hi => h i (by omega))]
    simp [h n (by omega)]
theorem flat_singles {α : Type} (d : α) (l : List α) : ((List.range l.length).map fun i => [l.getD i d]).flatten = l := by
  have h : ∀ r : List Nat, (r.map fun i => [l.getD i d]).flatten = r.map fun i => l.getD i d := by
    intro r
    induction r with
    | nil => rfl
    | cons a r ih => rw [List.map_cons, List.flatten_cons, ih]; rfl
  rw [h]
  apply List.ext_getElem?
  intro i
  rw [List.getElem?_map]
  by_cases h : i < l.length
  · rw [List.getElem?_range h]
    simp [List.getElem?_eq_getElem h, List.getD]
  · rw [List.getElem?_eq_none (by simpa using h), List.getElem?_eq_none (by omega)]
    rfl
theorem lits_hash (l : List Int) (hl : l.length = 32) (hb : Byt l) (d : Nat) : Try.prog.keyLits (d + 2) 34 (l.map (Value.int .u8)) = some (l.map (Lit.int .u8)) := by
  unfold Program.keyLits
  rw [Try.underlying34]
  dsimp only
  rw [if_pos (by rw [List.length_map, hl]; kernel_rfl), show Try.prog.cellsOf 5 = 1 by kernel_rfl]
  rw [mapM_range _ (fun i => [(l.map (Lit.int .u8)).getD i (.int .u8 0)]) 32 ?_]
  · have := flat_singles (.int .u8 0) (l.map (Lit.int .u8))
    rw [List.length_map, hl] at this
    rw [Option.map_some, this]
  · intro i hi
    have hx : i < l.length := by omega
    have e : ((l.map (Value.int .u8)).drop (i * 1)).take 1 = [Value.int .u8 l[i]] := by
      rw [Nat.mul_one, ← List.map_drop, ← List.map_take, List.drop_eq_getElem_cons hx]
      rfl
    have hz := hb l[i] (List.getElem_mem hx)
    rw [e]
    unfold Program.keyLits
    rw [Try.underlying5]
    dsimp only
    rw [if_pos ⟨rfl, by simp [Lit.wf, IntKind.min, IntKind.max, IntKind.signed, IntKind.bits]; omega⟩]
    simp [hx]
theorem lits_ptr (q : PtrV) (d : Nat) : Try.prog.keyLits (d + 3) 36 (ptrRow q) = some (ptrLits q) := by
  have h1 : Try.prog.cellsOf 31 = 1 := by kernel_rfl
  have h2 : Try.prog.cellsOf 32 = 1 := by kernel_rfl
  have h3 : Try.prog.cellsOf 34 = 32 := by kernel_rfl
  have ha := q.a0
  have hb := q.b0
  have e0 : Try.prog.keyLits (d + 2) 31 [Value.int .u32 q.ad] = some [.int .u32 q.ad] := by
    unfold Program.keyLits
    rw [Try.underlying31]
    dsimp only
    rw [if_pos ⟨rfl, by simp [Lit.wf, IntKind.min, IntKind.max, IntKind.signed, IntKind.bits]; omega⟩]
  have e1 : Try.prog.keyLits (d + 2) 32 [Value.int .u64 q.bi] = some [.int .u64 q.bi] := by
    unfold Program.keyLits
    rw [Try.underlying32]
    dsimp only
    rw [if_pos ⟨rfl, by simp [Lit.wf, IntKind.min, IntKind.max, IntKind.signed, IntKind.bits]; omega⟩]
  have e2 := lits_hash q.su q.s0.1 q.s0.2 d
  have e3 : (q.su.map (Value.int .u8)).take 32 = q.su.map (Value.int .u8) := List.take_of_length_le (by rw [List.length_map, q.s0.1]; exact Nat.le_refl _)
  unfold Program.keyLits
  rw [Try.underlying36]
  dsimp only
  rw [if_pos ⟨by rw [ptrRow_length q]; kernel_rfl, by simp⟩]
  unfold ptrRow
  simp [h1, h2, h3, e0, e1, e2, e3, ptrLits]
def kl (q : PtrV) : Lit := .string (keyBytes (ptrLits q))
theorem key_ptr (q : PtrV) : keyOf Try.prog 36 (.agg (ptrRow q).toArray) = some (kl q) := by
  have ht : ∃ d, Try.prog.types.size + 1 = d + 3 := ⟨Try.prog.types.size - 2, by rw [show Try.prog.types.size = Try.prog.types.size - 2 + 2 from of_decide_eq_true (by kernel_rfl)]; rfl⟩
  obtain ⟨d, hd⟩ := ht
  unfold keyOf
  rw [Try.underlying36]
  dsimp only
  rw [if_pos, hd]
  · show (Try.prog.keyLits (d + 3) 36 (ptrRow q).toArray.toList).map _ = _
    rw [show (ptrRow q).toArray.toList = ptrRow q from rfl, lits_ptr q d]
    rfl
  · rw [show Try.prog.keyType 36 = true by kernel_rfl, Bool.true_and]
    unfold Value.formed
    rw [Try.underlying36]
    simp only [List.size_toArray, ptrRow_length, show Try.prog.cellsOf 36 = 34 by kernel_rfl]
    rfl
theorem law_ptr : WideMaps.KeyLaw Try.prog 36 := deep_law_laid laidOut (m := 3) (by decide) (of_decide_eq_true (by kernel_rfl)) (by kernel_rfl) (by rw [Try.underlying36])
theorem keyed_ptr : Maps.Keyed Try.prog 36 := Maps.Keyed.of_law law_ptr
theorem kl_inj {p q : PtrV} (h : kl p = kl q) : p = q := by
  have := keyed_ptr.inj (key_ptr p) (h ▸ key_ptr q)
  injection this with e
  exact ptrRow_inj (by simpa using congrArg Array.toList e)
theorem eq_ptr (p q : PtrV) (w : World) : (Op.equalIn 10000 36 (.agg (ptrRow p).toArray) (.agg (ptrRow q).toArray)).run Try.prog w = .ok (decide (p = q)) w := by
  obtain ⟨r, h1, h2⟩ := run_equal_deep w (m := 3) (by decide) (show Try.prog.keyTypeAt 3 36 = true by kernel_rfl) (by rw [Try.underlying36]) (key_ptr p) (key_ptr q)
  have e : r = decide (p = q) := by
    by_cases h : p = q
    · subst h; simp [h2.2 rfl]
    · rw [decide_eq_false h]
      cases r with
      | false => rfl
      | true => exact absurd (kl_inj (h2.1 rfl)) h
  rw [← e]
  exact h1
/-- .. with the pointer that leads nowhere, written out (as the walk reckons it). -/
theorem eq_zero (p : PtrV) (w : World) : (Op.equalIn 10000 36 (.agg (ptrRow p).toArray) (.agg #[.int .u32 0, .int .u64 0, .int .u8 0, .int .u8 0, .int .u8 0, .int .u8 0, .int .u8 0, .int .u8 0, .int .u8 0, .int .u8 0, .int .u8 0, .int .u8 0, .int .u8 0, .int .u8 0, .int .u8 0, .int .u8 0, .int .u8 0, .int .u8 0, .int .u8 0, .int .u8 0, .int .u8 0, .int .u8 0, .int .u8 0, .int .u8 0, .int .u8 0, .int .u8 0, .int .u8 0, .int .u8 0, .int .u8 0, .int .u8 0, .int .u8 0, .int .u8 0, .int .u8 0, .int .u8 0])).run Try.prog w = .ok (decide (p = zeroPtr)) w := eq_ptr p zeroPtr w
end Go.Proofs.Ytkafabcklohlmaa
namespace Go.Proofs.Ytkafabcklohlmaa
set_option maxRecDepth 4000
open Go.ChangeShapes Go.WideShapes Go.ChangeAt Go.RowKit

set_option maxHeartbeats 800000 in
theorem pnull_any (q : PtrV) (w : World) :
    Calls Try.prog 83 #[.agg (ptrRow q).toArray] w fun e w' => e = .returned (.bool (q.ad == 0)) ∧ Below w.heap.size w w' := by
  have hb := (Below.refl w.heap.size w).alloc (Nat.le_refl _) (.cells (ptrRow q).toArray 36)
  obtain ⟨c0, _, _⟩ := ptr_at (heap_alloc_new w (.cells (ptrRow q).toArray 36))
  have HB := Lib.hid hb
  clear hb
  obtain ⟨ad, bi, su, _, _, _⟩ := q
  dsimp only at c0 ⊢
  generalize (ptrRow _).toArray = AR at *
  go_enter Try.func83, Try.ntmps83
  go_wp2_with fail
  go_ret
  exact ⟨rfl, HB.out⟩
/-- Whether a pointer may be, on a device of so many sectors. -/
def mayB (q : PtrV) (n : Int) : Bool := if q.ad = 0 then decide (q = zeroPtr) else decide (2 ≤ q.ad) && decide (q.ad < n) && decide (q.bi ≠ 0)
def checkE (q : PtrV) (n : Int) : Int := if mayB q n then 0 else 4
set_option maxRecDepth 100000 in
set_option maxHeartbeats 1600000 in
theorem pmay_any (q : PtrV) (n : Int) (w : World) :
    Calls Try.prog 75 #[.agg (ptrRow q).toArray, .int .i64 n] w fun e w' => e = .returned (.bool (mayB q n)) ∧ Below w.heap.size w w' := by
  have hb := (Below.refl w.heap.size w).alloc (Nat.le_refl _) (.cells (ptrRow q).toArray 36)
  have hA := heap_alloc_new w (.cells (ptrRow q).toArray 36)
  obtain ⟨c0, c1, _⟩ := ptr_at hA
  have HB := Lib.hid hb
  have HA := Lib.hid hA
  have HN := Lib.hid (fun W => pnull_any q W)
  have heq := eq_zero q
  have SE := Lib.hid (size_ptrA q)
  have hq := q.a0
  have hm : mayB q n = if q.ad = 0 then decide (q = zeroPtr) else decide (2 ≤ q.ad) && decide (q.ad < n) && decide (q.bi ≠ 0) := rfl
  generalize mayB q n = mb at *
  generalize hD : decide (q = zeroPtr) = dz at *
  clear hb hA hD
  generalize (ptrRow q).toArray = AR at *
  generalize q.ad = ad at *
  generalize q.bi = bi at *
  have hw : IntKind.i64.wrap ad = ad := IntWalk.i64_in _ (by omega)
  by_cases h0 : ad = 0
  · rw [if_pos h0] at hm
    subst hm
    have HE : (ad == 0) = true := by simpa using h0
    clear h0 c0 c1 hq hw
    go_enter Try.func75, Try.ntmps75
    go_wp2_with (first
      | (with_reducible refine wpList_load_row (o := ⟨some 5, _, _, _, _, _⟩) rfl 36 _ rfl w.heap.size rfl 36 AR (0, 0) _ HA.out Try.underlying36 rfl SE.out ?_))
    refine (HN.out _).mono ?_
    rintro e w2 ⟨rfl, hb2⟩
    rw [HE]
    have HB2 := Lib.hid (HB.out.trans (hb2.mono (by simp)))
    have HA2 := Lib.hid ((hb2.block w.heap.size (by simp)).trans HA.out)
    clear hb2
    go_wp2_with (first
      | (with_reducible refine wpList_load_row (o := ⟨some 7, _, _, _, _, _⟩) rfl 36 _ rfl w.heap.size rfl 36 AR (0, 0) _ HA2.out Try.underlying36 rfl SE.out ?_))
    go_ret
    exact ⟨rfl, HB2.out⟩
  · rw [if_neg h0] at hm
    have HE : (ad == 0) = false := by simpa using h0
    clear h0 heq
    go_enter Try.func75, Try.ntmps75
    go_wp2_with (first
      | (with_reducible refine wpList_load_row (o := ⟨some 5, _, _, _, _, _⟩) rfl 36 _ rfl w.heap.size rfl 36 AR (0, 0) _ HA.out Try.underlying36 rfl SE.out ?_))
    refine (HN.out _).mono ?_
    rintro e w2 ⟨rfl, hb2⟩
    rw [HE]
    have c02 : w2.cell? ⟨w.heap.size, 0, none⟩ = some (.int .u32 ad) := (hb2.cell (by simp)).trans c0
    have c12 : w2.cell? ⟨w.heap.size, 1, none⟩ = some (.int .u64 bi) := (hb2.cell (by simp)).trans c1
    have HB2 := Lib.hid (HB.out.trans (hb2.mono (by simp)))
    have HM := Lib.hid hm
    clear hb2 hq c0 c1 hm HA
    go_wp2_with fail
    all_goals (go_ret; refine ⟨congrArg (fun b => Ending.returned (Value.bool b)) ?_, HB2.out⟩; rw [HM.out, Bool.eq_iff_iff]; simp; omega)
set_option maxRecDepth 100000 in
set_option maxHeartbeats 1600000 in
theorem pcheck_any (q : PtrV) (n : Int) (w : World) :
    Calls Try.prog 50 #[.agg (ptrRow q).toArray, .int .i64 n] w fun e w' => e = .returned (.int .i64 (checkE q n)) ∧ Below w.heap.size w w' := by
  have hb := (Below.refl w.heap.size w).alloc (Nat.le_refl _) (.cells (ptrRow q).toArray 36)
  have hA := heap_alloc_new w (.cells (ptrRow q).toArray 36)
  have HB := Lib.hid hb
  have HA := Lib.hid hA
  have HN := Lib.hid (fun W => pmay_any q n W)
  have SE := Lib.hid (size_ptrA q)
  have HC := Lib.hid (show checkE q n = if mayB q n then 0 else 4 from rfl)
  generalize checkE q n = ce at *
  generalize mayB q n = mb at *
  clear hb hA
  generalize (ptrRow q).toArray = AR at *
  go_enter Try.func50, Try.ntmps50
  go_wp2_with (first
    | (with_reducible refine wpList_load_row (o := ⟨some 5, _, _, _, _, _⟩) rfl 36 _ rfl w.heap.size rfl 36 AR (0, 0) _ HA.out Try.underlying36 rfl SE.out ?_))
  refine (HN.out _).mono ?_
  rintro e w2 ⟨rfl, hb2⟩
  have HB2 := Lib.hid (HB.out.trans (hb2.mono (by simp)))
  clear hb2 HA HB SE HN
  cases mb with
  | true =>
    have HC2 := Lib.hid (show ce = 0 from HC.out)
    clear HC
    go_wp2_with fail
    go_ret
    exact ⟨by rw [HC2.out]; rfl, HB2.out⟩
  | false =>
    have HC2 := Lib.hid (show ce = 4 from HC.out)
    clear HC
    go_wp2_with fail
    go_ret
    exact ⟨by rw [HC2.out]; rfl, HB2.out⟩
set_option maxRecDepth 100000 in
set_option maxHeartbeats 1600000 in
theorem rcheck_any (q : PtrV) (n : Int) (h63 : n ≤ 9223372036854775807) (w : World) :
    Calls Try.prog 52 #[.agg (ptrRow q).toArray, .int .i64 n] w fun e w' => e = .returned (.int .i64 (checkE q n)) ∧ Below w.heap.size w w' := by
  have hb := (Below.refl w.heap.size w).alloc (Nat.le_refl _) (.cells (ptrRow q).toArray 36)
  have hA := heap_alloc_new w (.cells (ptrRow q).toArray 36)
  obtain ⟨c0, c1, _⟩ := ptr_at hA
  have HB := Lib.hid hb
  have HA := Lib.hid hA
  have heq := eq_zero q
  have SE := Lib.hid (size_ptrA q)
  have hq := q.a0
  have hm : checkE q n = if q.ad = 0 then (if decide (q = zeroPtr) = true then 0 else 4) else if decide (2 ≤ q.ad) && decide (q.ad < n) && decide (q.bi ≠ 0) then 0 else 4 := by
    unfold checkE mayB
    by_cases h : q.ad = 0
    · rw [if_pos h, if_pos h]
    · rw [if_neg h, if_neg h]
  generalize checkE q n = ce at *
  generalize hD : decide (q = zeroPtr) = dz at *
  clear hb hA hD
  generalize (ptrRow q).toArray = AR at *
  generalize q.ad = ad at *
  generalize q.bi = bi at *
  have hw : IntKind.u64.wrap ad = ad := IntWalk.u64_in _ (by omega)
  by_cases h0 : ad = 0
  · rw [if_pos h0] at hm
    have HM := Lib.hid hm
    have HE : (ad == 0) = true := by simpa using h0
    subst h0
    clear c1 hq hw hm HE
    go_enter Try.func52, Try.ntmps52
    go_wp2_with (first
      | (with_reducible refine wpList_load_row (o := ⟨some 8, _, _, _, _, _⟩) rfl 36 _ rfl w.heap.size rfl 36 AR (0, 0) _ HA.out Try.underlying36 rfl SE.out ?_))
    all_goals (go_ret; refine ⟨?_, HB.out⟩; rw [HM.out]; simp [*])
  · rw [if_neg h0] at hm
    have HM := Lib.hid hm
    have HE : (ad == 0) = false := by simpa using h0
    have hbz : decide (ad = 0) = false := by simpa using h0
    clear h0 heq hm
    by_cases hn : n < 0
    · clear hw hq
      go_enter Try.func52, Try.ntmps52
      go_wp2_with fail
      all_goals (go_ret; refine ⟨?_, HB.out⟩; rw [HM.out]; clear HM HB HA SE c0 c1 HE hbz; split <;> first | rfl | (exfalso; simp_all; done) | (exfalso; simp_all; omega))
    · have hwn : IntKind.u64.wrap n = n := IntWalk.u64_in _ (by omega)
      clear hq
      go_enter Try.func52, Try.ntmps52
      go_wp2_with fail
      all_goals (go_ret; refine ⟨?_, HB.out⟩; rw [HM.out]; clear HM HB HA SE c0 c1 HE hbz; split <;> first | rfl | (exfalso; simp_all; done) | (exfalso; simp_all; omega))

/-! ### as bytes -/
def ptrB (q : PtrV) : List Int := putI q.ad 4 ++ (putI q.bi 8 ++ q.su)
theorem ptrB_length (q : PtrV) : (ptrB q).length = 44 := by simp [ptrB, putI_length, q.s0.1]
theorem ptrB_byt (q : PtrV) : Byt (ptrB q) := by
  intro z hz
  unfold ptrB at hz
  simp only [List.mem_append] at hz
  rcases hz with hz | hz | hz
  · exact putI_byt _ _ z hz
  · exact putI_byt _ _ z hz
  · exact q.s0.2 z hz
theorem numW_fit (z : Int) (k : Nat) (hk : k ≤ 8) (h1 : z < 2 ^ (8 * k)) : numW z (k : Int) = (putI z k, 0) := by
  unfold numW
  rw [if_neg (by simp; omega)]
  simp
theorem WStep.same {w w' : World} {P B k : Nat} {v : Value} {l : List Int} (s : WStep w w' P B v l) (hk : k < w.heap.size) (h1 : k ≠ P) (h2 : v.ownBlock ≠ some k) : w'.heap[k]? = w.heap[k]? := by
  obtain ⟨_, _, t, _⟩ := s
  refine t.block k hk ?_
  simp only [List.mem_cons, Option.mem_toList]
  rintro (e | e)
  · exact h1 e
  · exact h2 e
theorem own_small {w : World} {B n k : Nat} {e : TypeId} {v : Value} {xs : List Value} (h : w.ownsRow B e k v n xs) : v.ownBlock ≠ some w.heap.size := by
  intro e
  have := (h.lt _ e).2
  omega
set_option maxRecDepth 100000 in
set_option maxHeartbeats 1600000 in
theorem pput_any (P B : Nat) (v : Value) (l : List Int) (q : PtrV) (w : World) (h : WO w P B v l) (h63 : l.length ≤ 140737488100000) (hB : B ≤ w.heap.size) :
    Calls Try.prog 41 #[.pointer (some ⟨P, 0, none⟩), .agg (ptrRow q).toArray] w fun e w' => e = .returned (.int .i64 0) ∧ WStep w w' P B v (l ++ ptrB q) := by
  have hb := (Below.refl w.heap.size w).alloc (Nat.le_refl _) (.cells (ptrRow q).toArray 36)
  have hA := heap_alloc_new w (.cells (ptrRow q).toArray 36)
  have hT : w.heap.size < (w.alloc (.cells (ptrRow q).toArray 36)).heap.size := by simp
  have hv := own_small h.own
  have hP : w.heap.size ≠ P := by have := h.lt; omega
  have h1 := h.below hb
  have hB1 := Nat.le_trans hB hb.size
  have ha := q.a0
  have hbi := q.b0
  have HN1 := Lib.hid (wnum_any P B v l q.ad 4 _ h1 ha.1 (by omega) hB1)
  rw [show numW q.ad 4 = (putI q.ad 4, 0) from numW_fit q.ad 4 (by decide) (by omega)] at HN1
  have HX := Lib.hid (show ∀ w2, WStep (w.alloc (.cells (ptrRow q).toArray 36)) w2 P B v (l ++ putI q.ad 4) → w2.heap[w.heap.size]? = some (.cells (ptrRow q).toArray 36 (0, 0)) ∧ (w.alloc (.cells (ptrRow q).toArray 36)).heap.size ≤ w2.heap.size from
    fun w2 s => ⟨(s.same hT hP hv).trans hA, by obtain ⟨_, _, t, _⟩ := s; exact t.size⟩)
  have SH := Lib.hid (show (Try.prog.info? 34).map (·.size) = some (q.su.map (Value.int .u8)).length by rw [show (Try.prog.info? 34).map (·.size) = some 32 by kernel_rfl, List.length_map, q.s0.1])
  have HB := Lib.hid hb
  have HVP := Lib.hid (And.intro hP (And.intro hv (And.intro hT (And.intro h63 hB1))))
  obtain ⟨c0, _, _⟩ := ptr_at hA
  have hw : IntKind.u64.wrap q.ad = q.ad := IntWalk.u64_in _ (by omega)
  have HQ := Lib.hid (And.intro hbi q.s0)
  have HE := Lib.hid (show ptrB q = putI q.ad 4 ++ (putI q.bi 8 ++ q.su) from rfl)
  have HAT := Lib.hid (fun (W : World) (t : Nat) (h : W.heap[w.heap.size]? = some (.cells (ptrRow q).toArray t (0, 0))) => ptr_at h)
  clear h hA hT hv hP h1 hB1 hbi hb h63 hB
  generalize ptrB q = PB at *
  generalize (ptrRow q).toArray = AR at *
  generalize q.ad = ad at *
  generalize q.bi = bi at *
  generalize q.su = su at *
  clear ha
  go_enter Try.func41, Try.ntmps41
  go_wp2_with fail
  refine HN1.out.mono ?_
  rintro e w2 ⟨rfl, s1⟩
  obtain ⟨g2, hs2⟩ := HX.out w2 s1
  obtain ⟨v1, o1, t1, n1⟩ := s1
  have HN2 := Lib.hid (wnum_any P B v1 _ bi 8 w2 o1 HQ.out.1.1 (by rw [List.length_append, putI_length]; have := HVP.out.2.2.2.1; omega) (Nat.le_trans HVP.out.2.2.2.2 hs2))
  rw [show numW bi 8 = (putI bi 8, 0) from numW_fit bi 8 (by decide) (by have := HQ.out.1.2; omega)] at HN2
  have hv1 : v1.ownBlock ≠ some w.heap.size := by
    rcases n1 with e | ⟨g, e, hg⟩
    · rw [e]; exact HVP.out.2.1
    · rw [e]; intro e2; have := HVP.out.2.2.1; simp only [Option.some.injEq] at e2; omega
  have G2 := Lib.hid g2
  obtain ⟨_, c1, _⟩ := HAT.out w2 _ g2
  have S1 := Lib.hid (And.intro t1 (And.intro n1 hv1))
  have SZ2 := Lib.hid hs2
  clear g2 hs2 o1 t1 n1 hv1 HN1 HX c0 hw
  go_wp2_with fail
  refine HN2.out.mono ?_
  rintro e w3 ⟨rfl, s2⟩
  have g3 := (s2.same (Nat.lt_of_lt_of_le HVP.out.2.2.1 SZ2.out) HVP.out.1 S1.out.2.2).trans G2.out
  obtain ⟨v2, o2, t2, n2⟩ := s2
  have HN3 := Lib.hid (whash_any P B v2 _ su w3 o2 HQ.out.2.1 HQ.out.2.2 (by rw [List.length_append, List.length_append, putI_length, putI_length]; have := HVP.out.2.2.2.1; omega) (Nat.le_trans HVP.out.2.2.2.2 (Nat.le_trans SZ2.out t2.size)))
  have HRG := Lib.hid (HAT.out w3 _ g3).2.2
  have S2 := Lib.hid (And.intro t2 n2)
  clear g3 o2 t2 n2 c1 HN2 G2 HAT
  go_wp2_with (first
    | (with_reducible refine wpList_load_mid (op := ⟨some 18, _, _, _, _, _⟩) rfl 34 _ rfl w.heap.size 2 rfl (su.map (Value.int .u8)) _ HRG.out Try.underlying34 rfl SH.out ?_))
  have HN3' := HN3.out
  unfold i8s at HN3'
  refine HN3'.mono ?_
  rintro e w4 ⟨rfl, s3⟩
  have HS := Lib.hid ((wstep_trans S1.out.1 S1.out.2.1 (wstep_trans S2.out.1 S2.out.2 s3)).of_below HB.out)
  clear s3 HN3 HRG HN3'
  go_wp2_with fail
  go_ret
  refine ⟨rfl, ?_⟩
  rw [HE.out, ← List.append_assoc, ← List.append_assoc]
  exact HS.out
theorem wl_ptr (w0 w : World) (P : Nat) (l : List Int) (q : PtrV) (h : WL w0 w P l) (h63 : l.length ≤ 140737488100000) :
    Calls Try.prog 41 #[.pointer (some ⟨P, 0, none⟩), .agg (ptrRow q).toArray] w fun e w' => e = .returned (.int .i64 0) ∧ WL w0 w' P (l ++ ptrB q) := by
  obtain ⟨v, h, hP, hb⟩ := h
  exact (pput_any P _ v l q w h h63 hb.size).mono fun e w' ⟨he, hs⟩ => ⟨he, wl_step h hP hb hs⟩
theorem pput_nil (q : PtrV) (w : World) :
    Calls Try.prog 41 #[.pointer none, .agg (ptrRow q).toArray] w fun e w' => e = .returned (.int .i64 1) ∧ Below w.heap.size w w' := by
  have HB := Lib.hid ((Below.refl w.heap.size w).alloc (Nat.le_refl _) (.cells (ptrRow q).toArray 36))
  generalize (ptrRow q).toArray = AR at *
  go_enter Try.func41, Try.ntmps41
  go_wp2_with fail
  go_ret
  exact ⟨rfl, HB.out⟩
end Go.Proofs.Ytkafabcklohlmaa
namespace Go.Proofs.Ytkafabcklohlmaa
set_option maxRecDepth 4000
open Go.RowKit

set_option maxRecDepth 100000 in
set_option maxHeartbeats 3200000 in
theorem pnum_old (R lb cb : Nat) (ab : Option Addr) (l : List Int) (n : Int) (w0 w : World) (h0' : RR w0 114 R ab lb cb l) (hb0' : Below w0.heap.size w0 w) (hn : n ≤ 9223372036854775807) :
    Calls Try.prog 69 #[.pointer (some ⟨R, 0, none⟩), .int .i64 n] w fun e w' => e = .returned (.tuple #[.int .u64 (numA n l).1, .int .i64 (numA n l).2.1]) ∧ (∃ ab' lb' cb', ∀ W : World, (∀ k, k < w0.heap.size → k ≠ R → W.heap[k]? = w0.heap[k]?) → W.heap[R]? = w'.heap[R]? → RR W 114 R ab' lb' cb' (numA n l).2.2) ∧ Only R w w' := by
  have h := h0'.below hb0'
  have H0' := Lib.hid h0'
  have HB0' := Lib.hid hb0'
  clear h0' hb0'
  have H := Lib.hid h
  by_cases h1 : 8 < n
  · rw [show numA n l = (0, 2, l) by unfold numA; rw [if_pos (.inr h1)]]
    clear h
    go_enter Try.func69, Try.ntmps69
    go_wp2_with fail
    go_ret2
    exact ⟨rfl, ⟨_, _, _, fun W q1 q2 => ⟨q2.trans H.out.cell, H0'.out.bytes.old H0'.out.cell q1, H.out.len, H.out.cap, H.out.big⟩⟩, Only.refl _ _⟩
  · have HR := Lib.hid (pnext_old R lb cb ab l n w0 w H0'.out HB0'.out hn)
    have hs := rawA_short n l (by omega)
    have h11 : n ≤ 8 := by omega
    have hE : ∃ er, (rawA n l).2.1 = er ∧ (er ≠ 0 → (rawA n l).2.1 = er ∧ numA n l = (0, er, (rawA n l).2.2)) ∧ (er = 0 → numA n l = (num (rawA n l).1, 0, (rawA n l).2.2)) := by
      refine ⟨_, rfl, fun hne => ⟨rfl, ?_⟩, fun he => ?_⟩
      · by_cases h0 : n < 0
        · unfold numA rawA; rw [if_pos (.inl h0), if_pos h0]
        · unfold numA
          rw [if_neg (by omega)]
          unfold rawA at hne ⊢
          rw [if_neg h0] at hne ⊢
          split
          · rfl
          · rename_i hc; rw [if_neg hc] at hne; exact absurd rfl hne
      · by_cases h0 : n < 0
        · unfold rawA at he; rw [if_pos h0] at he; simp at he
        · unfold numA
          rw [if_neg (by omega), he]
    obtain ⟨er, her, hA, hB⟩ := hE
    have HS := Lib.hid hs
    generalize rawA n l = Q at *
    obtain ⟨q1, q2, q3⟩ := Q
    dsimp only at her
    subst her
    by_cases h0 : q2 = 0
    · subst h0
      rw [hB rfl]
      clear h h1 hs hA hB
      go_enter Try.func69, Try.ntmps69
      go_wp2_with fail
      refine HR.out.mono ?_
      rintro e w1 ⟨⟨v, rfl, hv⟩, hr, hO⟩
      have HN := Lib.hid (get_ok w1 v q1 hv HS.out)
      have HRR := Lib.hid hr
      have HO := Lib.hid hO
      clear hv hr hO HR
      go_wp2_with fail
      refine HN.out.mono ?_
      rintro e w2 ⟨rfl, rfl⟩
      go_wp2_with fail
      go_ret2
      exact ⟨rfl, HRR.out, HO.out⟩
    · rw [(hA h0).2]
      have hnb : (q2 != 0) = true := by simp [h0]
      clear h h1 hs hA hB
      go_enter Try.func69, Try.ntmps69
      go_wp2_with fail
      refine HR.out.mono ?_
      rintro e w1 ⟨⟨v, rfl, hv⟩, hr, hO⟩
      have HRR := Lib.hid hr
      have HO := Lib.hid hO
      clear hv hr hO HR
      go_wp2_with fail
      go_ret2
      exact ⟨rfl, HRR.out, HO.out⟩
set_option maxRecDepth 100000 in
set_option maxHeartbeats 3200000 in
theorem phash_short_old (R lb cb : Nat) (ab : Option Addr) (l : List Int) (w0 w : World) (h0' : RR w0 114 R ab lb cb l) (hb0' : Below w0.heap.size w0 w) (hsh : l.length < 32) :
    Calls Try.prog 82 #[.pointer (some ⟨R, 0, none⟩)] w fun e w' => e = .returned (.tuple #[.agg (i8s (List.replicate 32 0)), .int .i64 3]) ∧ (∃ ab' lb' cb', ∀ W : World, (∀ k, k < w0.heap.size → k ≠ R → W.heap[k]? = w0.heap[k]?) → W.heap[R]? = w'.heap[R]? → RR W 114 R ab' lb' cb' (l)) ∧ Chg R w w' := by
  have h := h0'.below hb0'
  have H0' := Lib.hid h0'
  have HB0' := Lib.hid hb0'
  clear h0' hb0'
  have hz := zero_hash7
  obtain ⟨Z, hZ⟩ : ∃ Z, i8s (List.replicate 32 0) = Z := ⟨_, rfl⟩
  have HZ := Lib.hid hZ
  rw [hZ] at hz
  have hA1 := (Below.refl w.heap.size w).alloc (Nat.le_refl _) (.cells Z 34)
  have hA2 := hA1.alloc hA1.size (.cells Z 34)
  have hs1 : (w.alloc (.cells Z 34)).heap.size = w.heap.size + 1 := by simp
  have hs2 : ((w.alloc (.cells Z 34)).alloc (.cells Z 34)).heap.size = w.heap.size + 2 := by simp
  have e2 : ((w.alloc (.cells Z 34)).alloc (.cells Z 34)).heap[w.heap.size + 1]? = some (.cells Z 34 (0, 0)) := by
    have q := heap_alloc_new (w.alloc (.cells Z 34)) (.cells Z 34)
    rwa [hs1] at q
  have e1 : ((w.alloc (.cells Z 34)).alloc (.cells Z 34)).heap[w.heap.size]? = some (.cells Z 34 (0, 0)) :=
    (((Below.refl _ (w.alloc (.cells Z 34))).alloc (Nat.le_refl _) _).block w.heap.size (by omega)).trans (heap_alloc_new w _)
  have HW := Lib.hid h
  have HA2 := Lib.hid hA2
  have HRl := Lib.hid (show R < w.heap.size from (Array.getElem?_eq_some_iff.1 h.cell).1)
  clear h hA1 hA2 hs1 hZ
  go_enter Try.func82, Try.ntmps82
  go_upto_region 2 with fail
  generalize (w.alloc (.cells Z 34)).alloc (.cells Z 34) = w2 at *
  have HR := Lib.hid (pnext_old R lb cb ab l 32 w0 w2 H0'.out (HB0'.out.trans (HA2.out.mono HB0'.out.size)) (by omega))
  have HE1 := Lib.hid e1
  have HE2 := Lib.hid e2
  rw [rawA_hash] at HR
  have HSZ := Lib.hid hs2
  clear e1 e2 hs2 hz
  rw [if_pos hsh] at HR
  clear hsh
  go_wp2_with fail
  refine HR.out.mono ?_
  rintro e w3 ⟨⟨v, rfl, hv⟩, hr, hO⟩
  obtain ⟨av, cv, rfl⟩ : ∃ a c, v = .slice a 0 c := by
    obtain ⟨a', cap', h1, _⟩ := hv
    exact ⟨a', cap', h1⟩
  have HRR := Lib.hid hr
  have HO := Lib.hid hO
  have H31 := Lib.hid (show w3.heap[w.heap.size]? = some (.cells Z 34 (0, 0)) from (hO.rest _ (by have := HRl.out; omega)).trans HE1.out)
  have H32 := Lib.hid (show w3.heap[w.heap.size + 1]? = some (.cells Z 34 (0, 0)) from (hO.rest _ (by have := HRl.out; omega)).trans HE2.out)
  have hsl := slice_hash7 (w.heap.size + 1)
  have hcp : ∀ W : World, (Builtin.copy_ #[64, 64] 3 #[.slice (some ⟨w.heap.size + 1, 0, none⟩) 32 32, .slice av 0 cv]).run Try.prog W = .ok (.int .i64 0) W := fun W => run_copy_none W 64 64 3 5 _ _ 32 32 0 cv Try.underlying64 yone rfl
  clear hv hr hO HR HE1 HE2
  have SQ := Lib.hid (show (Try.prog.info? 34).map (·.size) = some Z.size by rw [← HZ.out]; exact size_hash7 _ (by simp))
  have WO := Lib.hid (show Z.all (·.oneCell') = true by rw [← HZ.out]; exact i8s_one _)
  have HP3 := Lib.hid (show w3.heap.size = w.heap.size + 2 by rw [HO.out.size]; exact HSZ.out)
  go_wp2_with (first
    | (with_reducible refine wpList_load_row (o := ⟨some 15, _, _, _, _, _⟩) rfl 34 _ rfl (w.heap.size + 1) rfl 34 Z (0, 0) _ H32.out Try.underlying34 rfl SQ.out ?_)
    | (with_reducible refine wpList_store_row (o := ⟨none, .store _ (.tmp 2) _, _, _, _, _⟩) rfl 34 _ _ rfl w.heap.size Z rfl rfl 34 Z H31.out SQ.out rfl WO.out ?_))
  have hC5 : Below w.heap.size w3 (w3.setRow w.heap.size Z) := ybelow_row (Below.refl _ _) (Nat.le_refl _) _
  refine bodyPost_ret (v := .tuple #[.agg Z, .int .i64 3]) (results_cell_two Try.results82 _ _ w.heap.size 34 Z (0, 0) _ rfl (setRow_heap _ w.heap.size _ Z _ _ H31.out) Try.underlying34 rfl SQ.out _ (by simp)) rfl ⟨by rw [HZ.out], ?_, ?_⟩
  · obtain ⟨x, y, z, hr⟩ := HRR.out
    exact ⟨x, y, z, fun W q1 q2 => hr W q1 (q2.trans (hC5.block R HRl.out))⟩
  · have hb0 := HO.out.bel 0 (Nat.zero_le _)
    exact ⟨hC5.os.trans (hb0.os.trans HA2.out.os), hC5.tape.trans (hb0.tape.trans HA2.out.tape), hC5.output.trans (hb0.output.trans HA2.out.output), Nat.le_trans HA2.out.size (Nat.le_trans (Nat.le_of_eq HO.out.size.symm) hC5.size),
      fun k hk hne => (hC5.block k hk).trans ((HO.out.rest k hne).trans (HA2.out.block k hk))⟩
set_option maxRecDepth 100000 in
set_option maxHeartbeats 3200000 in
theorem phash_ok_old (R lb cb : Nat) (ab : Option Addr) (l : List Int) (w0 w : World) (h0' : RR w0 114 R ab lb cb l) (hb0' : Below w0.heap.size w0 w) (hsh : 32 ≤ l.length) :
    Calls Try.prog 82 #[.pointer (some ⟨R, 0, none⟩)] w fun e w' => e = .returned (.tuple #[.agg (i8s (l.take 32)), .int .i64 0]) ∧ (∃ ab' lb' cb', ∀ W : World, (∀ k, k < w0.heap.size → k ≠ R → W.heap[k]? = w0.heap[k]?) → W.heap[R]? = w'.heap[R]? → RR W 114 R ab' lb' cb' (l.drop 32)) ∧ Chg R w w' := by
  have h := h0'.below hb0'
  have H0' := Lib.hid h0'
  have HB0' := Lib.hid hb0'
  clear h0' hb0'
  have HQL := Lib.hid (show (l.take 32).length = 32 by rw [List.length_take]; omega)
  have HLL := Lib.hid hsh
  obtain ⟨Q, hQ⟩ : ∃ Q, l.take 32 = Q := ⟨_, rfl⟩
  rw [hQ] at HQL ⊢
  have HQQ := Lib.hid hQ
  clear hQ hsh
  have hz := zero_hash7
  obtain ⟨Z, hZ⟩ : ∃ Z, i8s (List.replicate 32 0) = Z := ⟨_, rfl⟩
  have HZ := Lib.hid hZ
  rw [hZ] at hz
  have hA1 := (Below.refl w.heap.size w).alloc (Nat.le_refl _) (.cells Z 34)
  have hA2 := hA1.alloc hA1.size (.cells Z 34)
  have hs1 : (w.alloc (.cells Z 34)).heap.size = w.heap.size + 1 := by simp
  have hs2 : ((w.alloc (.cells Z 34)).alloc (.cells Z 34)).heap.size = w.heap.size + 2 := by simp
  have e2 : ((w.alloc (.cells Z 34)).alloc (.cells Z 34)).heap[w.heap.size + 1]? = some (.cells Z 34 (0, 0)) := by
    have q := heap_alloc_new (w.alloc (.cells Z 34)) (.cells Z 34)
    rwa [hs1] at q
  have e1 : ((w.alloc (.cells Z 34)).alloc (.cells Z 34)).heap[w.heap.size]? = some (.cells Z 34 (0, 0)) :=
    (((Below.refl _ (w.alloc (.cells Z 34))).alloc (Nat.le_refl _) _).block w.heap.size (by omega)).trans (heap_alloc_new w _)
  have HW := Lib.hid h
  have HA2 := Lib.hid hA2
  have HRl := Lib.hid (show R < w.heap.size from (Array.getElem?_eq_some_iff.1 h.cell).1)
  clear h hA1 hA2 hs1 hZ
  go_enter Try.func82, Try.ntmps82
  go_upto_region 2 with fail
  generalize (w.alloc (.cells Z 34)).alloc (.cells Z 34) = w2 at *
  have HR := Lib.hid (pnext_old R lb cb ab l 32 w0 w2 H0'.out (HB0'.out.trans (HA2.out.mono HB0'.out.size)) (by omega))
  have HE1 := Lib.hid e1
  have HE2 := Lib.hid e2
  rw [rawA_hash, if_neg (by have := HLL.out; omega), HQQ.out] at HR
  have HSZ := Lib.hid hs2
  clear e1 e2 hs2 hz
  go_wp2_with fail
  refine HR.out.mono ?_
  rintro e w3 ⟨⟨v, rfl, hv⟩, hr, hO⟩
  obtain ⟨av, cv, rfl⟩ : ∃ a c, v = .slice a 32 c := by
    obtain ⟨a', cap', h1, _⟩ := hv
    exact ⟨a', cap', by rw [h1, HQL.out]⟩
  obtain ⟨b, off, rfl, hnn, hsrc⟩ := bs_cells hv (by rw [HQL.out]; decide)
  have h31 : w3.heap[w.heap.size]? = some (.cells Z 34 (0, 0)) := (hO.rest _ (by have := HRl.out; omega)).trans HE1.out
  have h32 : w3.heap[w.heap.size + 1]? = some (.cells Z.toList.toArray 34 (0, 0)) := by
    rw [Array.toArray_toList]
    exact (hO.rest _ (by have := HRl.out; omega)).trans HE2.out
  have HZS := Lib.hid (show Z.size = 32 by rw [← HZ.out, i8s_size]; simp)
  have hsl := slice_hash7 (w.heap.size + 1)
  have HCP := Lib.hid (show (Q.map (Value.int .u8)).length = Nat.min 32 32 ∧ 0 + (Q.map (Value.int .u8)).length ≤ Z.toList.length ∧ ∀ v ∈ Q.map (Value.int .u8), v.oneCell' = true from
    ⟨by rw [List.length_map, HQL.out]; rfl, by rw [List.length_map, HQL.out, Array.length_toList, HZS.out]; decide, fun v hv => by obtain ⟨x, _, rfl⟩ := List.mem_map.1 hv; rfl⟩)
  have HSRC := Lib.hid (show ∀ j v, (Q.map (Value.int .u8))[j]? = some v → w3.cell? ((⟨b, off, none⟩ : Addr).add j) = some v from fun j v hv => by rw [Addr.add_mid]; exact hsrc j v hv)
  have H32 := Lib.hid h32
  have HEQ := Lib.hid (show (List.take 0 Z.toList ++ (Q.map (Value.int .u8) ++ List.drop (0 + (Q.map (Value.int .u8)).length) Z.toList)).toArray = i8s Q by
    rw [List.drop_eq_nil_of_le (by rw [List.length_map, HQL.out, Array.length_toList, HZS.out]; decide)]; simp [i8s])
  have HRR := Lib.hid hr
  have HO := Lib.hid hO
  have H31 := Lib.hid h31
  have HP3 := Lib.hid (show w3.heap.size = w.heap.size + 2 by rw [hO.size]; exact HSZ.out)
  clear h31 h32 hsrc hv hr hO HR HE1 HE2 hnn
  go_upto_region 4 with (first
    | (refine wpList_copy_y (o := ⟨some 14, _, _, _, _, _⟩) rfl (.tmp 12) (.tmp 13) 64 64 (by rfl) 5 Try.underlying64 yone (w.heap.size + 1) 0 32 32 ⟨b, off, none⟩ 32 cv (by rfl) (by rfl) Z.toList 34 H32.out (Q.map (Value.int .u8)) HCP.out.1 HSRC.out HCP.out.2.1 HCP.out.2.2 ?_))
  rw [HEQ.out]
  generalize hW4 : World.setRow w3 _ _ = w4
  have SQ := Lib.hid (size_hash7 Q HQL.out)
  have EZ := Lib.hid (show Z.size = (i8s Q).size by rw [HZS.out, i8s_size, HQL.out])
  have H42 := Lib.hid (show w4.heap[w.heap.size + 1]? = some (.cells (i8s Q) 34 (0, 0)) by rw [← hW4]; exact setRow_heap _ _ _ _ _ _ H32.out)
  have H41 := Lib.hid (show w4.heap[w.heap.size]? = some (.cells Z 34 (0, 0)) by rw [← hW4]; exact (setRow_other _ _ _ _ (by omega)).trans H31.out)
  have HC4 := Lib.hid (show Below w.heap.size w3 w4 by rw [← hW4]; exact ybelow_row (Below.refl _ _) (by omega) _)
  clear hW4 H31 H32 HSRC HCP HEQ hsl
  go_wp2_with (first
    | (with_reducible refine wpList_load_row (o := ⟨some 15, _, _, _, _, _⟩) rfl 34 _ rfl (w.heap.size + 1) rfl 34 (i8s Q) (0, 0) _ H42.out Try.underlying34 rfl SQ.out ?_)
    | (with_reducible refine wpList_store_row (o := ⟨none, .store _ (.tmp 2) _, _, _, _, _⟩) rfl 34 _ _ rfl w.heap.size (i8s Q) rfl rfl 34 Z H41.out SQ.out EZ.out (i8s_one _) ?_))
  have hC5 : Below w.heap.size w3 (w4.setRow w.heap.size (i8s Q)) := ybelow_row HC4.out (Nat.le_refl _) _
  refine bodyPost_ret (v := .tuple #[.agg (i8s Q), .int .i64 0]) (results_cell_two Try.results82 _ _ w.heap.size 34 (i8s Q) (0, 0) _ rfl (setRow_heap _ w.heap.size _ (i8s Q) _ _ H41.out) Try.underlying34 rfl SQ.out _ (by simp)) rfl ⟨rfl, ?_, ?_⟩
  · obtain ⟨x, y, z, hr⟩ := HRR.out
    exact ⟨x, y, z, fun W q1 q2 => hr W q1 (q2.trans (hC5.block R HRl.out))⟩
  · have hb0 := HO.out.bel 0 (Nat.zero_le _)
    exact ⟨hC5.os.trans (hb0.os.trans HA2.out.os), hC5.tape.trans (hb0.tape.trans HA2.out.tape), hC5.output.trans (hb0.output.trans HA2.out.output), Nat.le_trans HA2.out.size (Nat.le_trans (Nat.le_of_eq HO.out.size.symm) hC5.size),
      fun k hk hne => (hC5.block k hk).trans ((HO.out.rest k hne).trans (HA2.out.block k hk))⟩
set_option maxRecDepth 100000 in
set_option maxHeartbeats 3200000 in
theorem phash_old (R lb cb : Nat) (ab : Option Addr) (l : List Int) (w0 w : World) (h0' : RR w0 114 R ab lb cb l) (hb0' : Below w0.heap.size w0 w) :
    Calls Try.prog 82 #[.pointer (some ⟨R, 0, none⟩)] w fun e w' => e = .returned (.tuple #[.agg (i8s (hashA l).1), .int .i64 (hashA l).2.1]) ∧ (∃ ab' lb' cb', ∀ W : World, (∀ k, k < w0.heap.size → k ≠ R → W.heap[k]? = w0.heap[k]?) → W.heap[R]? = w'.heap[R]? → RR W 114 R ab' lb' cb' (hashA l).2.2) ∧ Chg R w w' := by
  have h := h0'.below hb0'
  have H0' := Lib.hid h0'
  have HB0' := Lib.hid hb0'
  clear h0' hb0'
  by_cases hs : l.length < 32
  · rw [show hashA l = (List.replicate 32 0, 3, l) by unfold hashA; rw [if_pos hs]]
    exact phash_short_old R lb cb ab l w0 w H0'.out HB0'.out hs
  · rw [show hashA l = (l.take 32, 0, l.drop 32) by unfold hashA; rw [if_neg hs]]
    exact phash_ok_old R lb cb ab l w0 w H0'.out HB0'.out (by omega)
set_option maxRecDepth 100000 in
set_option maxHeartbeats 3200000 in
theorem rnum_old (R lb cb : Nat) (ab : Option Addr) (l : List Int) (n : Int) (w0 w : World) (h0' : RR w0 79 R ab lb cb l) (hb0' : Below w0.heap.size w0 w) (hn : n ≤ 9223372036854775807) :
    Calls Try.prog 46 #[.pointer (some ⟨R, 0, none⟩), .int .i64 n] w fun e w' => e = .returned (.tuple #[.int .u64 (numA n l).1, .int .i64 (numA n l).2.1]) ∧ (∃ ab' lb' cb', ∀ W : World, (∀ k, k < w0.heap.size → k ≠ R → W.heap[k]? = w0.heap[k]?) → W.heap[R]? = w'.heap[R]? → RR W 79 R ab' lb' cb' (numA n l).2.2) ∧ Only R w w' := by
  have h := h0'.below hb0'
  have H0' := Lib.hid h0'
  have HB0' := Lib.hid hb0'
  clear h0' hb0'
  have H := Lib.hid h
  have HR := Lib.hid (rraw_old R lb cb ab l n w0 w H0'.out HB0'.out hn)
  by_cases h0 : n < 0
  · rw [show numA n l = (0, 2, l) by unfold numA; rw [if_pos (.inl h0)]]
    clear h HR
    go_enter Try.func46, Try.ntmps46
    go_wp2_with fail
    go_ret2
    exact ⟨rfl, ⟨_, _, _, fun W q1 q2 => ⟨q2.trans H.out.cell, H0'.out.bytes.old H0'.out.cell q1, H.out.len, H.out.cap, H.out.big⟩⟩, Only.refl _ _⟩
  · by_cases h1 : 8 < n
    · rw [show numA n l = (0, 2, l) by unfold numA; rw [if_pos (.inr h1)]]
      have h00 : (0 : Int) ≤ n := by omega
      clear h HR h0
      go_enter Try.func46, Try.ntmps46
      go_wp2_with fail
      go_ret2
      exact ⟨rfl, ⟨_, _, _, fun W q1 q2 => ⟨q2.trans H.out.cell, H0'.out.bytes.old H0'.out.cell q1, H.out.len, H.out.cap, H.out.big⟩⟩, Only.refl _ _⟩
    · rw [show numA n l = (num (rawA n l).1, (rawA n l).2.1, (rawA n l).2.2) by unfold numA; rw [if_neg (by omega)]]
      have hs := rawA_short n l (by omega)
      have h00 : (0 : Int) ≤ n := by omega
      have h11 : n ≤ 8 := by omega
      have HS := Lib.hid hs
      generalize rawA n l = Q at *
      obtain ⟨q1, q2, q3⟩ := Q
      clear h h0 h1 hs
      go_enter Try.func46, Try.ntmps46
      go_wp2_with fail
      refine HR.out.mono ?_
      rintro e w1 ⟨⟨v, rfl, hv⟩, hr, hO⟩
      have HN := Lib.hid (rnum_any w1 v q1 hv HS.out)
      have HRR := Lib.hid hr
      have HO := Lib.hid hO
      clear hv hr hO HR
      go_wp2_with fail
      refine HN.out.mono ?_
      rintro e w2 ⟨rfl, rfl⟩
      go_wp2_with fail
      go_ret2
      exact ⟨rfl, HRR.out, HO.out⟩
set_option maxRecDepth 100000 in
set_option maxHeartbeats 3200000 in
theorem rhash_short_old (R lb cb : Nat) (ab : Option Addr) (l : List Int) (w0 w : World) (h0' : RR w0 79 R ab lb cb l) (hb0' : Below w0.heap.size w0 w) (hsh : l.length < 32) :
    Calls Try.prog 74 #[.pointer (some ⟨R, 0, none⟩)] w fun e w' => e = .returned (.tuple #[.agg (i8s (List.replicate 32 0)), .int .i64 3]) ∧ (∃ ab' lb' cb', ∀ W : World, (∀ k, k < w0.heap.size → k ≠ R → W.heap[k]? = w0.heap[k]?) → W.heap[R]? = w'.heap[R]? → RR W 79 R ab' lb' cb' (l)) ∧ Chg R w w' := by
  have h := h0'.below hb0'
  have H0' := Lib.hid h0'
  have HB0' := Lib.hid hb0'
  clear h0' hb0'
  have hz := zero_hash7
  obtain ⟨Z, hZ⟩ : ∃ Z, i8s (List.replicate 32 0) = Z := ⟨_, rfl⟩
  have HZ := Lib.hid hZ
  rw [hZ] at hz
  have hA1 := (Below.refl w.heap.size w).alloc (Nat.le_refl _) (.cells Z 34)
  have hA2 := hA1.alloc hA1.size (.cells Z 34)
  have hs1 : (w.alloc (.cells Z 34)).heap.size = w.heap.size + 1 := by simp
  have hs2 : ((w.alloc (.cells Z 34)).alloc (.cells Z 34)).heap.size = w.heap.size + 2 := by simp
  have e2 : ((w.alloc (.cells Z 34)).alloc (.cells Z 34)).heap[w.heap.size + 1]? = some (.cells Z 34 (0, 0)) := by
    have q := heap_alloc_new (w.alloc (.cells Z 34)) (.cells Z 34)
    rwa [hs1] at q
  have e1 : ((w.alloc (.cells Z 34)).alloc (.cells Z 34)).heap[w.heap.size]? = some (.cells Z 34 (0, 0)) :=
    (((Below.refl _ (w.alloc (.cells Z 34))).alloc (Nat.le_refl _) _).block w.heap.size (by omega)).trans (heap_alloc_new w _)
  have HW := Lib.hid h
  have HA2 := Lib.hid hA2
  have HRl := Lib.hid (show R < w.heap.size from (Array.getElem?_eq_some_iff.1 h.cell).1)
  clear h hA1 hA2 hs1 hZ
  go_enter Try.func74, Try.ntmps74
  go_upto_region 2 with fail
  generalize (w.alloc (.cells Z 34)).alloc (.cells Z 34) = w2 at *
  have HR := Lib.hid (rraw_old R lb cb ab l 32 w0 w2 H0'.out (HB0'.out.trans (HA2.out.mono HB0'.out.size)) (by omega))
  have HE1 := Lib.hid e1
  have HE2 := Lib.hid e2
  rw [rawA_hash] at HR
  have HSZ := Lib.hid hs2
  clear e1 e2 hs2 hz
  rw [if_pos hsh] at HR
  clear hsh
  go_wp2_with fail
  refine HR.out.mono ?_
  rintro e w3 ⟨⟨v, rfl, hv⟩, hr, hO⟩
  obtain ⟨av, cv, rfl⟩ : ∃ a c, v = .slice a 0 c := by
    obtain ⟨a', cap', h1, _⟩ := hv
    exact ⟨a', cap', h1⟩
  have HRR := Lib.hid hr
  have HO := Lib.hid hO
  have H31 := Lib.hid (show w3.heap[w.heap.size]? = some (.cells Z 34 (0, 0)) from (hO.rest _ (by have := HRl.out; omega)).trans HE1.out)
  have H32 := Lib.hid (show w3.heap[w.heap.size + 1]? = some (.cells Z 34 (0, 0)) from (hO.rest _ (by have := HRl.out; omega)).trans HE2.out)
  have hsl := slice_hash7 (w.heap.size + 1)
  have hcp : ∀ W : World, (Builtin.copy_ #[64, 64] 3 #[.slice (some ⟨w.heap.size + 1, 0, none⟩) 32 32, .slice av 0 cv]).run Try.prog W = .ok (.int .i64 0) W := fun W => run_copy_none W 64 64 3 5 _ _ 32 32 0 cv Try.underlying64 yone rfl
  clear hv hr hO HR HE1 HE2
  have SQ := Lib.hid (show (Try.prog.info? 34).map (·.size) = some Z.size by rw [← HZ.out]; exact size_hash7 _ (by simp))
  have WO := Lib.hid (show Z.all (·.oneCell') = true by rw [← HZ.out]; exact i8s_one _)
  have HP3 := Lib.hid (show w3.heap.size = w.heap.size + 2 by rw [HO.out.size]; exact HSZ.out)
  go_wp2_with (first
    | (with_reducible refine wpList_load_row (o := ⟨some 15, _, _, _, _, _⟩) rfl 34 _ rfl (w.heap.size + 1) rfl 34 Z (0, 0) _ H32.out Try.underlying34 rfl SQ.out ?_)
    | (with_reducible refine wpList_store_row (o := ⟨none, .store _ (.tmp 2) _, _, _, _, _⟩) rfl 34 _ _ rfl w.heap.size Z rfl rfl 34 Z H31.out SQ.out rfl WO.out ?_))
  have hC5 : Below w.heap.size w3 (w3.setRow w.heap.size Z) := ybelow_row (Below.refl _ _) (Nat.le_refl _) _
  refine bodyPost_ret (v := .tuple #[.agg Z, .int .i64 3]) (results_cell_two Try.results74 _ _ w.heap.size 34 Z (0, 0) _ rfl (setRow_heap _ w.heap.size _ Z _ _ H31.out) Try.underlying34 rfl SQ.out _ (by simp)) rfl ⟨by rw [HZ.out], ?_, ?_⟩
  · obtain ⟨x, y, z, hr⟩ := HRR.out
    exact ⟨x, y, z, fun W q1 q2 => hr W q1 (q2.trans (hC5.block R HRl.out))⟩
  · have hb0 := HO.out.bel 0 (Nat.zero_le _)
    exact ⟨hC5.os.trans (hb0.os.trans HA2.out.os), hC5.tape.trans (hb0.tape.trans HA2.out.tape), hC5.output.trans (hb0.output.trans HA2.out.output), Nat.le_trans HA2.out.size (Nat.le_trans (Nat.le_of_eq HO.out.size.symm) hC5.size),
      fun k hk hne => (hC5.block k hk).trans ((HO.out.rest k hne).trans (HA2.out.block k hk))⟩
set_option maxRecDepth 100000 in
set_option maxHeartbeats 3200000 in
theorem rhash_ok_old (R lb cb : Nat) (ab : Option Addr) (l : List Int) (w0 w : World) (h0' : RR w0 79 R ab lb cb l) (hb0' : Below w0.heap.size w0 w) (hsh : 32 ≤ l.length) :
    Calls Try.prog 74 #[.pointer (some ⟨R, 0, none⟩)] w fun e w' => e = .returned (.tuple #[.agg (i8s (l.take 32)), .int .i64 0]) ∧ (∃ ab' lb' cb', ∀ W : World, (∀ k, k < w0.heap.size → k ≠ R → W.heap[k]? = w0.heap[k]?) → W.heap[R]? = w'.heap[R]? → RR W 79 R ab' lb' cb' (l.drop 32)) ∧ Chg R w w' := by
  have h := h0'.below hb0'
  have H0' := Lib.hid h0'
  have HB0' := Lib.hid hb0'
  clear h0' hb0'
  have HQL := Lib.hid (show (l.take 32).length = 32 by rw [List.length_take]; omega)
  have HLL := Lib.hid hsh
  obtain ⟨Q, hQ⟩ : ∃ Q, l.take 32 = Q := ⟨_, rfl⟩
  rw [hQ] at HQL ⊢
  have HQQ := Lib.hid hQ
  clear hQ hsh
  have hz := zero_hash7
  obtain ⟨Z, hZ⟩ : ∃ Z, i8s (List.replicate 32 0) = Z := ⟨_, rfl⟩
  have HZ := Lib.hid hZ
  rw [hZ] at hz
  have hA1 := (Below.refl w.heap.size w).alloc (Nat.le_refl _) (.cells Z 34)
  have hA2 := hA1.alloc hA1.size (.cells Z 34)
  have hs1 : (w.alloc (.cells Z 34)).heap.size = w.heap.size + 1 := by simp
  have hs2 : ((w.alloc (.cells Z 34)).alloc (.cells Z 34)).heap.size = w.heap.size + 2 := by simp
  have e2 : ((w.alloc (.cells Z 34)).alloc (.cells Z 34)).heap[w.heap.size + 1]? = some (.cells Z 34 (0, 0)) := by
    have q := heap_alloc_new (w.alloc (.cells Z 34)) (.cells Z 34)
    rwa [hs1] at q
  have e1 : ((w.alloc (.cells Z 34)).alloc (.cells Z 34)).heap[w.heap.size]? = some (.cells Z 34 (0, 0)) :=
    (((Below.refl _ (w.alloc (.cells Z 34))).alloc (Nat.le_refl _) _).block w.heap.size (by omega)).trans (heap_alloc_new w _)
  have HW := Lib.hid h
  have HA2 := Lib.hid hA2
  have HRl := Lib.hid (show R < w.heap.size from (Array.getElem?_eq_some_iff.1 h.cell).1)
  clear h hA1 hA2 hs1 hZ
  go_enter Try.func74, Try.ntmps74
  go_upto_region 2 with fail
  generalize (w.alloc (.cells Z 34)).alloc (.cells Z 34) = w2 at *
  have HR := Lib.hid (rraw_old R lb cb ab l 32 w0 w2 H0'.out (HB0'.out.trans (HA2.out.mono HB0'.out.size)) (by omega))
  have HE1 := Lib.hid e1
  have HE2 := Lib.hid e2
  rw [rawA_hash, if_neg (by have := HLL.out; omega), HQQ.out] at HR
  have HSZ := Lib.hid hs2
  clear e1 e2 hs2 hz
  go_wp2_with fail
  refine HR.out.mono ?_
  rintro e w3 ⟨⟨v, rfl, hv⟩, hr, hO⟩
  obtain ⟨av, cv, rfl⟩ : ∃ a c, v = .slice a 32 c := by
    obtain ⟨a', cap', h1, _⟩ := hv
    exact ⟨a', cap', by rw [h1, HQL.out]⟩
  obtain ⟨b, off, rfl, hnn, hsrc⟩ := bs_cells hv (by rw [HQL.out]; decide)
  have h31 : w3.heap[w.heap.size]? = some (.cells Z 34 (0, 0)) := (hO.rest _ (by have := HRl.out; omega)).trans HE1.out
  have h32 : w3.heap[w.heap.size + 1]? = some (.cells Z.toList.toArray 34 (0, 0)) := by
    rw [Array.toArray_toList]
    exact (hO.rest _ (by have := HRl.out; omega)).trans HE2.out
  have HZS := Lib.hid (show Z.size = 32 by rw [← HZ.out, i8s_size]; simp)
  have hsl := slice_hash7 (w.heap.size + 1)
  have HCP := Lib.hid (show (Q.map (Value.int .u8)).length = Nat.min 32 32 ∧ 0 + (Q.map (Value.int .u8)).length ≤ Z.toList.length ∧ ∀ v ∈ Q.map (Value.int .u8), v.oneCell' = true from
    ⟨by rw [List.length_map, HQL.out]; rfl, by rw [List.length_map, HQL.out, Array.length_toList, HZS.out]; decide, fun v hv => by obtain ⟨x, _, rfl⟩ := List.mem_map.1 hv; rfl⟩)
  have HSRC := Lib.hid (show ∀ j v, (Q.map (Value.int .u8))[j]? = some v → w3.cell? ((⟨b, off, none⟩ : Addr).add j) = some v from fun j v hv => by rw [Addr.add_mid]; exact hsrc j v hv)
  have H32 := Lib.hid h32
  have HEQ := Lib.hid (show (List.take 0 Z.toList ++ (Q.map (Value.int .u8) ++ List.drop (0 + (Q.map (Value.int .u8)).length) Z.toList)).toArray = i8s Q by
    rw [List.drop_eq_nil_of_le (by rw [List.length_map, HQL.out, Array.length_toList, HZS.out]; decide)]; simp [i8s])
  have HRR := Lib.hid hr
  have HO := Lib.hid hO
  have H31 := Lib.hid h31
  have HP3 := Lib.hid (show w3.heap.size = w.heap.size + 2 by rw [hO.size]; exact HSZ.out)
  clear h31 h32 hsrc hv hr hO HR HE1 HE2 hnn
  go_upto_region 4 with (first
    | (refine wpList_copy_y (o := ⟨some 14, _, _, _, _, _⟩) rfl (.tmp 12) (.tmp 13) 64 64 (by rfl) 5 Try.underlying64 yone (w.heap.size + 1) 0 32 32 ⟨b, off, none⟩ 32 cv (by rfl) (by rfl) Z.toList 34 H32.out (Q.map (Value.int .u8)) HCP.out.1 HSRC.out HCP.out.2.1 HCP.out.2.2 ?_))
  rw [HEQ.out]
  generalize hW4 : World.setRow w3 _ _ = w4
  have SQ := Lib.hid (size_hash7 Q HQL.out)
  have EZ := Lib.hid (show Z.size = (i8s Q).size by rw [HZS.out, i8s_size, HQL.out])
  have H42 := Lib.hid (show w4.heap[w.heap.size + 1]? = some (.cells (i8s Q) 34 (0, 0)) by rw [← hW4]; exact setRow_heap _ _ _ _ _ _ H32.out)
  have H41 := Lib.hid (show w4.heap[w.heap.size]? = some (.cells Z 34 (0, 0)) by rw [← hW4]; exact (setRow_other _ _ _ _ (by omega)).trans H31.out)
  have HC4 := Lib.hid (show Below w.heap.size w3 w4 by rw [← hW4]; exact ybelow_row (Below.refl _ _) (by omega) _)
  clear hW4 H31 H32 HSRC HCP HEQ hsl
  go_wp2_with (first
    | (with_reducible refine wpList_load_row (o := ⟨some 15, _, _, _, _, _⟩) rfl 34 _ rfl (w.heap.size + 1) rfl 34 (i8s Q) (0, 0) _ H42.out Try.underlying34 rfl SQ.out ?_)
    | (with_reducible refine wpList_store_row (o := ⟨none, .store _ (.tmp 2) _, _, _, _, _⟩) rfl 34 _ _ rfl w.heap.size (i8s Q) rfl rfl 34 Z H41.out SQ.out EZ.out (i8s_one _) ?_))
  have hC5 : Below w.heap.size w3 (w4.setRow w.heap.size (i8s Q)) := ybelow_row HC4.out (Nat.le_refl _) _
  refine bodyPost_ret (v := .tuple #[.agg (i8s Q), .int .i64 0]) (results_cell_two Try.results74 _ _ w.heap.size 34 (i8s Q) (0, 0) _ rfl (setRow_heap _ w.heap.size _ (i8s Q) _ _ H41.out) Try.underlying34 rfl SQ.out _ (by simp)) rfl ⟨rfl, ?_, ?_⟩
  · obtain ⟨x, y, z, hr⟩ := HRR.out
    exact ⟨x, y, z, fun W q1 q2 => hr W q1 (q2.trans (hC5.block R HRl.out))⟩
  · have hb0 := HO.out.bel 0 (Nat.zero_le _)
    exact ⟨hC5.os.trans (hb0.os.trans HA2.out.os), hC5.tape.trans (hb0.tape.trans HA2.out.tape), hC5.output.trans (hb0.output.trans HA2.out.output), Nat.le_trans HA2.out.size (Nat.le_trans (Nat.le_of_eq HO.out.size.symm) hC5.size),
      fun k hk hne => (hC5.block k hk).trans ((HO.out.rest k hne).trans (HA2.out.block k hk))⟩
set_option maxRecDepth 100000 in
set_option maxHeartbeats 3200000 in
theorem rhash_old (R lb cb : Nat) (ab : Option Addr) (l : List Int) (w0 w : World) (h0' : RR w0 79 R ab lb cb l) (hb0' : Below w0.heap.size w0 w) :
    Calls Try.prog 74 #[.pointer (some ⟨R, 0, none⟩)] w fun e w' => e = .returned (.tuple #[.agg (i8s (hashA l).1), .int .i64 (hashA l).2.1]) ∧ (∃ ab' lb' cb', ∀ W : World, (∀ k, k < w0.heap.size → k ≠ R → W.heap[k]? = w0.heap[k]?) → W.heap[R]? = w'.heap[R]? → RR W 79 R ab' lb' cb' (hashA l).2.2) ∧ Chg R w w' := by
  have h := h0'.below hb0'
  have H0' := Lib.hid h0'
  have HB0' := Lib.hid hb0'
  clear h0' hb0'
  by_cases hs : l.length < 32
  · rw [show hashA l = (List.replicate 32 0, 3, l) by unfold hashA; rw [if_pos hs]]
    exact rhash_short_old R lb cb ab l w0 w H0'.out HB0'.out hs
  · rw [show hashA l = (l.take 32, 0, l.drop 32) by unfold hashA; rw [if_neg hs]]
    exact rhash_ok_old R lb cb ab l w0 w H0'.out HB0'.out (by omega)
/-- The world as it was when it had so many blocks alone (what lies in them now). -/
def trunc (N : Nat) (w : World) : World := { w with heap := w.heap.extract 0 N }
theorem trunc_heap {N k : Nat} (w : World) (h : k < N) : (trunc N w).heap[k]? = w.heap[k]? := by
  unfold trunc
  simp [Array.getElem?_extract]
  omega
theorem trunc_size {N : Nat} {w : World} (h : N ≤ w.heap.size) : (trunc N w).heap.size = N := by
  unfold trunc
  simp
  omega
theorem trunc_below {N : Nat} {w : World} (h : N ≤ w.heap.size) : Below (trunc N w).heap.size (trunc N w) w :=
  ⟨rfl, rfl, rfl, by rw [trunc_size h]; exact h, fun k hk => (trunc_heap w (by rwa [trunc_size h] at hk)).symm⟩
/-- A Reader whose blocks are among the first N. -/
def RT (N : Nat) (w : World) (t R : Nat) (l : List Int) : Prop := N ≤ w.heap.size ∧ ∃ ab lb cb, RR (trunc N w) t R ab lb cb l
theorem RT.rr {N : Nat} {w : World} {t R : Nat} {l : List Int} (h : RT N w t R l) : ∃ ab lb cb, RR w t R ab lb cb l := by
  obtain ⟨hN, ab, lb, cb, h⟩ := h
  exact ⟨ab, lb, cb, h.below (trunc_below hN)⟩
theorem RT.lt {N : Nat} {w : World} {t R : Nat} {l : List Int} (h : RT N w t R l) : R < N := by
  obtain ⟨hN, ab, lb, cb, h⟩ := h
  have := (Array.getElem?_eq_some_iff.1 h.cell).1
  rwa [trunc_size hN] at this
theorem RT.byt {N : Nat} {w : World} {t R : Nat} {l : List Int} (h : RT N w t R l) : Byt l := by
  obtain ⟨hN, ab, lb, cb, h⟩ := h
  exact h.bytes.byt
theorem RT.now {w : World} {t R lb cb : Nat} {ab : Option Addr} {l : List Int} (h : RR w t R ab lb cb l) : RT w.heap.size w t R l := by
  have e : trunc w.heap.size w = w := by unfold trunc; simp
  exact ⟨Nat.le_refl _, ab, lb, cb, by rw [e]; exact h⟩
theorem RT.keep {N : Nat} {w w' : World} {t R : Nat} {l : List Int} (h : RT N w t R l) (hs : N ≤ w'.heap.size) (q : ∀ k, k < N → w'.heap[k]? = w.heap[k]?) : RT N w' t R l := by
  have hR := h.lt
  obtain ⟨hN, ab, lb, cb, h⟩ := h
  have e : ∀ k, k < N → (trunc N w').heap[k]? = (trunc N w).heap[k]? := fun k hk => by rw [trunc_heap _ hk, trunc_heap _ hk, q k hk]
  exact ⟨hs, ab, lb, cb, (e R hR).trans h.cell, h.bytes.old h.cell (fun k hk _ => e k (by rwa [trunc_size hN] at hk)), h.len, h.cap, h.big⟩
theorem rt_back {N : Nat} {w w' : World} {t R : Nat} {l : List Int} (hN : N ≤ w.heap.size) (hs : N ≤ w'.heap.size) (hR : R < N) (q : ∀ k, k < N → k ≠ R → w'.heap[k]? = w.heap[k]?)
    (r : ∃ ab lb cb, ∀ W : World, (∀ k, k < (trunc N w).heap.size → k ≠ R → W.heap[k]? = (trunc N w).heap[k]?) → W.heap[R]? = w'.heap[R]? → RR W t R ab lb cb l) : RT N w' t R l := by
  obtain ⟨ab, lb, cb, r⟩ := r
  refine ⟨hs, ab, lb, cb, r _ (fun k hk hne => ?_) (trunc_heap _ hR)⟩
  rw [trunc_size hN] at hk
  rw [trunc_heap _ hk, trunc_heap _ hk, q k hk hne]
theorem pnum_t (N R : Nat) (l : List Int) (n : Int) (w : World) (h : RT N w 114 R l) (hn : n ≤ 9223372036854775807) :
    Calls Try.prog 69 #[.pointer (some ⟨R, 0, none⟩), .int .i64 n] w fun e w' => e = .returned (.tuple #[.int .u64 (numA n l).1, .int .i64 (numA n l).2.1]) ∧ RT N w' 114 R (numA n l).2.2 ∧ Only R w w' := by
  have hR := h.lt
  obtain ⟨hN, ab, lb, cb, h⟩ := h
  exact (pnum_old R lb cb ab l n _ w h (trunc_below hN) hn).mono fun e w' ⟨he, hr, hO⟩ => ⟨he, rt_back hN (by rw [hO.size]; exact hN) hR (fun k _ hne => hO.rest k hne) hr, hO⟩
theorem phash_t (N R : Nat) (l : List Int) (w : World) (h : RT N w 114 R l) :
    Calls Try.prog 82 #[.pointer (some ⟨R, 0, none⟩)] w fun e w' => e = .returned (.tuple #[.agg (i8s (hashA l).1), .int .i64 (hashA l).2.1]) ∧ RT N w' 114 R (hashA l).2.2 ∧ Chg R w w' := by
  have hR := h.lt
  obtain ⟨hN, ab, lb, cb, h⟩ := h
  exact (phash_old R lb cb ab l _ w h (trunc_below hN)).mono fun e w' ⟨he, hr, hO⟩ => ⟨he, rt_back hN (Nat.le_trans hN hO.size) hR (fun k hk hne => hO.block k (Nat.lt_of_lt_of_le hk hN) hne) hr, hO⟩
theorem rnum_t (N R : Nat) (l : List Int) (n : Int) (w : World) (h : RT N w 79 R l) (hn : n ≤ 9223372036854775807) :
    Calls Try.prog 46 #[.pointer (some ⟨R, 0, none⟩), .int .i64 n] w fun e w' => e = .returned (.tuple #[.int .u64 (numA n l).1, .int .i64 (numA n l).2.1]) ∧ RT N w' 79 R (numA n l).2.2 ∧ Only R w w' := by
  have hR := h.lt
  obtain ⟨hN, ab, lb, cb, h⟩ := h
  exact (rnum_old R lb cb ab l n _ w h (trunc_below hN) hn).mono fun e w' ⟨he, hr, hO⟩ => ⟨he, rt_back hN (by rw [hO.size]; exact hN) hR (fun k _ hne => hO.rest k hne) hr, hO⟩
theorem rhash_t (N R : Nat) (l : List Int) (w : World) (h : RT N w 79 R l) :
    Calls Try.prog 74 #[.pointer (some ⟨R, 0, none⟩)] w fun e w' => e = .returned (.tuple #[.agg (i8s (hashA l).1), .int .i64 (hashA l).2.1]) ∧ RT N w' 79 R (hashA l).2.2 ∧ Chg R w w' := by
  have hR := h.lt
  obtain ⟨hN, ab, lb, cb, h⟩ := h
  exact (rhash_old R lb cb ab l _ w h (trunc_below hN)).mono fun e w' ⟨he, hr, hO⟩ => ⟨he, rt_back hN (Nat.le_trans hN hO.size) hR (fun k hk hne => hO.block k (Nat.lt_of_lt_of_le hk hN) hne) hr, hO⟩
end Go.Proofs.Ytkafabcklohlmaa
namespace Go.Proofs.Ytkafabcklohlmaa
set_option maxRecDepth 4000
open Go.ChangeShapes Go.WideShapes Go.ChangeAt Go.RowKit

instance byt_dec (l : List Int) : Decidable (Byt l) := inferInstanceAs (Decidable (∀ z ∈ l, 0 ≤ z ∧ z ≤ 255))
theorem byt_take8 (l : List Int) (h : Byt l) (k : Nat) : Byt (l.take k) := fun z hz => h z (List.mem_of_mem_take hz)
theorem byt_drop8 (l : List Int) (h : Byt l) (k : Nat) : Byt (l.drop k) := fun z hz => h z (List.mem_of_mem_drop hz)
theorem num_le8 (l : List Int) (h : Byt l) (k : Nat) (hl : l.length = k) (m : Int) (hm : (256 : Int) ^ k ≤ m + 1) : 0 ≤ num l ∧ num l ≤ m := by
  have := num_bound l h
  rw [hl] at this
  omega
/-- The pointer that bytes are. -/
def ptrOf (l : List Int) : PtrV :=
  if h : 44 ≤ l.length ∧ Byt l then
    ⟨num (l.take 4), num ((l.drop 4).take 8), (l.drop 12).take 32,
      num_le8 _ (byt_take8 _ h.2 4) 4 (by rw [List.length_take]; omega) _ (by decide),
      num_le8 _ (byt_take8 _ (byt_drop8 _ h.2 4) 8) 8 (by rw [List.length_take, List.length_drop]; omega) _ (by decide),
      by rw [List.length_take, List.length_drop]; omega, byt_take8 _ (byt_drop8 _ h.2 12) 32⟩
  else zeroPtr
/-- What Get answers, and what is left. -/
def getA (l : List Int) : PtrV × Int × List Int := if l.length < 44 then (zeroPtr, 3, l) else (ptrOf l, 0, l.drop 44)
theorem ptrOf_ptrB (q : PtrV) (R : List Int) (hR : Byt R) : ptrOf (ptrB q ++ R) = q := by
  have h4 := putI_length q.ad 4
  have h8 := putI_length q.bi 8
  have hs := q.s0.1
  have hb : Byt (ptrB q ++ R) := fun z hz => by
    rcases List.mem_append.1 hz with h | h
    · exact ptrB_byt q z h
    · exact hR z h
  unfold ptrOf
  rw [dif_pos ⟨by rw [List.length_append, ptrB_length]; omega, hb⟩]
  have e1 : (ptrB q ++ R).take 4 = putI q.ad 4 := by
    unfold ptrB
    rw [List.append_assoc, List.take_append_of_le_length (by omega), List.take_of_length_le (by omega)]
  have e2 : (ptrB q ++ R).drop 4 = putI q.bi 8 ++ (q.su ++ R) := by
    unfold ptrB
    rw [List.append_assoc, List.drop_append_of_le_length (by omega), List.drop_eq_nil_of_le (by omega), List.nil_append, List.append_assoc]
  have e3 : (ptrB q ++ R).drop 12 = q.su ++ R := by
    rw [show (12 : Nat) = 4 + 8 from rfl, ← List.drop_drop, e2, List.drop_append_of_le_length (by omega), List.drop_eq_nil_of_le (by omega), List.nil_append]
  refine PtrV.same ?_ ?_ ?_
  · show num ((ptrB q ++ R).take 4) = q.ad
    rw [e1]
    exact putI_num 4 _ q.a0.1 (by have := q.a0.2; omega)
  · show num (((ptrB q ++ R).drop 4).take 8) = q.bi
    rw [e2, List.take_append_of_le_length (by omega), List.take_of_length_le (by omega)]
    exact putI_num 8 _ q.b0.1 (by have := q.b0.2; omega)
  · show ((ptrB q ++ R).drop 12).take 32 = q.su
    rw [e3, List.take_append_of_le_length (by omega), List.take_of_length_le (by omega)]
theorem getA_ptrB (q : PtrV) (R : List Int) (hR : Byt R) : getA (ptrB q ++ R) = (q, 0, R) := by
  unfold getA
  rw [if_neg (by rw [List.length_append, ptrB_length]; omega), ptrOf_ptrB q R hR, List.drop_append_of_le_length (by rw [ptrB_length]; exact Nat.le_refl _), List.drop_eq_nil_of_le (by rw [ptrB_length]; exact Nat.le_refl _), List.nil_append]
theorem numA_in8 (k : Nat) (l : List Int) (h : k ≤ l.length) (h8 : k ≤ 8) : numA (k : Int) l = (num (l.take k), 0, l.drop k) := by
  unfold numA rawA
  rw [if_neg (by omega), if_neg (by omega), if_neg (by omega)]
  rfl
theorem Chg.only {R : Nat} {w w1 w' : World} (h : Only R w w1) (q : Chg R w1 w') : Chg R w w' := (Chg.of_only h).trans q

set_option maxRecDepth 100000 in
set_option maxHeartbeats 1600000 in
theorem pget_short (R lb cb : Nat) (ab : Option Addr) (l : List Int) (w : World) (h : RR w 114 R ab lb cb l) (hs : l.length < 44) :
    Calls Try.prog 71 #[.pointer (some ⟨R, 0, none⟩)] w fun e w' => e = .returned (.tuple #[.agg (ptrRow zeroPtr).toArray, .int .i64 3]) ∧ (∃ ab' lb' cb', RR w' 114 R ab' lb' cb' l) ∧ Chg R w w' := by
  have hb := (Below.refl w.heap.size w).alloc (Nat.le_refl _) (.cells (ptrRow zeroPtr).toArray 36)
  have hA := heap_alloc_new w (.cells (ptrRow zeroPtr).toArray 36)
  have h1 := h.below hb
  have HN := Lib.hid (pleft_any R lb cb ab l _ h1)
  have H0 := Lib.hid h
  have hz := zero_ptr
  have hbn := build_none
  have SE := Lib.hid (size_ptrA zeroPtr)
  have SO := Lib.hid (ptrRow_one zeroPtr)
  have HB := Lib.hid hb
  have HA := Lib.hid hA
  have hlt : decide ((l.length : Int) < 44) = true := by simp; omega
  clear h hb hA h1 hs
  generalize (ptrRow zeroPtr).toArray = ZR at *
  go_enter Try.func71, Try.ntmps71
  go_wp2_with fail
  refine HN.out.mono ?_
  rintro e w2 ⟨rfl, rfl⟩
  go_wp2_with (first
    | (with_reducible refine wpList_store_row (o := ⟨none, .store _ (.tmp 2) _, _, _, _, _⟩) rfl 36 _ _ rfl w.heap.size ZR rfl rfl 36 ZR HA.out SE.out rfl SO.out ?_))
  have h5 : Below w.heap.size w ((w.alloc (.cells ZR 36)).setRow w.heap.size ZR) := ybelow_row HB.out (Nat.le_refl _) _
  refine bodyPost_ret (v := .tuple #[.agg ZR, .int .i64 3]) (results_cell_two Try.results71 _ _ w.heap.size 36 ZR (0, 0) _ rfl (setRow_heap _ w.heap.size _ ZR _ _ HA.out) Try.underlying36 rfl SE.out _ (by simp)) rfl ⟨rfl, ⟨_, _, _, H0.out.below h5⟩, Chg.of_below h5⟩
theorem ptrOf_parts (l : List Int) (h : 44 ≤ l.length) (hb : Byt l) : num (l.take 4) = (ptrOf l).ad ∧ num ((l.drop 4).take 8) = (ptrOf l).bi ∧ (l.drop 12).take 32 = (ptrOf l).su := by
  unfold ptrOf
  rw [dif_pos ⟨h, hb⟩]
  exact ⟨rfl, rfl, rfl⟩
set_option maxRecDepth 100000 in
set_option maxHeartbeats 3200000 in
theorem pget_ok (R lb cb : Nat) (ab : Option Addr) (l : List Int) (w : World) (h : RR w 114 R ab lb cb l) (hs : 44 ≤ l.length) :
    Calls Try.prog 71 #[.pointer (some ⟨R, 0, none⟩)] w fun e w' => e = .returned (.tuple #[.agg (ptrRow (ptrOf l)).toArray, .int .i64 0]) ∧ (∃ ab' lb' cb', RR w' 114 R ab' lb' cb' (l.drop 44)) ∧ Chg R w w' := by
  have hb := (Below.refl w.heap.size w).alloc (Nat.le_refl _) (.cells (ptrRow zeroPtr).toArray 36)
  have hA := heap_alloc_new w (.cells (ptrRow zeroPtr).toArray 36)
  have hsz : (w.alloc (.cells (ptrRow zeroPtr).toArray 36)).heap.size = w.heap.size + 1 := by simp
  have h1 := h.below hb
  have hr1 := (RT.now h).keep (w' := w.alloc (.cells (ptrRow zeroPtr).toArray 36)) (by omega) (fun k hk => hb.block k hk)
  have hby := h.bytes.byt
  obtain ⟨p4, p8, p32⟩ := ptrOf_parts l hs hby
  have HN := Lib.hid (pleft_any R lb cb ab l _ h1)
  have HN1 := Lib.hid (pnum_t _ R l 4 _ hr1 (by omega))
  rw [show numA 4 l = (num (l.take 4), 0, l.drop 4) from numA_in8 4 l (by omega) (by omega), p4] at HN1
  have HM2 := Lib.hid (show numA 8 (l.drop 4) = ((ptrOf l).bi, 0, l.drop 12) by
    rw [show numA 8 (l.drop 4) = _ from numA_in8 8 (l.drop 4) (by rw [List.length_drop]; omega) (by omega), p8, List.drop_drop])
  have HM3 := Lib.hid (show hashA (l.drop 12) = ((ptrOf l).su, 0, l.drop 44) by
    unfold hashA
    rw [if_neg (by rw [List.length_drop]; omega), p32, List.drop_drop])
  have hz := zero_ptr
  have hzh := zero_hash7
  have SE := Lib.hid (size_ptrA (ptrOf l))
  have SO := Lib.hid (ptrRow_one (ptrOf l))
  have SL := Lib.hid (show (ptrRow zeroPtr).toArray.size = (ptrRow (ptrOf l)).toArray.size by simp [ptrRow_length])
  have HBD := Lib.hid (build_ptr (ptrOf l))
  have SH := Lib.hid (size_hash7 (ptrOf l).su (ptrOf l).s0.1)
  have SHO := Lib.hid (i8s_one (ptrOf l).su)
  have SHL := Lib.hid (show (i8s (List.replicate 32 0)).size = (i8s (ptrOf l).su).size by rw [i8s_size, i8s_size, (ptrOf l).s0.1]; simp)
  have hwr : IntKind.u32.wrap (ptrOf l).ad = (ptrOf l).ad := IntWalk.u32_in _ (by have := (ptrOf l).a0; omega)
  have HRl := Lib.hid (show R < w.heap.size from (Array.getElem?_eq_some_iff.1 h.cell).1)
  have HB := Lib.hid hb
  have HA := Lib.hid hA
  have HSZ := Lib.hid hsz
  have hlt : decide ((l.length : Int) < 44) = false := by simp; omega
  clear h hb hA h1 hs hsz hby p4 p8 p32 hr1
  generalize (ptrRow zeroPtr).toArray = ZR at *
  generalize (ptrRow (ptrOf l)).toArray = QR at *
  generalize (ptrOf l).ad = ad at *
  generalize (ptrOf l).bi = bi at *
  generalize (ptrOf l).su = su at *
  generalize i8s (List.replicate 32 0) = ZH at *
  generalize hSU : i8s su = SU at *
  have HSU := Lib.hid hSU
  clear hSU
  generalize hW1 : w.alloc (.cells ZR 36) = w1 at *
  go_enter Try.func71, Try.ntmps71
  go_upto_region 1 with fail
  clear hW1 hz
  go_wp2_with fail
  refine HN.out.mono ?_
  rintro e w2 ⟨rfl, rfl⟩
  clear HN
  go_wp2_with fail
  refine HN1.out.mono ?_
  rintro e w2 ⟨rfl, r2, O2⟩
  have HN2 := Lib.hid (pnum_t _ R _ 8 w2 r2 (by omega))
  rw [HM2.out] at HN2
  have HA2 := Lib.hid ((O2.rest w.heap.size (by have := HRl.out; omega)).trans HA.out)
  have C2 := Lib.hid ((Chg.of_below HB.out).trans (Chg.of_only O2))
  have SZ2 := Lib.hid (show w2.heap.size = w.heap.size + 1 by rw [O2.size]; exact HSZ.out)
  clear r2 O2 HN1 HM2 HA HB hlt
  go_wp2_with fail
  refine HN2.out.mono ?_
  rintro e w3 ⟨rfl, r3, O3⟩
  have HN3 := Lib.hid (phash_t _ R _ w3 r3)
  rw [HM3.out] at HN3
  have HA3 := Lib.hid ((O3.rest w.heap.size (by have := HRl.out; omega)).trans HA2.out)
  have C3 := Lib.hid (C2.out.trans (Chg.of_only O3))
  have SZ3 := Lib.hid (show w3.heap.size = w.heap.size + 1 by rw [O3.size]; exact SZ2.out)
  clear r3 O3 HN2 HM3 HA2 C2
  go_wp2_with fail
  refine HN3.out.mono ?_
  rintro e w4 ⟨rfl, r4, O4⟩
  have HA4 := Lib.hid ((O4.block w.heap.size (by have := SZ3.out; omega) (by have := HRl.out; omega)).trans HA3.out)
  have C4 := Lib.hid (C3.out.trans O4)
  have HR4 := Lib.hid r4
  have SZ4 := Lib.hid (show w.heap.size + 1 ≤ w4.heap.size by have := O4.size; have := SZ3.out; omega)
  clear r4 O4 HN3 HA3 C3
  rw [HSU.out]
  have HH := Lib.hid (heap_alloc_new w4 (.cells ZH 34))
  go_upto_region 8 with (first
    | (with_reducible refine wpList_store_row (o := ⟨none, .store _ (.tmp 8) _, _, _, _, _⟩) rfl 34 _ _ rfl w4.heap.size SU rfl rfl 34 ZH HH.out SH.out SHL.out SHO.out ?_))
  have H5 := Lib.hid (setRow_heap (w4.alloc (.cells ZH 34)) w4.heap.size _ SU _ _ HH.out)
  have hb5 : Below w4.heap.size w4 ((w4.alloc (.cells ZH 34)).setRow w4.heap.size SU) := ybelow_row ((Below.refl w4.heap.size w4).alloc (Nat.le_refl _) _) (Nat.le_refl _) _
  have HA5 := Lib.hid ((hb5.block w.heap.size (by have := SZ4.out; omega)).trans HA4.out)
  have HB5 := Lib.hid hb5
  generalize (w4.alloc (.cells ZH 34)).setRow w4.heap.size SU = w5 at *
  clear hb5 HH HA4 hzh
  go_wp2_with (first
    | (with_reducible refine wpList_load_row (o := ⟨some 35, _, _, _, _, _⟩) rfl 34 _ rfl w4.heap.size rfl 34 SU (0, 0) _ H5.out Try.underlying34 rfl SH.out ?_)
    | (with_reducible refine wpList_build_run (o := ⟨some 36, _, _, _, _, _⟩) rfl 36 _ rfl #[(0, .int .u32 ad), (1, .int .u64 bi), (2, .agg SU)] (by simp [Act.eval, Act.put]) (.agg QR) (HBD.out _) ?_)
    | (with_reducible refine wpList_store_row (o := ⟨none, .store _ (.tmp 2) _, _, _, _, _⟩) rfl 36 _ _ rfl w.heap.size QR rfl rfl 36 ZR HA5.out SE.out SL.out SO.out ?_))
  have hb6 : Below w.heap.size w4 (w5.setRow w.heap.size QR) := ybelow_row (HB5.out.mono (by have := SZ4.out; omega)) (Nat.le_refl _) _
  refine bodyPost_ret (v := .tuple #[.agg QR, .int .i64 0]) (results_cell_two Try.results71 _ _ w.heap.size 36 QR (0, 0) _ rfl (setRow_heap _ w.heap.size _ QR _ _ HA5.out) Try.underlying36 rfl SE.out _ (by simp)) rfl ⟨rfl, ?_, ?_⟩
  · exact (HR4.out.keep (Nat.le_trans (by have := SZ4.out; omega) hb6.size) (fun k hk => hb6.block k hk)).rr
  · exact ⟨hb6.os.trans C4.out.os, hb6.tape.trans C4.out.tape, hb6.output.trans C4.out.output, Nat.le_trans C4.out.size (Nat.le_trans HB5.out.size (by simp)), fun k hk hne => (hb6.block k hk).trans (C4.out.block k hk hne)⟩
theorem pget_any (R lb cb : Nat) (ab : Option Addr) (l : List Int) (w : World) (h : RR w 114 R ab lb cb l) :
    Calls Try.prog 71 #[.pointer (some ⟨R, 0, none⟩)] w fun e w' => e = .returned (.tuple #[.agg (ptrRow (getA l).1).toArray, .int .i64 (getA l).2.1]) ∧ (∃ ab' lb' cb', RR w' 114 R ab' lb' cb' (getA l).2.2) ∧ Chg R w w' := by
  by_cases hs : l.length < 44
  · rw [show getA l = (zeroPtr, 3, l) by unfold getA; rw [if_pos hs]]
    exact pget_short R lb cb ab l w h hs
  · rw [show getA l = (ptrOf l, 0, l.drop 44) by unfold getA; rw [if_neg hs]]
    exact pget_ok R lb cb ab l w h (by omega)

/-! ### the document's answer -/
def putAt (cur : List Value) (o : Nat) (vs : List Value) : List Value := cur.take o ++ vs ++ cur.drop (o + vs.length)
theorem heap_putAt (b : Nat) (t : TypeId) : ∀ (vs : List Value) (o : Nat) (w : World) (cur : List Value), w.heap[b]? = some (.cells cur.toArray t (0, 0)) → o + vs.length ≤ cur.length →
    (w.setCells b o vs).heap[b]? = some (.cells (putAt cur o vs).toArray t (0, 0))
  | [], o, w, cur, hg, _ => by simpa [World.setCells, putAt] using hg
  | v :: r, o, w, cur, hg, hl => by
    simp only [List.length_cons] at hl
    have h1 := heap_setCell_same w b o _ _ v hg
    rw [List.setIfInBounds_toArray] at h1
    have ih := heap_putAt b t r (o + 1) (w.setCell ⟨b, o, none⟩ v) (cur.set o v) h1 (by simp; omega)
    rw [World.setCells, ih]
    congr 3
    unfold putAt
    rw [List.take_succ_eq_append_getElem (by simp; omega), List.getElem_set_self, List.take_set_of_le (by omega), List.drop_set_of_lt (by omega)]
    simp only [List.append_assoc, List.cons_append, List.nil_append, List.length_cons]
    rw [show o + 1 + r.length = o + (r.length + 1) by omega]
theorem below_sets (b : Nat) : ∀ (vs : List Value) (o : Nat) (a w : World) (N : Nat), Below N a w → N ≤ b → Below N a (w.setCells b o vs)
  | [], _, _, _, _, h, _ => h
  | v :: r, o, a, _, N, h, hb => below_sets b r (o + 1) a _ N (h.setCell (show N ≤ (⟨b, o, none⟩ : Addr).block from hb) v) hb
/-- A pointer's cells, whatever stands in them. -/
def prow (a b : Int) (s : List Int) : List Value := .int .u32 a :: .int .u64 b :: s.map (Value.int .u8)
theorem prow_ptr (q : PtrV) : prow q.ad q.bi q.su = ptrRow q := rfl
theorem chg_below {R N : Nat} {w w1 w2 : World} (h : Chg R w w1) (hN : w.heap.size ≤ N) (b : Below N w1 w2) : Chg R w w2 :=
  ⟨b.os.trans h.os, b.tape.trans h.tape, b.output.trans h.output, Nat.le_trans h.size b.size, fun k hk hne => (b.block k (Nat.lt_of_lt_of_le hk hN)).trans (h.block k hk hne)⟩
/-- Two cells of the call's own, of pointers. -/
theorem two_ptrs (w : World) (Z : Array Value) :
    Below w.heap.size w ((w.alloc (.cells Z 36)).alloc (.cells Z 36)) ∧ ((w.alloc (.cells Z 36)).alloc (.cells Z 36)).heap.size = w.heap.size + 2 ∧
      ((w.alloc (.cells Z 36)).alloc (.cells Z 36)).heap[w.heap.size]? = some (.cells Z 36 (0, 0)) ∧ ((w.alloc (.cells Z 36)).alloc (.cells Z 36)).heap[w.heap.size + 1]? = some (.cells Z 36 (0, 0)) := by
  have hb := (Below.refl w.heap.size w).alloc (Nat.le_refl _) (.cells Z 36)
  have hs1 : (w.alloc (.cells Z 36)).heap.size = w.heap.size + 1 := by simp
  refine ⟨hb.alloc hb.size _, by simp, ?_, ?_⟩
  · exact (((Below.refl _ (w.alloc (.cells Z 36))).alloc (Nat.le_refl _) (.cells Z 36)).block w.heap.size (by omega)).trans (heap_alloc_new w (.cells Z 36))
  · have q := heap_alloc_new (w.alloc (.cells Z 36)) (.cells Z 36)
    rwa [hs1] at q
set_option maxRecDepth 100000 in
set_option maxHeartbeats 1600000 in
theorem rgetp_short (R lb cb : Nat) (ab : Option Addr) (l : List Int) (w : World) (h : RR w 79 R ab lb cb l) (hs : l.length < 44) :
    Calls Try.prog 48 #[.pointer (some ⟨R, 0, none⟩)] w fun e w' => e = .returned (.tuple #[.agg (ptrRow zeroPtr).toArray, .int .i64 3]) ∧ (∃ ab' lb' cb', RR w' 79 R ab' lb' cb' l) ∧ Chg R w w' := by
  obtain ⟨hb2, hs2, hA1, hA2⟩ := two_ptrs w (ptrRow zeroPtr).toArray
  have c0 := (h.below hb2).at
  have H0 := Lib.hid h
  have hz := zero_ptr
  have SE := Lib.hid (size_ptrA zeroPtr)
  have SO := Lib.hid (ptrRow_one zeroPtr)
  have HB := Lib.hid hb2
  have HA1 := Lib.hid hA1
  have HA2 := Lib.hid hA2
  have hlt : decide ((lb : Int) < 44) = true := by have := h.len; simp; omega
  have hlt2 : decide (lb < 44) = true := by have := h.len; simp; omega
  clear h hb2 hA1 hA2 hs hs2
  generalize (ptrRow zeroPtr).toArray = ZR at *
  generalize hW2 : (w.alloc (.cells ZR 36)).alloc (.cells ZR 36) = w2 at *
  go_enter Try.func48, Try.ntmps48
  go_upto_region 2 with fail
  try rw [hW2]
  clear hW2 hz
  go_wp2_with (first
    | (with_reducible refine wpList_load_row (o := ⟨some 13, _, _, _, _, _⟩) rfl 36 _ rfl (w.heap.size + 1) rfl 36 ZR (0, 0) _ HA2.out Try.underlying36 rfl SE.out ?_)
    | (with_reducible refine wpList_store_row (o := ⟨none, .store _ (.tmp 2) _, _, _, _, _⟩) rfl 36 _ _ rfl w.heap.size ZR rfl rfl 36 ZR HA1.out SE.out rfl SO.out ?_))
  have h5 : Below w.heap.size w (w2.setRow w.heap.size ZR) := ybelow_row HB.out (Nat.le_refl _) _
  refine bodyPost_ret (v := .tuple #[.agg ZR, .int .i64 3]) (results_cell_two Try.results48 _ _ w.heap.size 36 ZR (0, 0) _ rfl (setRow_heap _ w.heap.size _ ZR _ _ HA1.out) Try.underlying36 rfl SE.out _ (by simp)) rfl ⟨rfl, ⟨_, _, _, H0.out.below h5⟩, Chg.of_below h5⟩
set_option maxRecDepth 100000 in
set_option maxHeartbeats 3200000 in
theorem rgetp_ok (R lb cb : Nat) (ab : Option Addr) (l : List Int) (w : World) (h : RR w 79 R ab lb cb l) (hs : 44 ≤ l.length) :
    Calls Try.prog 48 #[.pointer (some ⟨R, 0, none⟩)] w fun e w' => e = .returned (.tuple #[.agg (ptrRow (ptrOf l)).toArray, .int .i64 0]) ∧ (∃ ab' lb' cb', RR w' 79 R ab' lb' cb' (l.drop 44)) ∧ Chg R w w' := by
  obtain ⟨hb2, hs2, hA1, hA2⟩ := two_ptrs w (ptrRow zeroPtr).toArray
  have c0 := (h.below hb2).at
  have hr1 := (RT.now h).keep (w' := (w.alloc (.cells (ptrRow zeroPtr).toArray 36)).alloc (.cells (ptrRow zeroPtr).toArray 36)) (by omega) (fun k hk => hb2.block k hk)
  have hby := h.bytes.byt
  obtain ⟨p4, p8, p32⟩ := ptrOf_parts l hs hby
  have HN1 := Lib.hid (rnum_t _ R l 4 _ hr1 (by omega))
  rw [show numA 4 l = (num (l.take 4), 0, l.drop 4) from numA_in8 4 l (by omega) (by omega), p4] at HN1
  have HM2 := Lib.hid (show numA 8 (l.drop 4) = ((ptrOf l).bi, 0, l.drop 12) by
    rw [show numA 8 (l.drop 4) = _ from numA_in8 8 (l.drop 4) (by rw [List.length_drop]; omega) (by omega), p8, List.drop_drop])
  have HM3 := Lib.hid (show hashA (l.drop 12) = ((ptrOf l).su, 0, l.drop 44) by
    unfold hashA
    rw [if_neg (by rw [List.length_drop]; omega), p32, List.drop_drop])
  have hz := zero_ptr
  have SE := Lib.hid (size_ptrA (ptrOf l))
  have SO := Lib.hid (ptrRow_one (ptrOf l))
  have SL := Lib.hid (show (ptrRow zeroPtr).toArray.size = (ptrRow (ptrOf l)).toArray.size by simp [ptrRow_length])
  have SH := Lib.hid (size_hash7 (ptrOf l).su (ptrOf l).s0.1)
  have SHO := Lib.hid (i8s_one (ptrOf l).su)
  have HPR := Lib.hid (show prow (ptrOf l).ad (ptrOf l).bi (ptrOf l).su = ptrRow (ptrOf l) from rfl)
  have HQL := Lib.hid (ptrOf l).s0.1
  have hwr : IntKind.u32.wrap (ptrOf l).ad = (ptrOf l).ad := IntWalk.u32_in _ (by have := (ptrOf l).a0; omega)
  have HRl := Lib.hid (show R < w.heap.size from (Array.getElem?_eq_some_iff.1 h.cell).1)
  have HB := Lib.hid hb2
  have HA1 := Lib.hid hA1
  have HA2 := Lib.hid hA2
  have HSZ := Lib.hid hs2
  have HZR := Lib.hid (show (ptrRow zeroPtr).toArray = (prow 0 0 (List.replicate 32 0)).toArray from rfl)
  have hlt : decide ((lb : Int) < 44) = false := by have := h.len; simp; omega
  have hlt2 : decide (lb < 44) = false := by have := h.len; simp; omega
  clear h hb2 hA1 hA2 hs hs2 hby p4 p8 p32 hr1
  generalize (ptrRow zeroPtr).toArray = ZR at *
  generalize hQR : (ptrRow (ptrOf l)).toArray = QR at *
  generalize (ptrOf l).ad = ad at *
  generalize (ptrOf l).bi = bi at *
  generalize (ptrOf l).su = su at *
  have HQR := Lib.hid (show (prow ad bi su).toArray = QR by rw [HPR.out]; exact hQR)
  clear hQR HPR
  generalize hW2 : (w.alloc (.cells ZR 36)).alloc (.cells ZR 36) = w2 at *
  go_enter Try.func48, Try.ntmps48
  go_upto_region 2 with fail
  try rw [hW2]
  clear hW2 hz
  go_wp2_with fail
  refine HN1.out.mono ?_
  rintro e w3 ⟨rfl, r3, O3⟩
  have HN2 := Lib.hid (fun w3' (q : RT w.heap.size w3' 79 R (List.drop 4 l)) => rnum_t _ R _ 8 w3' q (by omega))
  rw [HM2.out] at HN2
  have HA13 := Lib.hid ((O3.rest w.heap.size (by have := HRl.out; omega)).trans HA1.out)
  have hA23 := (O3.rest (w.heap.size + 1) (by have := HRl.out; omega)).trans HA2.out
  rw [HZR.out] at hA23
  have HA23 := Lib.hid hA23
  have C3 := Lib.hid ((Chg.of_below HB.out).trans (Chg.of_only O3))
  have SZ3 := Lib.hid (show w3.heap.size = w.heap.size + 2 by rw [O3.size]; exact HSZ.out)
  have R3 := Lib.hid r3
  have d0 : w3.cell? ⟨w.heap.size + 1, 0, none⟩ = some (.int .u32 0) := cell_of_row _ _ _ _ _ _ hA23
  have f0 : w3.frozen? ⟨w.heap.size + 1, 0, none⟩ = false := frozen_of_row _ _ _ _ _ hA23
  clear r3 O3 HN1 HM2 HA1 HA2 HB hlt hlt2 c0 hA23
  go_upto_region 6 with fail
  have hA4 := heap_setCell_same w3 (w.heap.size + 1) 0 _ _ (.int .u32 ad) HA23.out
  rw [show (prow 0 0 (List.replicate 32 0)).toArray.setIfInBounds 0 (.int .u32 ad) = (prow ad 0 (List.replicate 32 0)).toArray by simp [prow]] at hA4
  have hb4 : Below (w.heap.size + 1) w3 (w3.setCell ⟨w.heap.size + 1, 0, none⟩ (.int .u32 ad)) := ((Below.refl w3.heap.size w3).mono (by have := SZ3.out; omega)).setCell (show w.heap.size + 1 ≤ (⟨w.heap.size + 1, 0, none⟩ : Addr).block from Nat.le_refl _) _
  have hs4 : (w3.setCell ⟨w.heap.size + 1, 0, none⟩ (.int .u32 ad)).heap.size = w.heap.size + 2 := by rw [← SZ3.out]; simp
  generalize w3.setCell ⟨w.heap.size + 1, 0, none⟩ (.int .u32 ad) = w4 at *
  have HN2' := Lib.hid (HN2.out w4 (R3.out.keep (by omega) (fun k hk => hb4.block k (by omega))))
  have HA14 := Lib.hid ((hb4.block w.heap.size (by omega)).trans HA13.out)
  have HA24 := Lib.hid hA4
  have C4 := Lib.hid (chg_below C3.out (Nat.le_succ _) hb4)
  have SZ4 := Lib.hid hs4
  clear hA4 hb4 hs4 HN2 HA13 HA23 C3 SZ3 R3 d0 f0 hwr
  go_wp2_with fail
  refine HN2'.out.mono ?_
  rintro e w5 ⟨rfl, r5, O5⟩
  have HA15 := Lib.hid ((O5.rest w.heap.size (by have := HRl.out; omega)).trans HA14.out)
  have hA25 := (O5.rest (w.heap.size + 1) (by have := HRl.out; omega)).trans HA24.out
  have HA25 := Lib.hid hA25
  have C5 := Lib.hid (C4.out.trans (Chg.of_only O5))
  have SZ5 := Lib.hid (show w5.heap.size = w.heap.size + 2 by rw [O5.size]; exact SZ4.out)
  have R5 := Lib.hid r5
  have d1 : w5.cell? ⟨w.heap.size + 1, 1, none⟩ = some (.int .u64 0) := cell_of_row _ _ _ _ _ _ hA25
  have f1 : w5.frozen? ⟨w.heap.size + 1, 1, none⟩ = false := frozen_of_row _ _ _ _ _ hA25
  clear r5 O5 HN2' HA14 HA24 C4 SZ4 hA25
  go_upto_region 7 with fail
  have hA6 := heap_setCell_same w5 (w.heap.size + 1) 1 _ _ (.int .u64 bi) HA25.out
  rw [show (prow ad 0 (List.replicate 32 0)).toArray.setIfInBounds 1 (.int .u64 bi) = (prow ad bi (List.replicate 32 0)).toArray by simp [prow]] at hA6
  have hb6 : Below (w.heap.size + 1) w5 (w5.setCell ⟨w.heap.size + 1, 1, none⟩ (.int .u64 bi)) := ((Below.refl w5.heap.size w5).mono (by have := SZ5.out; omega)).setCell (show w.heap.size + 1 ≤ (⟨w.heap.size + 1, 1, none⟩ : Addr).block from Nat.le_refl _) _
  have hs6 : (w5.setCell ⟨w.heap.size + 1, 1, none⟩ (.int .u64 bi)).heap.size = w.heap.size + 2 := by rw [← SZ5.out]; simp
  generalize w5.setCell ⟨w.heap.size + 1, 1, none⟩ (.int .u64 bi) = w6 at *
  have HN3 := Lib.hid (rhash_t _ R _ w6 (R5.out.keep (by omega) (fun k hk => hb6.block k (by omega))))
  rw [HM3.out] at HN3
  have HA16 := Lib.hid ((hb6.block w.heap.size (by omega)).trans HA15.out)
  have HA26 := Lib.hid hA6
  have C6 := Lib.hid (chg_below C5.out (Nat.le_succ _) hb6)
  have SZ6 := Lib.hid hs6
  clear hA6 hb6 hs6 HA15 HA25 C5 SZ5 R5 d1 f1 HM3
  go_wp2_with fail
  refine HN3.out.mono ?_
  rintro e w7 ⟨rfl, r7, O7⟩
  have HA17 := Lib.hid ((O7.block w.heap.size (by have := SZ6.out; omega) (by have := HRl.out; omega)).trans HA16.out)
  have hA27 := (O7.block (w.heap.size + 1) (by have := SZ6.out; omega) (by have := HRl.out; omega)).trans HA26.out
  have C7 := Lib.hid (C6.out.trans O7)
  have SZ7 := Lib.hid (show w.heap.size + 2 ≤ w7.heap.size by have := O7.size; have := SZ6.out; omega)
  have R7 := Lib.hid r7
  have HTH := Lib.hid (show w7.there (w.heap.size + 1) 2 (i8s su).size from fun j hj => by
    rw [i8s_size, HQL.out] at hj
    refine ⟨?_, frozen_of_row _ _ _ _ _ hA27⟩
    rw [cell_of_row _ _ _ _ _ _ hA27]
    rw [List.getElem?_toArray, List.getElem?_eq_getElem (by simp [prow]; omega)]
    rfl)
  have H8 := Lib.hid (heap_putAt (w.heap.size + 1) 36 (i8s su).toList 2 w7 _ hA27 (by simp [prow, i8s, HQL.out]))
  have HP8 := Lib.hid (show (putAt (prow ad bi (List.replicate 32 0)) 2 (i8s su).toList).toArray = QR by
    rw [← HQR.out]
    have hl := HQL.out
    simp [putAt, prow, i8s, hl])
  clear r7 O7 HN3 HA16 HA26 C6 SZ6 hA27
  go_upto_region 8 with (first
    | (with_reducible refine wpList_store_mid (op := ⟨none, .store _ (.tmp 33) _, _, _, _, _⟩) rfl 34 _ _ rfl (w.heap.size + 1) 2 (i8s su) rfl rfl HTH.out SH.out SHO.out ?_))
  have hA8 := H8.out
  rw [HP8.out] at hA8
  have hb8 := below_sets (w.heap.size + 1) (i8s su).toList 2 w7 w7 (w.heap.size + 1) ((Below.refl w7.heap.size w7).mono (by have := SZ7.out; omega)) (Nat.le_refl _)
  generalize w7.setCells (w.heap.size + 1) 2 (i8s su).toList = w8 at *
  have HA18 := Lib.hid ((hb8.block w.heap.size (by omega)).trans HA17.out)
  have HA28 := Lib.hid hA8
  have C8 := Lib.hid (chg_below C7.out (Nat.le_succ _) hb8)
  have R8 := Lib.hid (R7.out.keep (w' := w8) (by have := hb8.size; have := SZ7.out; omega) (fun k hk => hb8.block k (by omega)))
  have SZ8 := Lib.hid (Nat.le_trans SZ7.out hb8.size)
  clear hA8 hb8 H8 HP8 HA17 C7 R7 SZ7 HTH
  go_wp2_with (first
    | (with_reducible refine wpList_load_row (o := ⟨some 34, _, _, _, _, _⟩) rfl 36 _ rfl (w.heap.size + 1) rfl 36 QR (0, 0) _ HA28.out Try.underlying36 rfl SE.out ?_)
    | (with_reducible refine wpList_store_row (o := ⟨none, .store _ (.tmp 2) _, _, _, _, _⟩) rfl 36 _ _ rfl w.heap.size QR rfl rfl 36 ZR HA18.out SE.out SL.out SO.out ?_))
  have hb9 : Below w.heap.size w8 (w8.setRow w.heap.size QR) := ybelow_row ((Below.refl w8.heap.size w8).mono (by have := SZ8.out; omega)) (Nat.le_refl _) _
  refine bodyPost_ret (v := .tuple #[.agg QR, .int .i64 0]) (results_cell_two Try.results48 _ _ w.heap.size 36 QR (0, 0) _ rfl (setRow_heap _ w.heap.size _ QR _ _ HA18.out) Try.underlying36 rfl SE.out _ (by simp)) rfl ⟨rfl, ?_, ?_⟩
  · exact (R8.out.keep (Nat.le_trans (by have := SZ8.out; omega) hb9.size) (fun k hk => hb9.block k hk)).rr
  · exact chg_below C8.out (Nat.le_refl _) hb9
theorem rgetp_any (R lb cb : Nat) (ab : Option Addr) (l : List Int) (w : World) (h : RR w 79 R ab lb cb l) :
    Calls Try.prog 48 #[.pointer (some ⟨R, 0, none⟩)] w fun e w' => e = .returned (.tuple #[.agg (ptrRow (getA l).1).toArray, .int .i64 (getA l).2.1]) ∧ (∃ ab' lb' cb', RR w' 79 R ab' lb' cb' (getA l).2.2) ∧ Chg R w w' := by
  by_cases hs : l.length < 44
  · rw [show getA l = (zeroPtr, 3, l) by unfold getA; rw [if_pos hs]]
    exact rgetp_short R lb cb ab l w h hs
  · rw [show getA l = (ptrOf l, 0, l.drop 44) by unfold getA; rw [if_neg hs]]
    exact rgetp_ok R lb cb ab l w h (by omega)
end Go.Proofs.Ytkafabcklohlmaa
