/-
  The program's Counts of layer 8, in memory; its calls.
-/
import Derived.Test.YtocdjaenhllemaaKi
import Derived.Test.YtocdjaenhllemaaCod0
import Derived.StillTailTactics
namespace Go.Proofs.Ytocdjaenhllemaa
set_option maxRecDepth 4000
open Go.RowKit

/-- The block of a map value. -/
def mbl : Value → List Nat
  | .map (some b) => [b]
  | _ => []
/-- What a map value holds: nothing, if it is nil; else the pointers of the list, each with its count. -/
def MV8 (w0 w : World) (mv : Value) (L : List PtrV) (K : Nat) : Prop :=
  (mv = .map none ∧ L = []) ∨ ∃ bm D, mv = .map (some bm) ∧ w0.heap.size ≤ bm ∧ OM w bm K D ∧ MapL D L
/-- A Counts of a law's own. -/
structure CO (w0 w : World) (C : Nat) (mv : Value) (L : List PtrV) (K : Nat) : Prop where
  cell : w.heap[C]? = some (.cells #[mv] 55 (0, 0))
  new : w0.heap.size ≤ C
  map : MV8 w0 w mv L K
  bel : Below w0.heap.size w0 w
theorem MV8.lt {w0 w : World} {mv : Value} {L : List PtrV} {K : Nat} (h : MV8 w0 w mv L K) : ∀ g ∈ mbl mv, g < w.heap.size ∧ w0.heap.size ≤ g ∧ ∃ es clock, w.heap[g]? = some (.map es clock) := by
  intro g hg
  rcases h with ⟨rfl, _⟩ | ⟨bm, D, rfl, hb, ho, _⟩
  · simp [mbl] at hg
  · obtain rfl : g = bm := by simpa [mbl] using hg
    exact ⟨ho.lt, hb, by obtain ⟨es, clock, h, _⟩ := ho; exact ⟨es, clock, h⟩⟩
theorem MV8.move {w0 w w' : World} {mv : Value} {L : List PtrV} {K : Nat} (h : MV8 w0 w mv L K) (e : ∀ g ∈ mbl mv, w'.heap[g]? = w.heap[g]?) : MV8 w0 w' mv L K := by
  rcases h with h | ⟨bm, D, rfl, hb, ho, hm⟩
  · exact .inl h
  · exact .inr ⟨bm, D, rfl, hb, om_move ho (e bm (by simp [mbl])), hm⟩
theorem CO.lt {w0 w : World} {C K : Nat} {mv : Value} {L : List PtrV} (h : CO w0 w C mv L K) : C < w.heap.size := (Array.getElem?_eq_some_iff.1 h.cell).1
theorem CO.ne {w0 w : World} {C K : Nat} {mv : Value} {L : List PtrV} (h : CO w0 w C mv L K) : C ∉ mbl mv := fun hm => by
  obtain ⟨_, _, es, clock, he⟩ := h.map.lt C hm
  rw [h.cell] at he
  cases he
theorem CO.touch {w0 w w' : World} {C K : Nat} {mv : Value} {L : List PtrV} {l : List Nat} (h : CO w0 w C mv L K) (t : Touch l w w') (hd : ∀ g ∈ C :: mbl mv, g ∉ l) (hl : ∀ g ∈ l, w0.heap.size ≤ g) : CO w0 w' C mv L K :=
  ⟨(t.block C h.lt (hd C (by simp))).trans h.cell, h.new, h.map.move (fun g hg => t.block g (h.map.lt g hg).1 (hd g (by simp [hg]))), h.bel.trans (t.below h.bel.size hl)⟩
theorem CO.below {w0 w w' : World} {C K : Nat} {mv : Value} {L : List PtrV} (h : CO w0 w C mv L K) (b : Below w.heap.size w w') : CO w0 w' C mv L K :=
  h.touch (l := []) (Touch.of_below b) (fun _ _ => by simp) (fun _ hg => by simp at hg)
theorem CO.mono {w0 w : World} {C K K' : Nat} {mv : Value} {L : List PtrV} (h : CO w0 w C mv L K) (hK : K ≤ K') : CO w0 w C mv L K' :=
  ⟨h.cell, h.new, by
    rcases h.map with h | ⟨bm, D, e, hb, ho, hm⟩
    · exact .inl h
    · exact .inr ⟨bm, D, e, hb, ho.mono hK, hm⟩, h.bel⟩
/-- What a call on a Counts may change. -/
def CStep (w w' : World) (C : Nat) (mv mv' : Value) : Prop := Touch (C :: mbl mv) w w' ∧ (mbl mv' = mbl mv ∨ ∃ b, mbl mv' = [b] ∧ w.heap.size ≤ b)
theorem look_mv {w0 w : World} {mv : Value} {L : List PtrV} {K : Nat} (h : MV8 w0 w mv L K) (q : PtrV) :
    (Instr.lookup 53 mv (.agg (ptrRow q).toArray) false).run Try.prog w = .ok (.int .i64 (L.count q : Int)) w := by
  rcases h with ⟨rfl, rfl⟩ | ⟨bm, D, rfl, _, ho, hm⟩
  · exact Maps.look_nil false keyed_ptr Try.underlying53 (zero_int8 w) (key_ptr q)
  · exact om_look ho hm q
theorem len_mv {w0 w : World} {mv : Value} {L : List PtrV} {K : Nat} (h : MV8 w0 w mv L K) (ty : TypeId) : (Builtin.len_ #[53] ty #[mv]).run Try.prog w = .ok (.int .i64 (distinct L : Int)) w := by
  rcases h with ⟨rfl, rfl⟩ | ⟨bm, D, rfl, _, ho, hm⟩
  · exact Maps.len_nil Try.underlying53 ty
  · rw [World.ownsMap.len ho Try.underlying53 ty, size_mapL ho hm]
theorem box_facts (w : World) (q : PtrV) : (w.alloc (.cells (ptrRow q).toArray 35)).rangeAt w.heap.size 0 (ptrRow q) ∧ Below w.heap.size w (w.alloc (.cells (ptrRow q).toArray 35)) ∧ (w.alloc (.cells (ptrRow q).toArray 35)).heap.size = w.heap.size + 1 :=
  ⟨range_of_row (heap_alloc_new w (.cells (ptrRow q).toArray 35)), (Below.refl w.heap.size w).alloc (Nat.le_refl _) _, by simp⟩
theorem cell1 {w : World} {C t : Nat} {mv : Value} (h : w.heap[C]? = some (.cells #[mv] t (0, 0))) : w.cell? ⟨C, 0, none⟩ = some mv ∧ w.frozen? ⟨C, 0, none⟩ = false :=
  ⟨cell_of_row _ _ _ _ _ _ h, frozen_of_row _ _ _ _ _ h⟩
set_option maxHeartbeats 800000 in
theorem pnew8 (w0 w : World) (hb : Below w0.heap.size w0 w) :
    Calls Try.prog 5 #[] w fun e w' => e = .returned (.pointer (some ⟨w.heap.size, 0, none⟩)) ∧ CO w0 w' w.heap.size (.map none) [] 0 ∧ Below w.heap.size w w' := by
  have HX := Lib.hid (show CO w0 (w.alloc (.cells #[.map none] 55)) w.heap.size (.map none) [] 0 ∧ Below w.heap.size w (w.alloc (.cells #[.map none] 55)) from
    ⟨⟨heap_alloc_new w _, hb.size, .inl ⟨rfl, rfl⟩, hb.alloc hb.size _⟩, (Below.refl w.heap.size w).alloc (Nat.le_refl _) _⟩)
  clear hb
  go_enter Try.func5, Try.ntmps5
  go_wp2_with fail
  go_ret
  exact ⟨rfl, HX.out.1, HX.out.2⟩
set_option maxHeartbeats 800000 in
theorem plen8 (w0 w : World) (C K : Nat) (mv : Value) (L : List PtrV) (h : CO w0 w C mv L K) :
    Calls Try.prog 12 #[.pointer (some ⟨C, 0, none⟩)] w fun e w' => e = .returned (.int .i64 (distinct L : Int)) ∧ w' = w := by
  obtain ⟨c0, _⟩ := cell1 h.cell
  have hln := len_mv h.map
  clear h
  go_enter Try.func12, Try.ntmps12
  go_wp2_with fail
  go_ret
  exact ⟨rfl, rfl⟩
set_option maxRecDepth 100000 in
set_option maxHeartbeats 1600000 in
theorem pof8 (w0 w : World) (C K : Nat) (mv : Value) (L : List PtrV) (q : PtrV) (h : CO w0 w C mv L K) :
    Calls Try.prog 10 #[.pointer (some ⟨C, 0, none⟩), .agg (ptrRow q).toArray] w fun e w' => e = .returned (.int .i64 (L.count q : Int)) ∧ Below w.heap.size w w' := by
  obtain ⟨hr, hb, hs⟩ := box_facts w q
  have h1 := h.below hb
  obtain ⟨T, hT⟩ : ∃ T, w.heap.size = T := ⟨_, rfl⟩
  have hTl : T < (w.alloc (.cells (ptrRow q).toArray 35)).heap.size := by omega
  rw [hT] at hr
  have HSS := Lib.hid (show ∀ W : World, Below (w.alloc (.cells (ptrRow q).toArray 35)).heap.size (w.alloc (.cells (ptrRow q).toArray 35)) W → W.cell? ⟨C, 0, none⟩ = some mv ∧ W.rangeAt T 0 (ptrRow q) from
    fun W hW => ⟨(cell1 (h1.below hW).cell).1, range_below hr hW⟩)
  have HLK := Lib.hid (show ∀ W : World, Below (w.alloc (.cells (ptrRow q).toArray 35)).heap.size (w.alloc (.cells (ptrRow q).toArray 35)) W → (Instr.lookup 53 mv (.agg (ptrRow q).toArray) false).run Try.prog W = .ok (.int .i64 (L.count q : Int)) W from
    fun W hW => look_mv (h1.below hW).map q)
  have SZ := Lib.hid (size_ptr q)
  have HBB := Lib.hid (show Below w.heap.size w (w.alloc (.cells (ptrRow q).toArray 35)) from hb)
  clear h hr hb hs h1 hTl
  generalize L.count q = cq at *
  obtain ⟨AL, hAL⟩ : ∃ AL, ptrRow q = AL := ⟨_, rfl⟩
  rw [hAL] at HSS HLK SZ HBB
  rw [hAL]
  obtain ⟨AR, hAR⟩ : ∃ AR, AL.toArray = AR := ⟨_, rfl⟩
  rw [hAR] at HSS HLK HBB
  rw [hAR]
  have HAL := Lib.hid hAR
  clear hAL hAR
  generalize hW1 : w.alloc (.cells AR 35) = w1 at *
  go_enter Try.func10, Try.ntmps10
  go_upto_region 3 with fail
  try rw [hT]
  clear hT hW1
  try simp only [Act.put]
  refine wp_region_noPanic ?_
  refine wp_region_held_drew (S := fun W => W.cell? ⟨C, 0, none⟩ = some mv ∧ W.rangeAt T 0 AL) (by kernel_rfl) (HSS.out _ (Below.refl _ w1).drew) (fun hHeld => ?_)
  refine wpAnyH_take (i := 0) (oi := ⟨some 7, _, _, _, _, _⟩) (v := ?_) rfl (by kernel_rfl) (by decide +kernel) (by decide +kernel) (fun _ _ _ h => h) (Or.inl ⟨by rfl, ?_⟩) (by assumption) ?_
  rotate_left 1
  · (intro w' hSw; go_simp; try with_reducible rfl)
  try simp only [Act.put, List.setIfInBounds_toArray, List.set_cons_zero, List.set_cons_succ]
  refine wpAnyH_take (i := 1) (oi := ⟨some 8, _, _, _, _, _⟩) (v := ?_) rfl (by kernel_rfl) (by decide +kernel) (by decide +kernel) (fun _ _ _ h => h) (Or.inl ⟨by rfl, ?_⟩) (by assumption) ?_
  rotate_left 1
  · (intro w' hSw; go_simp; try with_reducible rfl)
  try simp only [Act.put, List.setIfInBounds_toArray, List.set_cons_zero, List.set_cons_succ]
  refine wpAnyH_take (i := 2) (oi := ⟨some 9, _, _, _, _, _⟩) (v := ?_) rfl (by kernel_rfl) (by decide +kernel) (by decide +kernel) (fun _ _ _ h => h) (Or.inl ⟨by rfl, ?_⟩) (by assumption) ?_
  rotate_left 1
  · (intro w' hSw; go_simp; try with_reducible rfl)
  try simp only [Act.put, List.setIfInBounds_toArray, List.set_cons_zero, List.set_cons_succ]
  refine wpAnyH_take (i := 3) (oi := ⟨some 10, _, _, _, _, _⟩) (v := ?_) rfl (by kernel_rfl) (by decide +kernel) (by decide +kernel) (fun _ _ _ h => h) (Or.inl ⟨by rfl, ?_⟩) (by assumption) ?_
  rotate_left 1
  · (intro w' hSw; have hc := hSw.1; go_simp; try with_reducible rfl)
  try simp only [Act.put, List.setIfInBounds_toArray, List.set_cons_zero, List.set_cons_succ]
  refine wpAnyH_take (i := 4) (oi := ⟨some 11, _, _, _, _, _⟩) rfl (by kernel_rfl) (by decide +kernel) (by decide +kernel) (fun _ _ _ h => h) (yieldsIf_load_mid (by rfl) _ _ rfl T 0 rfl AL _ (fun w' h => h.2) Try.underlying35 rfl SZ.out) (by assumption) ?_
  try simp only [Act.put, List.setIfInBounds_toArray, List.set_cons_zero, List.set_cons_succ]
  rw [HAL.out]
  refine wpAnyH_ready (rs := [5]) (by decide +kernel) (by simp) ?_
  refine AllReadyH.cons rfl (fun K hK => ?_) AllReadyH.nil
  have hlk := HLK.out _ (Below.refl _ w1).drew
  go_simp
  refine hK.out _ _ (HSS.out _ (Below.refl _ w1).drew) (fun hHeld => ?_)
  clear hK K hlk
  try simp only [Act.put, List.setIfInBounds_toArray, List.set_cons_zero, List.set_cons_succ]
  refine wpAnyH_take (i := 6) (oi := ⟨some 4, _, _, _, _, _⟩) (v := ?_) rfl (by kernel_rfl) (by decide +kernel) (by decide +kernel) (fun _ _ _ h => h) (Or.inl ⟨by rfl, ?_⟩) (by assumption) ?_
  rotate_left 1
  · (intro w' hSw; go_simp; try with_reducible rfl)
  try simp only [Act.put, List.setIfInBounds_toArray, List.set_cons_zero, List.set_cons_succ]
  clear hHeld
  refine wpAnyH_done (by decide +kernel) ?_ _
  refine NoPanic.normal ?_
  go_wp2_with fail
  go_ret
  exact ⟨rfl, HBB.out.drew⟩
theorem run_eql_map8 {P : Program} (ty k e : TypeId) (hu : P.underlying ty = some (.map k e)) (x y : Operand) (t : Option Nat) (W : World) :
    (do eqGuard .eql ty x y (.map t) (.map none); binOp .eql ty (.map t) (.map none) : Sem Value).run P W = .ok (.bool t.isNone) W := by
  have e1 : (Op.equal ty (.map t) (.map none)).run P W = .ok t.isNone W := by
    show (Op.equalIn (9999 + 1) ty (.map t) (.map none)).run P W = _
    unfold Op.equalIn
    rw [Sem.run_bind, run_underlying hu]
    cases t <;> rfl
  have e2 : eqGuard .eql ty x y (.map t) (.map none) = pure () := rfl
  have e3 : binOp .eql ty (.map t) (.map none) = (do pure (.bool (← Op.equal ty (.map t) (.map none)))) := rfl
  rw [e2, e3]
  simp [e1]
theorem wpList_eql_map8 {P : Program} {ops : Array Oper} {rest : List Oper} {o : Oper} {a : Act} {w : World} {Q : Exit → Act → World → Prop} (hgd : o.guard = none) (ty k e : TypeId) (x y : Operand) (z : TypeId) (ho : o.op = .binOp .eql ty x y z) (hu : P.underlying ty = some (.map k e))
    (t : Option Nat) (hx : a.eval x = .map t) (hy : a.eval y = .map none) (b : Bool) (hb : t.isNone = b) (h : wpList P ops Q rest (a.put o.dst (.bool b)) w) : wpList P ops Q (o :: rest) a w := by
  subst hb
  refine wpList_plain hgd fun K hK => ?_
  have hr := run_eql_map8 ty k e hu x y t w
  unfold Oper.wp execOp
  simp only [ho, hx, hy]
  rw [Sem.run_bind, hr]
  exact hK _ _ h
theorem touch_block {w : World} {bm : Nat} {es : Array MapEntry} {clock : Nat} (hb : w.heap[bm]? = some (.map es clock)) (o : Obj) : Touch [bm] w (ChangeMaps.setBlock w bm o) :=
  ⟨rfl, rfl, rfl, by simp [ChangeMaps.setBlock], fun k _ hne => ChangeMaps.heap_setBlock_other hb o (by simpa using hne)⟩
/-- 'c.of[p]++', and what is read behind it: the world that it leaves. -/
theorem add_worlds {w0 w : World} {C T bm K : Nat} {L : List PtrV} {q : PtrV} {AL : List Value} (h : CO w0 w C (.map (some bm)) L K) (hr : w.rangeAt T 0 AL) (hAL : AL ≠ []) (hTn : T ≠ bm) (hK : K ≤ 1000000) (hL : L.length ≤ 1000000) :
    ∃ (v0 : Value) (st : Nat) (o1 o2 : Obj), (Instr.mapEntry 53 (.map (some bm)) (.agg (ptrRow q).toArray)).run Try.prog w.drew = .ok (.tuple #[v0, .int .i64 (st : Int)]) (ChangeMaps.setBlock w.drew bm o1) ∧
      (Instr.lookup 53 (.map (some bm)) (.agg (ptrRow q).toArray) false).run Try.prog w.drew = .ok (.int .i64 (L.count q : Int)) w.drew ∧
      (Instr.lookup 53 (.map (some bm)) (.agg (ptrRow q).toArray) false).run Try.prog (ChangeMaps.setBlock w.drew bm o1) = .ok (.int .i64 (L.count q : Int)) (ChangeMaps.setBlock w.drew bm o1) ∧
      (Instr.entryStore 53 (.map (some bm)) (.int .i64 (st : Int)) (.int .i64 ((L.count q : Int) + 1))).run Try.prog (ChangeMaps.setBlock w.drew bm o1) = .ok () (ChangeMaps.setBlock (ChangeMaps.setBlock w.drew bm o1) bm o2) ∧
      ((ChangeMaps.setBlock w.drew bm o1).cell? ⟨C, 0, none⟩ = some (.map (some bm)) ∧ (ChangeMaps.setBlock w.drew bm o1).rangeAt T 0 AL) ∧
      ((ChangeMaps.setBlock (ChangeMaps.setBlock w.drew bm o1) bm o2).cell? ⟨C, 0, none⟩ = some (.map (some bm)) ∧ (ChangeMaps.setBlock (ChangeMaps.setBlock w.drew bm o1) bm o2).rangeAt T 0 AL) ∧
      CO w0 (ChangeMaps.setBlock (ChangeMaps.setBlock w.drew bm o1) bm o2) C (.map (some bm)) (L ++ [q]) (K + 1) ∧ Touch [bm] w (ChangeMaps.setBlock (ChangeMaps.setBlock w.drew bm o1) bm o2) := by
  rcases h.map with ⟨e, _⟩ | ⟨bm', D, e, hbn, ho, hm⟩
  · cases e
  obtain rfl : bm = bm' := by cases e; rfl
  have hne := h.ne
  simp only [mbl, List.mem_singleton] at hne
  have hod : OM w.drew bm K D := ho
  obtain ⟨v0, st, o1, h1, h2, h3⟩ := om_entry hod hm hK hL q
  obtain ⟨es, clock, hb, _⟩ := id ho
  have hbd : w.drew.heap[bm]? = some (.map es clock) := hb
  have t1 := touch_block hbd o1
  have hs1 := ChangeMaps.heap_setBlock_same hbd o1
  obtain ⟨o2, h4, h5⟩ := h3 _ hs1
  have hcl : C < w.drew.heap.size := h.lt
  have hTl : T < w.drew.heap.size := by
    obtain ⟨x, r, rfl⟩ := List.exists_cons_of_ne_nil hAL
    exact block_lt_of_cell (hr 0 x rfl)
  have hgs : ∀ k, k ≠ bm → (ChangeMaps.setBlock (ChangeMaps.setBlock w.drew bm o1) bm o2).heap[k]? = w.heap[k]? := fun k hk => by
    show ((w.heap.setIfInBounds bm o1).setIfInBounds bm o2)[k]? = _
    rw [Array.getElem?_setIfInBounds_ne (by omega), Array.getElem?_setIfInBounds_ne (by omega)]
  have hg1 : ∀ k, k ≠ bm → (ChangeMaps.setBlock w.drew bm o1).heap[k]? = w.heap[k]? := fun k hk => by
    show (w.heap.setIfInBounds bm o1)[k]? = _
    rw [Array.getElem?_setIfInBounds_ne (by omega)]
  have rg : ∀ W : World, W.heap[T]? = w.heap[T]? → W.rangeAt T 0 AL := fun W e j v hj => by
    have q0 := hr j v hj
    simp only [World.cell?] at q0 ⊢
    rw [e]
    exact q0
  have hsz : (ChangeMaps.setBlock (ChangeMaps.setBlock w.drew bm o1) bm o2).heap.size = w.heap.size := by simp [ChangeMaps.setBlock]
  have hT : Touch [bm] w (ChangeMaps.setBlock (ChangeMaps.setBlock w.drew bm o1) bm o2) := ⟨rfl, rfl, rfl, by omega, fun k _ hk => hgs k (by simpa using hk)⟩
  have hs2 : (ChangeMaps.setBlock (ChangeMaps.setBlock w.drew bm o1) bm o2).heap[bm]? = some o2 := by
    show ((w.heap.setIfInBounds bm o1).setIfInBounds bm o2)[bm]? = _
    rw [Array.getElem?_setIfInBounds_self_of_lt (by simpa using ho.lt)]
  have hcC : (ChangeMaps.setBlock (ChangeMaps.setBlock w.drew bm o1) bm o2).heap[C]? = some (.cells #[.map (some bm)] 55 (0, 0)) := (hgs C hne).trans h.cell
  refine ⟨v0, st, o1, o2, h1, om_look hod hm q, h2 _ hs1, h4, ⟨(cell1 ((hg1 C hne).trans h.cell)).1, rg _ (hg1 T hTn)⟩, ⟨(cell1 hcC).1, rg _ (hgs T hTn)⟩, ⟨hcC, h.new, .inr ⟨bm, _, rfl, hbn, h5 _ hs2, mapL_add hm q⟩, h.bel.trans (hT.below h.bel.size (fun k hk => (show k = bm by simpa using hk) ▸ hbn))⟩, hT⟩
set_option maxRecDepth 100000 in
set_option maxHeartbeats 3200000 in
theorem padd8_some (w0 w : World) (C K bm : Nat) (L : List PtrV) (q : PtrV) (h : CO w0 w C (.map (some bm)) L K) (hK : K ≤ 1000000) (hL : L.length ≤ 1000000) :
    Calls Try.prog 8 #[.pointer (some ⟨C, 0, none⟩), .agg (ptrRow q).toArray] w fun e w' => e = .returned (.int .i64 ((L.count q : Int) + 1)) ∧ CO w0 w' C (.map (some bm)) (L ++ [q]) (K + 1) ∧ Touch [bm] w w' := by
  obtain ⟨hr, hb, hs⟩ := box_facts w q
  have h1 := h.below hb
  obtain ⟨T, hT⟩ : ∃ T, w.heap.size = T := ⟨_, rfl⟩
  have hTl : T < (w.alloc (.cells (ptrRow q).toArray 35)).heap.size := by omega
  rw [hT] at hr
  have hTn : T ≠ bm := by have := (h.map.lt bm (by simp [mbl])).1; omega
  have HSS := Lib.hid (show ∀ W : World, Below (w.alloc (.cells (ptrRow q).toArray 35)).heap.size (w.alloc (.cells (ptrRow q).toArray 35)) W → W.cell? ⟨C, 0, none⟩ = some (.map (some bm)) ∧ W.rangeAt T 0 (ptrRow q) from
    fun W hW => ⟨(cell1 (h1.below hW).cell).1, range_below hr hW⟩)
  obtain ⟨v0, st, o1, o2, e1, e2, e3, e4, e5, e6, e7, e8⟩ := add_worlds (q := q) h1 hr (by simp [ptrRow]) hTn hK hL
  have HME := Lib.hid e1
  have HLA := Lib.hid e2
  have HLB := Lib.hid e3
  have HES := Lib.hid e4
  have HSE := Lib.hid (And.intro e5 e6)
  have HCO := Lib.hid (And.intro e7 ((Touch.of_below hb).trans e8))
  have HLK2 := Lib.hid (fun (W : World) (hW : Below (ChangeMaps.setBlock (ChangeMaps.setBlock (w.alloc (.cells (ptrRow q).toArray 35)).drew bm o1) bm o2).heap.size (ChangeMaps.setBlock (ChangeMaps.setBlock (w.alloc (.cells (ptrRow q).toArray 35)).drew bm o1) bm o2) W) => look_mv (e7.below hW).map q)
  have HSS2 := Lib.hid (fun (W : World) (hW : Below (ChangeMaps.setBlock (ChangeMaps.setBlock (w.alloc (.cells (ptrRow q).toArray 35)).drew bm o1) bm o2).heap.size (ChangeMaps.setBlock (ChangeMaps.setBlock (w.alloc (.cells (ptrRow q).toArray 35)).drew bm o1) bm o2) W) => show W.cell? ⟨C, 0, none⟩ = some (.map (some bm)) ∧ W.rangeAt T 0 (ptrRow q) from ⟨(cell1 (e7.below hW).cell).1, range_below e6.2 hW⟩)
  have HWC := Lib.hid (show IntKind.i64.wrap ((L.count q : Int) + 1) = (L.count q : Int) + 1 from IntWalk.i64_in _ (by have := List.count_le_length (a := q) (l := L); omega))
  have HCN := Lib.hid (show (((L ++ [q]).count q : Nat) : Int) = (L.count q : Int) + 1 by simp [List.count_append])
  rw [HCN.out] at HLK2
  have c0 := (cell1 h1.cell).1
  have SZ := Lib.hid (size_ptr q)
  have SF := Lib.hid (cell1 h1.cell).2
  clear h hr hb hs h1 hTl e1 e2 e3 e4 e5 e6 e7 e8 hTn hK hL HCN
  generalize L.count q = cq at *
  obtain ⟨AL, hAL⟩ : ∃ AL, ptrRow q = AL := ⟨_, rfl⟩
  rw [hAL] at HSS HSE HME HLA HLB HES HCO HLK2 HSS2 SZ c0
  rw [hAL]
  obtain ⟨AR, hAR⟩ : ∃ AR, AL.toArray = AR := ⟨_, rfl⟩
  rw [hAR] at HSS HSE HME HLA HLB HES HCO HLK2 HSS2 c0
  rw [hAR]
  have HAL := Lib.hid hAR
  clear hAL hAR
  generalize hW5 : w.alloc (.cells AR 35) = w5 at *
  generalize hWE : ChangeMaps.setBlock w5.drew bm o1 = wE at *
  generalize hWF : ChangeMaps.setBlock wE bm o2 = wF at *
  have HWF := Lib.hid hWF
  go_enter Try.func8, Try.ntmps8
  go_upto_region 5 with (first
    | (with_reducible refine wpList_eql_map8 (o := ⟨some 11, _, _, _, _, _⟩) rfl 53 35 3 _ _ _ rfl Try.underlying53 (some bm) rfl rfl false rfl ?_))
  try rw [hT]
  clear hT hW5 hWE hWF c0
  try simp only [Act.put]
  refine wp_region_noPanic ?_
  refine wp_region_held_drew (S := fun W => W.cell? ⟨C, 0, none⟩ = some (.map (some bm)) ∧ W.rangeAt T 0 AL) (by kernel_rfl) (HSS.out _ (Below.refl _ w5).drew) (fun hHeld => ?_)
  refine wpAnyH_take (i := 0) (oi := ⟨some 16, _, _, _, _, _⟩) (v := ?_) rfl (by kernel_rfl) (by decide +kernel) (by decide +kernel) (fun _ _ _ h => h) (Or.inl ⟨by rfl, ?_⟩) (by assumption) ?_
  rotate_left 1
  · (intro w' hSw; go_simp; try with_reducible rfl)
  try simp only [Act.put, List.setIfInBounds_toArray, List.set_cons_zero, List.set_cons_succ]
  refine wpAnyH_take (i := 1) (oi := ⟨some 17, _, _, _, _, _⟩) (v := ?_) rfl (by kernel_rfl) (by decide +kernel) (by decide +kernel) (fun _ _ _ h => h) (Or.inl ⟨by rfl, ?_⟩) (by assumption) ?_
  rotate_left 1
  · (intro w' hSw; go_simp; try with_reducible rfl)
  try simp only [Act.put, List.setIfInBounds_toArray, List.set_cons_zero, List.set_cons_succ]
  refine wpAnyH_take (i := 2) (oi := ⟨some 18, _, _, _, _, _⟩) (v := ?_) rfl (by kernel_rfl) (by decide +kernel) (by decide +kernel) (fun _ _ _ h => h) (Or.inl ⟨by rfl, ?_⟩) (by assumption) ?_
  rotate_left 1
  · (intro w' hSw; go_simp; try with_reducible rfl)
  try simp only [Act.put, List.setIfInBounds_toArray, List.set_cons_zero, List.set_cons_succ]
  refine wpAnyH_take (i := 3) (oi := ⟨some 19, _, _, _, _, _⟩) (v := ?_) rfl (by kernel_rfl) (by decide +kernel) (by decide +kernel) (fun _ _ _ h => h) (Or.inl ⟨by rfl, ?_⟩) (by assumption) ?_
  rotate_left 1
  · (intro w' hSw; have hc := hSw.1; go_simp; try with_reducible rfl)
  try simp only [Act.put, List.setIfInBounds_toArray, List.set_cons_zero, List.set_cons_succ]
  refine wpAnyH_take (i := 4) (oi := ⟨some 20, _, _, _, _, _⟩) rfl (by kernel_rfl) (by decide +kernel) (by decide +kernel) (fun _ _ _ h => h) (yieldsIf_load_mid (by rfl) _ _ rfl T 0 rfl AL _ (fun w' h => h.2) Try.underlying35 rfl SZ.out) (by assumption) ?_
  try simp only [Act.put, List.setIfInBounds_toArray, List.set_cons_zero, List.set_cons_succ]
  rw [HAL.out]
  refine wpAnyH_ready (rs := [5, 7]) (by decide +kernel) (by simp) ?_
  refine AllReadyH.cons rfl (fun K hK => ?_) (AllReadyH.cons rfl (fun K hK => ?_) AllReadyH.nil)
  · have hlk := HLA.out
    go_simp
    refine hK.out _ _ (HSS.out _ (Below.refl _ w5).drew) (fun hHeld => ?_)
    clear hK K hlk
    try simp only [Act.put, List.setIfInBounds_toArray, List.set_cons_zero, List.set_cons_succ]
    have hwc := HWC.out
    refine wpAnyH_take (i := 6) (oi := ⟨some 22, _, _, _, _, _⟩) (v := ?_) rfl (by kernel_rfl) (by decide +kernel) (by decide +kernel) (fun _ _ _ h => h) (Or.inl ⟨by rfl, ?_⟩) (by assumption) ?_
    rotate_left 1
    · (intro w' hSw; go_simp; try with_reducible rfl)
    try simp only [Act.put, List.setIfInBounds_toArray, List.set_cons_zero, List.set_cons_succ]
    clear hwc
    refine wpAnyH_ready (rs := [7]) (by decide +kernel) (by simp) ?_
    refine AllReadyH.cons rfl (fun K hK => ?_) AllReadyH.nil
    have hme := HME.out
    go_simp
    refine hK.out _ _ HSE.out.1 (fun hHeld => ?_)
    clear hK K hme
    try simp only [Act.put, List.setIfInBounds_toArray, List.set_cons_zero, List.set_cons_succ]
    refine wpAnyH_take (i := 8) (oi := ⟨some 24, _, _, _, _, _⟩) (v := ?_) rfl (by kernel_rfl) (by decide +kernel) (by decide +kernel) (fun _ _ _ h => h) (Or.inl ⟨by rfl, ?_⟩) (by assumption) ?_
    rotate_left 1
    · (intro w' hSw; go_simp; try with_reducible rfl)
    try simp only [Act.put, List.setIfInBounds_toArray, List.set_cons_zero, List.set_cons_succ]
    refine wpAnyH_ready (rs := [9]) (by decide +kernel) (by simp) ?_
    refine AllReadyH.cons rfl (fun K hK => ?_) AllReadyH.nil
    rw [if_pos (by kernel_rfl)]
    have hes := HES.out
    go_simp
    refine hK.out _ _ HSE.out.2 (fun hHeld => ?_)
    clear hK K hes hHeld
    refine wpAnyH_done (by decide +kernel) ?_ _
    refine NoPanic.normal ?_
    go_upto_region 6 with fail
    try simp only [Act.put]
    refine wp_region_noPanic ?_
    refine wp_region_held_drew (S := fun W => W.cell? ⟨C, 0, none⟩ = some (.map (some bm)) ∧ W.rangeAt T 0 AL) (by kernel_rfl) (HSS2.out _ (Below.refl _ wF).drew) (fun hHeld => ?_)
    refine wpAnyH_take (i := 0) (oi := ⟨some 25, _, _, _, _, _⟩) (v := ?_) rfl (by kernel_rfl) (by decide +kernel) (by decide +kernel) (fun _ _ _ h => h) (Or.inl ⟨by rfl, ?_⟩) (by assumption) ?_
    rotate_left 1
    · (intro w' hSw; go_simp; try with_reducible rfl)
    try simp only [Act.put, List.setIfInBounds_toArray, List.set_cons_zero, List.set_cons_succ]
    refine wpAnyH_take (i := 1) (oi := ⟨some 26, _, _, _, _, _⟩) (v := ?_) rfl (by kernel_rfl) (by decide +kernel) (by decide +kernel) (fun _ _ _ h => h) (Or.inl ⟨by rfl, ?_⟩) (by assumption) ?_
    rotate_left 1
    · (intro w' hSw; go_simp; try with_reducible rfl)
    try simp only [Act.put, List.setIfInBounds_toArray, List.set_cons_zero, List.set_cons_succ]
    refine wpAnyH_take (i := 2) (oi := ⟨some 27, _, _, _, _, _⟩) (v := ?_) rfl (by kernel_rfl) (by decide +kernel) (by decide +kernel) (fun _ _ _ h => h) (Or.inl ⟨by rfl, ?_⟩) (by assumption) ?_
    rotate_left 1
    · (intro w' hSw; go_simp; try with_reducible rfl)
    try simp only [Act.put, List.setIfInBounds_toArray, List.set_cons_zero, List.set_cons_succ]
    refine wpAnyH_take (i := 3) (oi := ⟨some 28, _, _, _, _, _⟩) (v := ?_) rfl (by kernel_rfl) (by decide +kernel) (by decide +kernel) (fun _ _ _ h => h) (Or.inl ⟨by rfl, ?_⟩) (by assumption) ?_
    rotate_left 1
    · (intro w' hSw; have hc := hSw.1; go_simp; try with_reducible rfl)
    try simp only [Act.put, List.setIfInBounds_toArray, List.set_cons_zero, List.set_cons_succ]
    refine wpAnyH_take (i := 4) (oi := ⟨some 29, _, _, _, _, _⟩) rfl (by kernel_rfl) (by decide +kernel) (by decide +kernel) (fun _ _ _ h => h) (yieldsIf_load_mid (by rfl) _ _ rfl T 0 rfl AL _ (fun w' h => h.2) Try.underlying35 rfl SZ.out) (by assumption) ?_
    try simp only [Act.put, List.setIfInBounds_toArray, List.set_cons_zero, List.set_cons_succ]
    rw [HAL.out]
    refine wpAnyH_ready (rs := [5]) (by decide +kernel) (by simp) ?_
    refine AllReadyH.cons rfl (fun K hK => ?_) AllReadyH.nil
    have hlk := HLK2.out _ (Below.refl _ wF).drew
    go_simp
    refine hK.out _ _ (HSS2.out _ (Below.refl _ wF).drew) (fun hHeld => ?_)
    clear hK K hlk
    try simp only [Act.put, List.setIfInBounds_toArray, List.set_cons_zero, List.set_cons_succ]
    refine wpAnyH_take (i := 6) (oi := ⟨some 4, _, _, _, _, _⟩) (v := ?_) rfl (by kernel_rfl) (by decide +kernel) (by decide +kernel) (fun _ _ _ h => h) (Or.inl ⟨by rfl, ?_⟩) (by assumption) ?_
    rotate_left 1
    · (intro w' hSw; go_simp; try with_reducible rfl)
    try simp only [Act.put, List.setIfInBounds_toArray, List.set_cons_zero, List.set_cons_succ]
    clear hHeld
    refine wpAnyH_done (by decide +kernel) ?_ _
    refine NoPanic.normal ?_
    go_wp2_with fail
    go_ret
    exact ⟨rfl, HCO.out.1.below (Below.refl _ wF).drew, HCO.out.2.trans (Touch.of_below (Below.refl _ wF).drew)⟩
  · have hme := HME.out
    go_simp
    refine hK.out _ _ HSE.out.1 (fun hHeld => ?_)
    clear hK K hme
    try simp only [Act.put, List.setIfInBounds_toArray, List.set_cons_zero, List.set_cons_succ]
    refine wpAnyH_take (i := 8) (oi := ⟨some 24, _, _, _, _, _⟩) (v := ?_) rfl (by kernel_rfl) (by decide +kernel) (by decide +kernel) (fun _ _ _ h => h) (Or.inl ⟨by rfl, ?_⟩) (by assumption) ?_
    rotate_left 1
    · (intro w' hSw; go_simp; try with_reducible rfl)
    try simp only [Act.put, List.setIfInBounds_toArray, List.set_cons_zero, List.set_cons_succ]
    refine wpAnyH_ready (rs := [5]) (by decide +kernel) (by simp) ?_
    refine AllReadyH.cons rfl (fun K hK => ?_) AllReadyH.nil
    have hlk := HLB.out
    go_simp
    refine hK.out _ _ HSE.out.1 (fun hHeld => ?_)
    clear hK K hlk
    try simp only [Act.put, List.setIfInBounds_toArray, List.set_cons_zero, List.set_cons_succ]
    have hwc := HWC.out
    refine wpAnyH_take (i := 6) (oi := ⟨some 22, _, _, _, _, _⟩) (v := ?_) rfl (by kernel_rfl) (by decide +kernel) (by decide +kernel) (fun _ _ _ h => h) (Or.inl ⟨by rfl, ?_⟩) (by assumption) ?_
    rotate_left 1
    · (intro w' hSw; go_simp; try with_reducible rfl)
    try simp only [Act.put, List.setIfInBounds_toArray, List.set_cons_zero, List.set_cons_succ]
    clear hwc
    refine wpAnyH_ready (rs := [9]) (by decide +kernel) (by simp) ?_
    refine AllReadyH.cons rfl (fun K hK => ?_) AllReadyH.nil
    rw [if_pos (by kernel_rfl)]
    have hes := HES.out
    go_simp
    refine hK.out _ _ HSE.out.2 (fun hHeld => ?_)
    clear hK K hes hHeld
    refine wpAnyH_done (by decide +kernel) ?_ _
    refine NoPanic.normal ?_
    go_upto_region 6 with fail
    try simp only [Act.put]
    refine wp_region_noPanic ?_
    refine wp_region_held_drew (S := fun W => W.cell? ⟨C, 0, none⟩ = some (.map (some bm)) ∧ W.rangeAt T 0 AL) (by kernel_rfl) (HSS2.out _ (Below.refl _ wF).drew) (fun hHeld => ?_)
    refine wpAnyH_take (i := 0) (oi := ⟨some 25, _, _, _, _, _⟩) (v := ?_) rfl (by kernel_rfl) (by decide +kernel) (by decide +kernel) (fun _ _ _ h => h) (Or.inl ⟨by rfl, ?_⟩) (by assumption) ?_
    rotate_left 1
    · (intro w' hSw; go_simp; try with_reducible rfl)
    try simp only [Act.put, List.setIfInBounds_toArray, List.set_cons_zero, List.set_cons_succ]
    refine wpAnyH_take (i := 1) (oi := ⟨some 26, _, _, _, _, _⟩) (v := ?_) rfl (by kernel_rfl) (by decide +kernel) (by decide +kernel) (fun _ _ _ h => h) (Or.inl ⟨by rfl, ?_⟩) (by assumption) ?_
    rotate_left 1
    · (intro w' hSw; go_simp; try with_reducible rfl)
    try simp only [Act.put, List.setIfInBounds_toArray, List.set_cons_zero, List.set_cons_succ]
    refine wpAnyH_take (i := 2) (oi := ⟨some 27, _, _, _, _, _⟩) (v := ?_) rfl (by kernel_rfl) (by decide +kernel) (by decide +kernel) (fun _ _ _ h => h) (Or.inl ⟨by rfl, ?_⟩) (by assumption) ?_
    rotate_left 1
    · (intro w' hSw; go_simp; try with_reducible rfl)
    try simp only [Act.put, List.setIfInBounds_toArray, List.set_cons_zero, List.set_cons_succ]
    refine wpAnyH_take (i := 3) (oi := ⟨some 28, _, _, _, _, _⟩) (v := ?_) rfl (by kernel_rfl) (by decide +kernel) (by decide +kernel) (fun _ _ _ h => h) (Or.inl ⟨by rfl, ?_⟩) (by assumption) ?_
    rotate_left 1
    · (intro w' hSw; have hc := hSw.1; go_simp; try with_reducible rfl)
    try simp only [Act.put, List.setIfInBounds_toArray, List.set_cons_zero, List.set_cons_succ]
    refine wpAnyH_take (i := 4) (oi := ⟨some 29, _, _, _, _, _⟩) rfl (by kernel_rfl) (by decide +kernel) (by decide +kernel) (fun _ _ _ h => h) (yieldsIf_load_mid (by rfl) _ _ rfl T 0 rfl AL _ (fun w' h => h.2) Try.underlying35 rfl SZ.out) (by assumption) ?_
    try simp only [Act.put, List.setIfInBounds_toArray, List.set_cons_zero, List.set_cons_succ]
    rw [HAL.out]
    refine wpAnyH_ready (rs := [5]) (by decide +kernel) (by simp) ?_
    refine AllReadyH.cons rfl (fun K hK => ?_) AllReadyH.nil
    have hlk := HLK2.out _ (Below.refl _ wF).drew
    go_simp
    refine hK.out _ _ (HSS2.out _ (Below.refl _ wF).drew) (fun hHeld => ?_)
    clear hK K hlk
    try simp only [Act.put, List.setIfInBounds_toArray, List.set_cons_zero, List.set_cons_succ]
    refine wpAnyH_take (i := 6) (oi := ⟨some 4, _, _, _, _, _⟩) (v := ?_) rfl (by kernel_rfl) (by decide +kernel) (by decide +kernel) (fun _ _ _ h => h) (Or.inl ⟨by rfl, ?_⟩) (by assumption) ?_
    rotate_left 1
    · (intro w' hSw; go_simp; try with_reducible rfl)
    try simp only [Act.put, List.setIfInBounds_toArray, List.set_cons_zero, List.set_cons_succ]
    clear hHeld
    refine wpAnyH_done (by decide +kernel) ?_ _
    refine NoPanic.normal ?_
    go_wp2_with fail
    go_ret
    exact ⟨rfl, HCO.out.1.below (Below.refl _ wF).drew, HCO.out.2.trans (Touch.of_below (Below.refl _ wF).drew)⟩
/-- A Counts whose map is nil, with a map just made. -/
theorem made_map {w0 w : World} {C K : Nat} {L : List PtrV} (h : CO w0 w C (.map none) L K) :
    CO w0 ((w.alloc (.map #[] 0)).setCell ⟨C, 0, none⟩ (.map (some w.heap.size))) C (.map (some w.heap.size)) [] K ∧ Touch [C] w ((w.alloc (.map #[] 0)).setCell ⟨C, 0, none⟩ (.map (some w.heap.size))) ∧ L = [] := by
  have hL : L = [] := by
    rcases h.map with ⟨_, h⟩ | ⟨_, _, e, _⟩
    · exact h
    · cases e
  have hC := h.lt
  have hs := h.bel.size
  have hn := h.new
  have hne : C ≠ w.heap.size := by omega
  have hb := (Below.refl w.heap.size w).alloc (Nat.le_refl _) (.map #[] 0)
  have h1 : (w.alloc (.map #[] 0)).heap[C]? = some (.cells #[.map none] 55 (0, 0)) := (hb.block C hC).trans h.cell
  have h2 := heap_setCell_same (w.alloc (.map #[] 0)) C 0 _ _ (.map (some w.heap.size)) h1
  have h3 : ((w.alloc (.map #[] 0)).setCell ⟨C, 0, none⟩ (.map (some w.heap.size))).heap[w.heap.size]? = (w.alloc (.map #[] 0)).heap[w.heap.size]? := Below.heap_setCell _ _ _ _ (Ne.symm hne)
  have hm := World.ownsMap_made (H := Unit) w Try.prog 35 (plainElem Try.prog 3)
  have t : Touch [C] w ((w.alloc (.map #[] 0)).setCell ⟨C, 0, none⟩ (.map (some w.heap.size))) :=
    ⟨rfl, rfl, rfl, by simp [World.setCell], fun k hk hk2 => (Below.heap_setCell _ _ _ _ (fun e => hk2 (by simp; exact e))).trans (hb.block k hk)⟩
  refine ⟨⟨h2, hn, .inr ⟨_, _, rfl, hs, om_move (hm.mono (Nat.zero_le K)) h3, mapL_nil⟩, h.bel.trans (t.below hs (fun k hk => (show k = C by simpa using hk) ▸ hn))⟩, t, hL⟩
set_option maxRecDepth 100000 in
set_option maxHeartbeats 3200000 in
theorem padd8_none (w0 w : World) (C K : Nat) (L : List PtrV) (q : PtrV) (h : CO w0 w C (.map none) L K) (hK : K ≤ 1000000) :
    Calls Try.prog 8 #[.pointer (some ⟨C, 0, none⟩), .agg (ptrRow q).toArray] w fun e w' => e = .returned (.int .i64 1) ∧ ∃ bm, w.heap.size ≤ bm ∧ CO w0 w' C (.map (some bm)) [q] (K + 1) ∧ Touch [C] w w' := by
  obtain ⟨hr, hb, hs⟩ := box_facts w q
  have h1 := h.below hb
  obtain ⟨h4, t4, hL⟩ := made_map h1
  subst hL
  obtain ⟨T, hT⟩ : ∃ T, w.heap.size = T := ⟨_, rfl⟩
  have hCT : C < T := by have := h.lt; omega
  rw [hT] at hr
  have hr4 : ((((w.alloc (.cells (ptrRow q).toArray 35)).alloc (.map #[] 0)).setCell ⟨C, 0, none⟩ (.map (some (w.alloc (.cells (ptrRow q).toArray 35)).heap.size)))).rangeAt T 0 (ptrRow q) := fun j v hj => by
    have q0 := hr j v hj
    have e := t4.block T (by omega) (by simp; omega)
    simp only [World.cell?] at q0 ⊢
    rw [e]
    exact q0
  have hTn : T ≠ (w.alloc (.cells (ptrRow q).toArray 35)).heap.size := by omega
  obtain ⟨bm, hbm⟩ : ∃ bm, (w.alloc (.cells (ptrRow q).toArray 35)).heap.size = bm := ⟨_, rfl⟩
  rw [hbm] at h4 t4 hr4 hTn
  have hbw : w.heap.size ≤ bm := by omega
  have HBM := Lib.hid hbw
  have c0 := (cell1 h1.cell).1
  have f0 := (cell1 h1.cell).2
  have c1 : ((w.alloc (.cells (ptrRow q).toArray 35)).alloc (.map #[] 0)).cell? ⟨C, 0, none⟩ = some (.map none) := ((Below.refl _ (w.alloc (.cells (ptrRow q).toArray 35))).alloc (Nat.le_refl _) (.map #[] 0)).cell (p := ⟨C, 0, none⟩) h1.lt |>.trans c0
  have f1 : ((w.alloc (.cells (ptrRow q).toArray 35)).alloc (.map #[] 0)).frozen? ⟨C, 0, none⟩ = false := by
    have e := ((Below.refl _ (w.alloc (.cells (ptrRow q).toArray 35))).alloc (Nat.le_refl _) (.map #[] 0)).block C h1.lt
    simp only [World.frozen?] at f0 ⊢
    rw [e]
    exact f0
  obtain ⟨w4, hw4⟩ : ∃ w4, (((w.alloc (.cells (ptrRow q).toArray 35)).alloc (.map #[] 0)).setCell ⟨C, 0, none⟩ (.map (some bm))) = w4 := ⟨_, rfl⟩
  rw [hw4] at h4 t4 hr4
  have HSS := Lib.hid (show ∀ W : World, Below w4.heap.size w4 W → W.cell? ⟨C, 0, none⟩ = some (.map (some bm)) ∧ W.rangeAt T 0 (ptrRow q) from
    fun W hW => ⟨(cell1 (h4.below hW).cell).1, range_below hr4 hW⟩)
  obtain ⟨v0, st, o1, o2, e1, e2, e3, e4, e5, e6, e7, e8⟩ := add_worlds (q := q) h4 hr4 (by simp [ptrRow]) hTn hK (by simp)
  have HME := Lib.hid e1
  have HLA := Lib.hid e2
  have HLB := Lib.hid e3
  have HES := Lib.hid e4
  have HSE := Lib.hid (And.intro e5 e6)
  have HCO := Lib.hid (And.intro e7 (show Touch [C] w _ from ⟨e8.os.trans (t4.os.trans hb.os), e8.tape.trans (t4.tape.trans hb.tape), e8.output.trans (t4.output.trans hb.output), Nat.le_trans hb.size (Nat.le_trans t4.size e8.size), fun k hk hk2 => (e8.block k (Nat.lt_of_lt_of_le hk (Nat.le_trans hb.size t4.size)) (by simp; omega)).trans ((t4.block k (Nat.lt_of_lt_of_le hk hb.size) hk2).trans (hb.block k hk))⟩))
  have HLK2 := Lib.hid (fun (W : World) (hW : Below (ChangeMaps.setBlock (ChangeMaps.setBlock w4.drew bm o1) bm o2).heap.size (ChangeMaps.setBlock (ChangeMaps.setBlock w4.drew bm o1) bm o2) W) => look_mv (e7.below hW).map q)
  have HSS2 := Lib.hid (fun (W : World) (hW : Below (ChangeMaps.setBlock (ChangeMaps.setBlock w4.drew bm o1) bm o2).heap.size (ChangeMaps.setBlock (ChangeMaps.setBlock w4.drew bm o1) bm o2) W) => show W.cell? ⟨C, 0, none⟩ = some (.map (some bm)) ∧ W.rangeAt T 0 (ptrRow q) from ⟨(cell1 (e7.below hW).cell).1, range_below e6.2 hW⟩)
  have hcq : ((List.count q ([] : List PtrV) : Nat) : Int) = 0 := rfl
  have hcq1 : ((List.count q (([] : List PtrV) ++ [q]) : Nat) : Int) = 1 := by simp
  rw [hcq] at HLA HLB HES
  rw [show (0 : Int) + 1 = 1 from rfl] at HES
  rw [hcq1] at HLK2
  rw [List.nil_append] at HCO
  have HWC := Lib.hid (show IntKind.i64.wrap 1 = 1 from rfl)
  have SZ := Lib.hid (size_ptr q)
  have hmm : ∀ W : World, (Instr.makeMap 53 none).run Try.prog W = .ok (.map (some W.heap.size)) (W.alloc (.map #[] 0)) := fun W => run_makeMap _ W
  clear h hr hb hs h1 e1 e2 e3 e4 e5 e6 e7 e8 hTn hK hcq hcq1 h4 t4 hr4 hbw hCT f0
  obtain ⟨AL, hAL⟩ : ∃ AL, ptrRow q = AL := ⟨_, rfl⟩
  rw [hAL] at HSS HSE HME HLA HLB HLK2 HSS2 SZ c0 hbm c1 f1 hw4
  rw [hAL]
  obtain ⟨AR, hAR⟩ : ∃ AR, AL.toArray = AR := ⟨_, rfl⟩
  rw [hAR] at HME HLA HLB HLK2 c0 hbm c1 f1 hw4
  rw [hAR]
  have HAL := Lib.hid hAR
  clear hAL hAR
  generalize hWE : ChangeMaps.setBlock w4.drew bm o1 = wE at *
  generalize hWF : ChangeMaps.setBlock wE bm o2 = wF at *
  generalize hWA : w.alloc (.cells AR 35) = wA at *
  go_enter Try.func8, Try.ntmps8
  go_upto_region 5 with (first
    | (with_reducible refine wpList_eql_map8 (o := ⟨some 11, _, _, _, _, _⟩) rfl 53 35 3 _ _ _ rfl Try.underlying53 none rfl rfl true rfl ?_))
  try rw [hw4]
  try rw [hT]
  clear hT hWE hWF hw4 c0 c1 f1 hWA hbm hmm
  try simp only [Act.put]
  refine wp_region_noPanic ?_
  refine wp_region_held_drew (S := fun W => W.cell? ⟨C, 0, none⟩ = some (.map (some bm)) ∧ W.rangeAt T 0 AL) (by kernel_rfl) (HSS.out _ (Below.refl _ w4).drew) (fun hHeld => ?_)
  refine wpAnyH_take (i := 0) (oi := ⟨some 16, _, _, _, _, _⟩) (v := ?_) rfl (by kernel_rfl) (by decide +kernel) (by decide +kernel) (fun _ _ _ h => h) (Or.inl ⟨by rfl, ?_⟩) (by assumption) ?_
  rotate_left 1
  · (intro w' hSw; go_simp; try with_reducible rfl)
  try simp only [Act.put, List.setIfInBounds_toArray, List.set_cons_zero, List.set_cons_succ]
  refine wpAnyH_take (i := 1) (oi := ⟨some 17, _, _, _, _, _⟩) (v := ?_) rfl (by kernel_rfl) (by decide +kernel) (by decide +kernel) (fun _ _ _ h => h) (Or.inl ⟨by rfl, ?_⟩) (by assumption) ?_
  rotate_left 1
  · (intro w' hSw; go_simp; try with_reducible rfl)
  try simp only [Act.put, List.setIfInBounds_toArray, List.set_cons_zero, List.set_cons_succ]
  refine wpAnyH_take (i := 2) (oi := ⟨some 18, _, _, _, _, _⟩) (v := ?_) rfl (by kernel_rfl) (by decide +kernel) (by decide +kernel) (fun _ _ _ h => h) (Or.inl ⟨by rfl, ?_⟩) (by assumption) ?_
  rotate_left 1
  · (intro w' hSw; go_simp; try with_reducible rfl)
  try simp only [Act.put, List.setIfInBounds_toArray, List.set_cons_zero, List.set_cons_succ]
  refine wpAnyH_take (i := 3) (oi := ⟨some 19, _, _, _, _, _⟩) (v := ?_) rfl (by kernel_rfl) (by decide +kernel) (by decide +kernel) (fun _ _ _ h => h) (Or.inl ⟨by rfl, ?_⟩) (by assumption) ?_
  rotate_left 1
  · (intro w' hSw; have hc := hSw.1; go_simp; try with_reducible rfl)
  try simp only [Act.put, List.setIfInBounds_toArray, List.set_cons_zero, List.set_cons_succ]
  refine wpAnyH_take (i := 4) (oi := ⟨some 20, _, _, _, _, _⟩) rfl (by kernel_rfl) (by decide +kernel) (by decide +kernel) (fun _ _ _ h => h) (yieldsIf_load_mid (by rfl) _ _ rfl T 0 rfl AL _ (fun w' h => h.2) Try.underlying35 rfl SZ.out) (by assumption) ?_
  try simp only [Act.put, List.setIfInBounds_toArray, List.set_cons_zero, List.set_cons_succ]
  rw [HAL.out]
  refine wpAnyH_ready (rs := [5, 7]) (by decide +kernel) (by simp) ?_
  refine AllReadyH.cons rfl (fun K hK => ?_) (AllReadyH.cons rfl (fun K hK => ?_) AllReadyH.nil)
  · have hlk := HLA.out
    go_simp
    refine hK.out _ _ (HSS.out _ (Below.refl _ w4).drew) (fun hHeld => ?_)
    clear hK K hlk
    try simp only [Act.put, List.setIfInBounds_toArray, List.set_cons_zero, List.set_cons_succ]
    have hwc := HWC.out
    refine wpAnyH_take (i := 6) (oi := ⟨some 22, _, _, _, _, _⟩) (v := ?_) rfl (by kernel_rfl) (by decide +kernel) (by decide +kernel) (fun _ _ _ h => h) (Or.inl ⟨by rfl, ?_⟩) (by assumption) ?_
    rotate_left 1
    · (intro w' hSw; go_simp; try with_reducible rfl)
    try simp only [Act.put, List.setIfInBounds_toArray, List.set_cons_zero, List.set_cons_succ]
    clear hwc
    refine wpAnyH_ready (rs := [7]) (by decide +kernel) (by simp) ?_
    refine AllReadyH.cons rfl (fun K hK => ?_) AllReadyH.nil
    have hme := HME.out
    go_simp
    refine hK.out _ _ HSE.out.1 (fun hHeld => ?_)
    clear hK K hme
    try simp only [Act.put, List.setIfInBounds_toArray, List.set_cons_zero, List.set_cons_succ]
    refine wpAnyH_take (i := 8) (oi := ⟨some 24, _, _, _, _, _⟩) (v := ?_) rfl (by kernel_rfl) (by decide +kernel) (by decide +kernel) (fun _ _ _ h => h) (Or.inl ⟨by rfl, ?_⟩) (by assumption) ?_
    rotate_left 1
    · (intro w' hSw; go_simp; try with_reducible rfl)
    try simp only [Act.put, List.setIfInBounds_toArray, List.set_cons_zero, List.set_cons_succ]
    refine wpAnyH_ready (rs := [9]) (by decide +kernel) (by simp) ?_
    refine AllReadyH.cons rfl (fun K hK => ?_) AllReadyH.nil
    rw [if_pos (by kernel_rfl)]
    have hes := HES.out
    go_simp
    refine hK.out _ _ HSE.out.2 (fun hHeld => ?_)
    clear hK K hes hHeld
    refine wpAnyH_done (by decide +kernel) ?_ _
    refine NoPanic.normal ?_
    go_upto_region 6 with fail
    try simp only [Act.put]
    refine wp_region_noPanic ?_
    refine wp_region_held_drew (S := fun W => W.cell? ⟨C, 0, none⟩ = some (.map (some bm)) ∧ W.rangeAt T 0 AL) (by kernel_rfl) (HSS2.out _ (Below.refl _ wF).drew) (fun hHeld => ?_)
    refine wpAnyH_take (i := 0) (oi := ⟨some 25, _, _, _, _, _⟩) (v := ?_) rfl (by kernel_rfl) (by decide +kernel) (by decide +kernel) (fun _ _ _ h => h) (Or.inl ⟨by rfl, ?_⟩) (by assumption) ?_
    rotate_left 1
    · (intro w' hSw; go_simp; try with_reducible rfl)
    try simp only [Act.put, List.setIfInBounds_toArray, List.set_cons_zero, List.set_cons_succ]
    refine wpAnyH_take (i := 1) (oi := ⟨some 26, _, _, _, _, _⟩) (v := ?_) rfl (by kernel_rfl) (by decide +kernel) (by decide +kernel) (fun _ _ _ h => h) (Or.inl ⟨by rfl, ?_⟩) (by assumption) ?_
    rotate_left 1
    · (intro w' hSw; go_simp; try with_reducible rfl)
    try simp only [Act.put, List.setIfInBounds_toArray, List.set_cons_zero, List.set_cons_succ]
    refine wpAnyH_take (i := 2) (oi := ⟨some 27, _, _, _, _, _⟩) (v := ?_) rfl (by kernel_rfl) (by decide +kernel) (by decide +kernel) (fun _ _ _ h => h) (Or.inl ⟨by rfl, ?_⟩) (by assumption) ?_
    rotate_left 1
    · (intro w' hSw; go_simp; try with_reducible rfl)
    try simp only [Act.put, List.setIfInBounds_toArray, List.set_cons_zero, List.set_cons_succ]
    refine wpAnyH_take (i := 3) (oi := ⟨some 28, _, _, _, _, _⟩) (v := ?_) rfl (by kernel_rfl) (by decide +kernel) (by decide +kernel) (fun _ _ _ h => h) (Or.inl ⟨by rfl, ?_⟩) (by assumption) ?_
    rotate_left 1
    · (intro w' hSw; have hc := hSw.1; go_simp; try with_reducible rfl)
    try simp only [Act.put, List.setIfInBounds_toArray, List.set_cons_zero, List.set_cons_succ]
    refine wpAnyH_take (i := 4) (oi := ⟨some 29, _, _, _, _, _⟩) rfl (by kernel_rfl) (by decide +kernel) (by decide +kernel) (fun _ _ _ h => h) (yieldsIf_load_mid (by rfl) _ _ rfl T 0 rfl AL _ (fun w' h => h.2) Try.underlying35 rfl SZ.out) (by assumption) ?_
    try simp only [Act.put, List.setIfInBounds_toArray, List.set_cons_zero, List.set_cons_succ]
    rw [HAL.out]
    refine wpAnyH_ready (rs := [5]) (by decide +kernel) (by simp) ?_
    refine AllReadyH.cons rfl (fun K hK => ?_) AllReadyH.nil
    have hlk := HLK2.out _ (Below.refl _ wF).drew
    go_simp
    refine hK.out _ _ (HSS2.out _ (Below.refl _ wF).drew) (fun hHeld => ?_)
    clear hK K hlk
    try simp only [Act.put, List.setIfInBounds_toArray, List.set_cons_zero, List.set_cons_succ]
    refine wpAnyH_take (i := 6) (oi := ⟨some 4, _, _, _, _, _⟩) (v := ?_) rfl (by kernel_rfl) (by decide +kernel) (by decide +kernel) (fun _ _ _ h => h) (Or.inl ⟨by rfl, ?_⟩) (by assumption) ?_
    rotate_left 1
    · (intro w' hSw; go_simp; try with_reducible rfl)
    try simp only [Act.put, List.setIfInBounds_toArray, List.set_cons_zero, List.set_cons_succ]
    clear hHeld
    refine wpAnyH_done (by decide +kernel) ?_ _
    refine NoPanic.normal ?_
    go_wp2_with fail
    go_ret
    exact ⟨rfl, bm, HBM.out, HCO.out.1.below (Below.refl _ wF).drew, HCO.out.2.trans (Touch.of_below (Below.refl _ wF).drew)⟩
  · have hme := HME.out
    go_simp
    refine hK.out _ _ HSE.out.1 (fun hHeld => ?_)
    clear hK K hme
    try simp only [Act.put, List.setIfInBounds_toArray, List.set_cons_zero, List.set_cons_succ]
    refine wpAnyH_take (i := 8) (oi := ⟨some 24, _, _, _, _, _⟩) (v := ?_) rfl (by kernel_rfl) (by decide +kernel) (by decide +kernel) (fun _ _ _ h => h) (Or.inl ⟨by rfl, ?_⟩) (by assumption) ?_
    rotate_left 1
    · (intro w' hSw; go_simp; try with_reducible rfl)
    try simp only [Act.put, List.setIfInBounds_toArray, List.set_cons_zero, List.set_cons_succ]
    refine wpAnyH_ready (rs := [5]) (by decide +kernel) (by simp) ?_
    refine AllReadyH.cons rfl (fun K hK => ?_) AllReadyH.nil
    have hlk := HLB.out
    go_simp
    refine hK.out _ _ HSE.out.1 (fun hHeld => ?_)
    clear hK K hlk
    try simp only [Act.put, List.setIfInBounds_toArray, List.set_cons_zero, List.set_cons_succ]
    have hwc := HWC.out
    refine wpAnyH_take (i := 6) (oi := ⟨some 22, _, _, _, _, _⟩) (v := ?_) rfl (by kernel_rfl) (by decide +kernel) (by decide +kernel) (fun _ _ _ h => h) (Or.inl ⟨by rfl, ?_⟩) (by assumption) ?_
    rotate_left 1
    · (intro w' hSw; go_simp; try with_reducible rfl)
    try simp only [Act.put, List.setIfInBounds_toArray, List.set_cons_zero, List.set_cons_succ]
    clear hwc
    refine wpAnyH_ready (rs := [9]) (by decide +kernel) (by simp) ?_
    refine AllReadyH.cons rfl (fun K hK => ?_) AllReadyH.nil
    rw [if_pos (by kernel_rfl)]
    have hes := HES.out
    go_simp
    refine hK.out _ _ HSE.out.2 (fun hHeld => ?_)
    clear hK K hes hHeld
    refine wpAnyH_done (by decide +kernel) ?_ _
    refine NoPanic.normal ?_
    go_upto_region 6 with fail
    try simp only [Act.put]
    refine wp_region_noPanic ?_
    refine wp_region_held_drew (S := fun W => W.cell? ⟨C, 0, none⟩ = some (.map (some bm)) ∧ W.rangeAt T 0 AL) (by kernel_rfl) (HSS2.out _ (Below.refl _ wF).drew) (fun hHeld => ?_)
    refine wpAnyH_take (i := 0) (oi := ⟨some 25, _, _, _, _, _⟩) (v := ?_) rfl (by kernel_rfl) (by decide +kernel) (by decide +kernel) (fun _ _ _ h => h) (Or.inl ⟨by rfl, ?_⟩) (by assumption) ?_
    rotate_left 1
    · (intro w' hSw; go_simp; try with_reducible rfl)
    try simp only [Act.put, List.setIfInBounds_toArray, List.set_cons_zero, List.set_cons_succ]
    refine wpAnyH_take (i := 1) (oi := ⟨some 26, _, _, _, _, _⟩) (v := ?_) rfl (by kernel_rfl) (by decide +kernel) (by decide +kernel) (fun _ _ _ h => h) (Or.inl ⟨by rfl, ?_⟩) (by assumption) ?_
    rotate_left 1
    · (intro w' hSw; go_simp; try with_reducible rfl)
    try simp only [Act.put, List.setIfInBounds_toArray, List.set_cons_zero, List.set_cons_succ]
    refine wpAnyH_take (i := 2) (oi := ⟨some 27, _, _, _, _, _⟩) (v := ?_) rfl (by kernel_rfl) (by decide +kernel) (by decide +kernel) (fun _ _ _ h => h) (Or.inl ⟨by rfl, ?_⟩) (by assumption) ?_
    rotate_left 1
    · (intro w' hSw; go_simp; try with_reducible rfl)
    try simp only [Act.put, List.setIfInBounds_toArray, List.set_cons_zero, List.set_cons_succ]
    refine wpAnyH_take (i := 3) (oi := ⟨some 28, _, _, _, _, _⟩) (v := ?_) rfl (by kernel_rfl) (by decide +kernel) (by decide +kernel) (fun _ _ _ h => h) (Or.inl ⟨by rfl, ?_⟩) (by assumption) ?_
    rotate_left 1
    · (intro w' hSw; have hc := hSw.1; go_simp; try with_reducible rfl)
    try simp only [Act.put, List.setIfInBounds_toArray, List.set_cons_zero, List.set_cons_succ]
    refine wpAnyH_take (i := 4) (oi := ⟨some 29, _, _, _, _, _⟩) rfl (by kernel_rfl) (by decide +kernel) (by decide +kernel) (fun _ _ _ h => h) (yieldsIf_load_mid (by rfl) _ _ rfl T 0 rfl AL _ (fun w' h => h.2) Try.underlying35 rfl SZ.out) (by assumption) ?_
    try simp only [Act.put, List.setIfInBounds_toArray, List.set_cons_zero, List.set_cons_succ]
    rw [HAL.out]
    refine wpAnyH_ready (rs := [5]) (by decide +kernel) (by simp) ?_
    refine AllReadyH.cons rfl (fun K hK => ?_) AllReadyH.nil
    have hlk := HLK2.out _ (Below.refl _ wF).drew
    go_simp
    refine hK.out _ _ (HSS2.out _ (Below.refl _ wF).drew) (fun hHeld => ?_)
    clear hK K hlk
    try simp only [Act.put, List.setIfInBounds_toArray, List.set_cons_zero, List.set_cons_succ]
    refine wpAnyH_take (i := 6) (oi := ⟨some 4, _, _, _, _, _⟩) (v := ?_) rfl (by kernel_rfl) (by decide +kernel) (by decide +kernel) (fun _ _ _ h => h) (Or.inl ⟨by rfl, ?_⟩) (by assumption) ?_
    rotate_left 1
    · (intro w' hSw; go_simp; try with_reducible rfl)
    try simp only [Act.put, List.setIfInBounds_toArray, List.set_cons_zero, List.set_cons_succ]
    clear hHeld
    refine wpAnyH_done (by decide +kernel) ?_ _
    refine NoPanic.normal ?_
    go_wp2_with fail
    go_ret
    exact ⟨rfl, bm, HBM.out, HCO.out.1.below (Below.refl _ wF).drew, HCO.out.2.trans (Touch.of_below (Below.refl _ wF).drew)⟩
theorem padd8 (w0 w : World) (C K : Nat) (mv : Value) (L : List PtrV) (q : PtrV) (h : CO w0 w C mv L K) (hK : K ≤ 1000000) (hL : L.length ≤ 1000000) :
    Calls Try.prog 8 #[.pointer (some ⟨C, 0, none⟩), .agg (ptrRow q).toArray] w fun e w' => e = .returned (.int .i64 ((L.count q : Int) + 1)) ∧ ∃ mv', CO w0 w' C mv' (L ++ [q]) (K + 1) ∧ CStep w w' C mv mv' := by
  rcases h.map with ⟨rfl, rfl⟩ | ⟨bm, D, rfl, _⟩
  · exact (padd8_none w0 w C K [] q h hK).mono fun e w' ⟨he, bm, hb, hc, ht⟩ => ⟨he, _, hc, ht.more (fun k hk => by simp at hk; simp [hk]), .inr ⟨bm, rfl, hb⟩⟩
  · exact (padd8_some w0 w C K bm L q h hK hL).mono fun e w' ⟨he, hc, ht⟩ => ⟨he, _, hc, ht.more (fun k hk => by simp at hk; simp [mbl, hk]), .inl rfl⟩
theorem co_turn {w0 w w' : World} {C bm K K' : Nat} {L L' : List PtrV} {D' : DataW Unit} (h : CO w0 w C (.map (some bm)) L K) (ht : w.drew.mapTurned w' bm) (ho : OM w' bm K' D') (hm : MapL D' L') :
    CO w0 w' C (.map (some bm)) L' K' ∧ Touch [bm] w w' ∧ ∀ k, k ≠ bm → w'.heap[k]? = w.heap[k]? := by
  obtain ⟨es, clock, es', clock', hb, rfl⟩ := ht
  have hne := h.ne
  simp only [mbl, List.mem_singleton] at hne
  have hbn := (h.map.lt bm (by simp [mbl])).2.1
  have hg : ∀ k, k ≠ bm → (ChangeMaps.setBlock w.drew bm (.map es' clock')).heap[k]? = w.heap[k]? := fun k hk => ChangeMaps.heap_setBlock_other hb _ hk
  have hT : Touch [bm] w (ChangeMaps.setBlock w.drew bm (.map es' clock')) := ⟨rfl, rfl, rfl, by simp [ChangeMaps.setBlock], fun k _ hk => hg k (by simpa using hk)⟩
  exact ⟨⟨(hg C hne).trans h.cell, h.new, .inr ⟨bm, D', rfl, hbn, ho, hm⟩, h.bel.trans (hT.below h.bel.size (fun k hk => (show k = bm by simpa using hk) ▸ hbn))⟩, hT, hg⟩
/-- What Drop answers. -/
def dropA (c : Nat) : Int × Int := if c = 0 then (0, 8) else ((c : Int) - 1, 0)
set_option maxRecDepth 100000 in
set_option maxHeartbeats 3200000 in
theorem pdrop8 (w0 w : World) (C K : Nat) (mv : Value) (L : List PtrV) (q : PtrV) (h : CO w0 w C mv L K) (hK : K ≤ 1000000) (hL : L.length ≤ 1000000) :
    Calls Try.prog 6 #[.pointer (some ⟨C, 0, none⟩), .agg (ptrRow q).toArray] w fun e w' => e = .returned (.tuple #[.int .i64 (dropA (L.count q)).1, .int .i64 (dropA (L.count q)).2]) ∧ CO w0 w' C mv (L.erase q) (K + 1) ∧ Touch (C :: mbl mv) w w' := by
  obtain ⟨hr, hb, hs⟩ := box_facts w q
  have h1 := h.below hb
  obtain ⟨T, hT⟩ : ∃ T, w.heap.size = T := ⟨_, rfl⟩
  have hTl : T < (w.alloc (.cells (ptrRow q).toArray 35)).heap.size := by omega
  rw [hT] at hr
  have HSS := Lib.hid (show ∀ W : World, Below (w.alloc (.cells (ptrRow q).toArray 35)).heap.size (w.alloc (.cells (ptrRow q).toArray 35)) W → W.cell? ⟨C, 0, none⟩ = some mv ∧ W.rangeAt T 0 (ptrRow q) from
    fun W hW => ⟨(cell1 (h1.below hW).cell).1, range_below hr hW⟩)
  have HLK := Lib.hid (show ∀ W : World, Below (w.alloc (.cells (ptrRow q).toArray 35)).heap.size (w.alloc (.cells (ptrRow q).toArray 35)) W → (Instr.lookup 53 mv (.agg (ptrRow q).toArray) false).run Try.prog W = .ok (.int .i64 (L.count q : Int)) W from
    fun W hW => look_mv (h1.below hW).map q)
  have SZ := Lib.hid (size_ptr q)
  have hcl : L.count q ≤ L.length := List.count_le_length
  have hd := (Below.refl (w.alloc (.cells (ptrRow q).toArray 35)).heap.size (w.alloc (.cells (ptrRow q).toArray 35))).drew
  have h2 := h1.below hd
  -- what each of the three ways leaves
  have HW0 := Lib.hid (show L.count q = 0 → CO w0 (w.alloc (.cells (ptrRow q).toArray 35)).drew C mv (L.erase q) (K + 1) ∧ Touch (C :: mbl mv) w (w.alloc (.cells (ptrRow q).toArray 35)).drew from fun hc =>
    ⟨by rw [List.erase_of_not_mem (List.count_eq_zero.1 hc)]; exact h2.mono (Nat.le_succ K), Touch.of_below hb.drew⟩)
  have HBK := Lib.hid (show ∀ W : World, Touch (mbl mv) (w.alloc (.cells (ptrRow q).toArray 35)).drew W → Touch (C :: mbl mv) w W from fun W t => (Touch.of_below hb.drew).trans (t.more (fun k hk => by simp [hk])))
  have HSW := Lib.hid (show ∀ W : World, (∀ k, k ∉ mbl mv → W.heap[k]? = (w.alloc (.cells (ptrRow q).toArray 35)).heap[k]?) → W.cell? ⟨C, 0, none⟩ = some mv ∧ W.rangeAt T 0 (ptrRow q) from fun W e => by
    refine ⟨(cell1 ((e C h.ne).trans h1.cell)).1, fun j v hj => ?_⟩
    have q0 := hr j v hj
    have e1 := e T (fun hm => by have := (h.map.lt T hm).1; omega)
    simp only [World.cell?] at q0 ⊢
    rw [e1]
    exact q0)
  have HW1 := Lib.hid (show L.count q = 1 → ∃ W, (∀ ty, (Builtin.delete_ #[53, 35] ty #[mv, .agg (ptrRow q).toArray]).run Try.prog (w.alloc (.cells (ptrRow q).toArray 35)).drew.drew = .ok (.tuple #[]) W) ∧ CO w0 W C mv (L.erase q) (K + 1) ∧ Touch (C :: mbl mv) w W ∧ W.cell? ⟨C, 0, none⟩ = some mv ∧ W.rangeAt T 0 (ptrRow q) from fun hc => by
    rcases h2.map with ⟨_, rfl⟩ | ⟨bm, D, rfl, _, ho, hm⟩
    · simp at hc
    · have ho2 : OM (w.alloc (.cells (ptrRow q).toArray 35)).drew.drew bm K D := ho
      obtain ⟨W, hrun, ho', ht⟩ := World.ownsMap.drop ho2 keyed_ptr Try.underlying53 (key_ptr q) 0
      obtain ⟨hc', ht', hg'⟩ := co_turn h2 ht (ho'.mono (Nat.le_succ K)) (mapL_last hm q hc)
      exact ⟨W, fun ty => hrun, hc', HBK.out W ht', HSW.out W (fun k hk => hg' k (by simpa [mbl] using hk))⟩)
  have HW2 := Lib.hid (show 2 ≤ L.count q → ∃ W, (Instr.mapUpdate 53 mv (.agg (ptrRow q).toArray) (.int .i64 ((L.count q : Int) - 1))).run Try.prog (w.alloc (.cells (ptrRow q).toArray 35)).drew.drew = .ok () W ∧ CO w0 W C mv (L.erase q) (K + 1) ∧ Touch (C :: mbl mv) w W ∧ W.cell? ⟨C, 0, none⟩ = some mv ∧ W.rangeAt T 0 (ptrRow q) from fun hc => by
    rcases h2.map with ⟨_, rfl⟩ | ⟨bm, D, rfl, _, ho, hm⟩
    · simp at hc
    · have ho2 : OM (w.alloc (.cells (ptrRow q).toArray 35)).drew.drew bm K D := ho
      obtain ⟨W, hrun, ho', ht⟩ := om_store ho2 hK q ((L.count q : Int) - 1) (by omega) (by omega)
      obtain ⟨hc', ht', hg'⟩ := co_turn h2 ht ho' (mapL_less hm q hc)
      exact ⟨W, hrun, hc', HBK.out W ht', HSW.out W (fun k hk => hg' k (by simpa [mbl] using hk))⟩)
  clear h hr hb hs h1 hTl hd h2 HBK HSW hK
  generalize hcq : L.count q = cq at *
  have HCQ := Lib.hid (show (cq : Int) ≤ 1000000 by omega)
  obtain ⟨AL, hAL⟩ : ∃ AL, ptrRow q = AL := ⟨_, rfl⟩
  rw [hAL] at HSS HLK SZ HW0 HW1 HW2
  rw [hAL]
  obtain ⟨AR, hAR⟩ : ∃ AR, AL.toArray = AR := ⟨_, rfl⟩
  rw [hAR] at HSS HLK HW0 HW1 HW2
  rw [hAR]
  have HAL := Lib.hid hAR
  clear hAL hAR hcq hcl hL
  generalize hW1 : w.alloc (.cells AR 35) = w1 at *
  go_enter Try.func6, Try.ntmps6
  go_upto_region 3 with fail
  try rw [hT]
  clear hT hW1
  try simp only [Act.put]
  refine wp_region_noPanic ?_
  refine wp_region_held_drew (S := fun W => W.cell? ⟨C, 0, none⟩ = some mv ∧ W.rangeAt T 0 AL) (by kernel_rfl) (HSS.out _ (Below.refl _ w1).drew) (fun hHeld => ?_)
  refine wpAnyH_take (i := 0) (oi := ⟨some 9, _, _, _, _, _⟩) (v := ?_) rfl (by kernel_rfl) (by decide +kernel) (by decide +kernel) (fun _ _ _ h => h) (Or.inl ⟨by rfl, ?_⟩) (by assumption) ?_
  rotate_left 1
  · (intro w' hSw; go_simp; try with_reducible rfl)
  try simp only [Act.put, List.setIfInBounds_toArray, List.set_cons_zero, List.set_cons_succ]
  refine wpAnyH_take (i := 1) (oi := ⟨some 10, _, _, _, _, _⟩) (v := ?_) rfl (by kernel_rfl) (by decide +kernel) (by decide +kernel) (fun _ _ _ h => h) (Or.inl ⟨by rfl, ?_⟩) (by assumption) ?_
  rotate_left 1
  · (intro w' hSw; go_simp; try with_reducible rfl)
  try simp only [Act.put, List.setIfInBounds_toArray, List.set_cons_zero, List.set_cons_succ]
  refine wpAnyH_take (i := 2) (oi := ⟨some 11, _, _, _, _, _⟩) (v := ?_) rfl (by kernel_rfl) (by decide +kernel) (by decide +kernel) (fun _ _ _ h => h) (Or.inl ⟨by rfl, ?_⟩) (by assumption) ?_
  rotate_left 1
  · (intro w' hSw; go_simp; try with_reducible rfl)
  try simp only [Act.put, List.setIfInBounds_toArray, List.set_cons_zero, List.set_cons_succ]
  refine wpAnyH_take (i := 3) (oi := ⟨some 12, _, _, _, _, _⟩) (v := ?_) rfl (by kernel_rfl) (by decide +kernel) (by decide +kernel) (fun _ _ _ h => h) (Or.inl ⟨by rfl, ?_⟩) (by assumption) ?_
  rotate_left 1
  · (intro w' hSw; have hc := hSw.1; go_simp; try with_reducible rfl)
  try simp only [Act.put, List.setIfInBounds_toArray, List.set_cons_zero, List.set_cons_succ]
  refine wpAnyH_take (i := 4) (oi := ⟨some 13, _, _, _, _, _⟩) rfl (by kernel_rfl) (by decide +kernel) (by decide +kernel) (fun _ _ _ h => h) (yieldsIf_load_mid (by rfl) _ _ rfl T 0 rfl AL _ (fun w' h => h.2) Try.underlying35 rfl SZ.out) (by assumption) ?_
  try simp only [Act.put, List.setIfInBounds_toArray, List.set_cons_zero, List.set_cons_succ]
  rw [HAL.out]
  refine wpAnyH_ready (rs := [5]) (by decide +kernel) (by simp) ?_
  refine AllReadyH.cons rfl (fun K hK => ?_) AllReadyH.nil
  have hlk := HLK.out _ (Below.refl _ w1).drew
  go_simp
  refine hK.out _ _ (HSS.out _ (Below.refl _ w1).drew) (fun hHeld => ?_)
  clear hK K hlk
  try simp only [Act.put, List.setIfInBounds_toArray, List.set_cons_zero, List.set_cons_succ]
  refine wpAnyH_take (i := 6) (oi := ⟨some 6, _, _, _, _, _⟩) (v := ?_) rfl (by kernel_rfl) (by decide +kernel) (by decide +kernel) (fun _ _ _ h => h) (Or.inl ⟨by rfl, ?_⟩) (by assumption) ?_
  rotate_left 1
  · (intro w' hSw; go_simp; try with_reducible rfl)
  try simp only [Act.put, List.setIfInBounds_toArray, List.set_cons_zero, List.set_cons_succ]
  clear hHeld
  refine wpAnyH_done (by decide +kernel) ?_ _
  refine NoPanic.normal ?_
  by_cases c0 : cq = 0
  · subst c0
    have HE := Lib.hid (HW0.out rfl)
    clear HW0 HW1 HW2 HCQ HSS HLK
    go_wp2_with fail
    go_ret2
    exact ⟨rfl, HE.out⟩
  have HDA := Lib.hid (show dropA cq = ((cq : Int) - 1, 0) by unfold dropA; rw [if_neg c0])
  have cI0 : ((cq : Int) == 0) = false := by simp; omega
  have hwc : IntKind.i64.wrap ((cq : Int) - 1) = (cq : Int) - 1 := IntWalk.i64_in _ (by have := HCQ.out; omega)
  by_cases c1 : cq = 1
  · subst c1
    obtain ⟨W, hdel, hco, hto, hsw⟩ := HW1.out rfl
    have HDEL := Lib.hid hdel
    have HE := Lib.hid (And.intro hco hto)
    have HSX := Lib.hid hsw
    clear HW0 HW1 HW2 HCQ HLK hdel hco hto hsw c0
    go_upto_region 9 with fail
    try simp only [Act.put]
    refine wp_region_noPanic ?_
    refine wp_region_held_drew (S := fun W => W.cell? ⟨C, 0, none⟩ = some mv ∧ W.rangeAt T 0 AL) (by kernel_rfl) (HSS.out _ (Below.refl _ w1).drew.drew) (fun hHeld => ?_)
    refine wpAnyH_take (i := 0) (oi := ⟨some 27, _, _, _, _, _⟩) (v := ?_) rfl (by kernel_rfl) (by decide +kernel) (by decide +kernel) (fun _ _ _ h => h) (Or.inl ⟨by rfl, ?_⟩) (by assumption) ?_
    rotate_left 1
    · (intro w' hSw; go_simp; try with_reducible rfl)
    try simp only [Act.put, List.setIfInBounds_toArray, List.set_cons_zero, List.set_cons_succ]
    refine wpAnyH_take (i := 1) (oi := ⟨some 28, _, _, _, _, _⟩) (v := ?_) rfl (by kernel_rfl) (by decide +kernel) (by decide +kernel) (fun _ _ _ h => h) (Or.inl ⟨by rfl, ?_⟩) (by assumption) ?_
    rotate_left 1
    · (intro w' hSw; go_simp; try with_reducible rfl)
    try simp only [Act.put, List.setIfInBounds_toArray, List.set_cons_zero, List.set_cons_succ]
    refine wpAnyH_take (i := 2) (oi := ⟨some 29, _, _, _, _, _⟩) (v := ?_) rfl (by kernel_rfl) (by decide +kernel) (by decide +kernel) (fun _ _ _ h => h) (Or.inl ⟨by rfl, ?_⟩) (by assumption) ?_
    rotate_left 1
    · (intro w' hSw; go_simp; try with_reducible rfl)
    try simp only [Act.put, List.setIfInBounds_toArray, List.set_cons_zero, List.set_cons_succ]
    refine wpAnyH_take (i := 3) (oi := ⟨some 30, _, _, _, _, _⟩) (v := ?_) rfl (by kernel_rfl) (by decide +kernel) (by decide +kernel) (fun _ _ _ h => h) (Or.inl ⟨by rfl, ?_⟩) (by assumption) ?_
    rotate_left 1
    · (intro w' hSw; have hc := hSw.1; go_simp; try with_reducible rfl)
    try simp only [Act.put, List.setIfInBounds_toArray, List.set_cons_zero, List.set_cons_succ]
    refine wpAnyH_take (i := 4) (oi := ⟨some 31, _, _, _, _, _⟩) rfl (by kernel_rfl) (by decide +kernel) (by decide +kernel) (fun _ _ _ h => h) (yieldsIf_load_mid (by rfl) _ _ rfl T 0 rfl AL _ (fun w' h => h.2) Try.underlying35 rfl SZ.out) (by assumption) ?_
    try simp only [Act.put, List.setIfInBounds_toArray, List.set_cons_zero, List.set_cons_succ]
    rw [HAL.out]
    refine wpAnyH_ready (rs := [5]) (by decide +kernel) (by simp) ?_
    refine AllReadyH.cons rfl (fun K hK => ?_) AllReadyH.nil
    rw [if_pos (by kernel_rfl)]
    have hdel := HDEL.out 0
    go_simp
    refine hK.out _ _ HSX.out (fun hHeld => ?_)
    clear hK K hdel hHeld
    refine wpAnyH_done (by decide +kernel) ?_ _
    refine NoPanic.normal ?_
    go_wp2_with fail
    go_ret2
    exact ⟨rfl, HE.out⟩
  · obtain ⟨W, hup, hco, hto, hsw⟩ := HW2.out (by omega)
    have HUP := Lib.hid hup
    have HE := Lib.hid (And.intro hco hto)
    have HSX := Lib.hid hsw
    have cI1 : ((cq : Int) == 1) = false := by simp; omega
    clear HW0 HW1 HW2 HCQ HLK hup hco hto hsw c0 c1
    go_upto_region 5 with fail
    try simp only [Act.put]
    refine wp_region_noPanic ?_
    refine wp_region_held_drew (S := fun W => W.cell? ⟨C, 0, none⟩ = some mv ∧ W.rangeAt T 0 AL) (by kernel_rfl) (HSS.out _ (Below.refl _ w1).drew.drew) (fun hHeld => ?_)
    refine wpAnyH_take (i := 0) (oi := ⟨some 16, _, _, _, _, _⟩) (v := ?_) rfl (by kernel_rfl) (by decide +kernel) (by decide +kernel) (fun _ _ _ h => h) (Or.inl ⟨by rfl, ?_⟩) (by assumption) ?_
    rotate_left 1
    · (intro w' hSw; go_simp; try with_reducible rfl)
    try simp only [Act.put, List.setIfInBounds_toArray, List.set_cons_zero, List.set_cons_succ]
    refine wpAnyH_take (i := 1) (oi := ⟨some 17, _, _, _, _, _⟩) (v := ?_) rfl (by kernel_rfl) (by decide +kernel) (by decide +kernel) (fun _ _ _ h => h) (Or.inl ⟨by rfl, ?_⟩) (by assumption) ?_
    rotate_left 1
    · (intro w' hSw; go_simp; try with_reducible rfl)
    try simp only [Act.put, List.setIfInBounds_toArray, List.set_cons_zero, List.set_cons_succ]
    refine wpAnyH_take (i := 2) (oi := ⟨some 18, _, _, _, _, _⟩) (v := ?_) rfl (by kernel_rfl) (by decide +kernel) (by decide +kernel) (fun _ _ _ h => h) (Or.inl ⟨by rfl, ?_⟩) (by assumption) ?_
    rotate_left 1
    · (intro w' hSw; go_simp; try with_reducible rfl)
    try simp only [Act.put, List.setIfInBounds_toArray, List.set_cons_zero, List.set_cons_succ]
    refine wpAnyH_take (i := 3) (oi := ⟨some 19, _, _, _, _, _⟩) (v := ?_) rfl (by kernel_rfl) (by decide +kernel) (by decide +kernel) (fun _ _ _ h => h) (Or.inl ⟨by rfl, ?_⟩) (by assumption) ?_
    rotate_left 1
    · (intro w' hSw; have hc := hSw.1; go_simp; try with_reducible rfl)
    try simp only [Act.put, List.setIfInBounds_toArray, List.set_cons_zero, List.set_cons_succ]
    refine wpAnyH_take (i := 4) (oi := ⟨some 20, _, _, _, _, _⟩) rfl (by kernel_rfl) (by decide +kernel) (by decide +kernel) (fun _ _ _ h => h) (yieldsIf_load_mid (by rfl) _ _ rfl T 0 rfl AL _ (fun w' h => h.2) Try.underlying35 rfl SZ.out) (by assumption) ?_
    try simp only [Act.put, List.setIfInBounds_toArray, List.set_cons_zero, List.set_cons_succ]
    rw [HAL.out]
    refine wpAnyH_take (i := 5) (oi := ⟨some 21, _, _, _, _, _⟩) (v := ?_) rfl (by kernel_rfl) (by decide +kernel) (by decide +kernel) (fun _ _ _ h => h) (Or.inl ⟨by rfl, ?_⟩) (by assumption) ?_
    rotate_left 1
    · (intro w' hSw; go_simp; try with_reducible rfl)
    try simp only [Act.put, List.setIfInBounds_toArray, List.set_cons_zero, List.set_cons_succ]
    refine wpAnyH_take (i := 6) (oi := ⟨some 22, _, _, _, _, _⟩) (v := ?_) rfl (by kernel_rfl) (by decide +kernel) (by decide +kernel) (fun _ _ _ h => h) (Or.inl ⟨by rfl, ?_⟩) (by assumption) ?_
    rotate_left 1
    · (intro w' hSw; go_simp; try with_reducible rfl)
    try simp only [Act.put, List.setIfInBounds_toArray, List.set_cons_zero, List.set_cons_succ]
    refine wpAnyH_ready (rs := [7]) (by decide +kernel) (by simp) ?_
    refine AllReadyH.cons rfl (fun K hK => ?_) AllReadyH.nil
    rw [if_pos (by kernel_rfl)]
    have hup := HUP.out
    go_simp
    refine hK.out _ _ HSX.out (fun hHeld => ?_)
    clear hK K hup hHeld
    refine wpAnyH_done (by decide +kernel) ?_ _
    refine NoPanic.normal ?_
    go_wp2_with fail
    go_ret2
    exact ⟨by rw [HDA.out]; rfl, HE.out⟩
end Go.Proofs.Ytocdjaenhllemaa
