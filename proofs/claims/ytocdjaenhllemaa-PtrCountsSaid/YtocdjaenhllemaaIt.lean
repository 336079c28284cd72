/-
  The keys of a map of pointers, as they come one by one.
-/
import Derived.Test.YtocdjaenhllemaaCn
import Derived.Test.YtocdjaenhllemaaRp
import Derived.Test.YtocdjaenhllemaaCod0
import Derived.RangeFuncNested
import Derived.RangeFuncBound
import Derived.RangeFuncCalls
import Derived.RangeFuncLeaves
import Derived.RangeFuncStops
import Derived.RangeFuncOne
import Derived.RangeFuncBox
import Derived.Sort.MapsRangeIn
import Derived.Sort.KeysCollected
import Derived.Maps.AppendAt
import Derived.WalkKit
import Derived.OwnWalkIn
import Derived.TacticsInMore
import Derived.RegionIn
import Derived.LoopNIn
import Derived.LoopIn
import Derived.Shelf.Abstract
namespace Go.Proofs.Ytocdjaenhllemaa
section
set_option maxRecDepth 4000
open Go.RowKit Go.Maps Go.Sort
attribute [local go_sem] Oper.semAt_some

section
variable {F : Fence} {n : Nat} {P : Program} {ops : Array Oper} {rest : List Oper} {o : Oper} {a : Act} {w : World} {Q : Exit → Act → World → Prop}
/-- A step whose answer is known. -/
theorem listIn_value (hgd : o.guard = none) (hnc : ∀ c, o.op ≠ .call c) (hnd : ∀ c, o.op ≠ .defer c) (v : Value) (w' : World) (hr : (execOp a.eval o).run P w = .ok (.value v) w') (h : wpListIn F n P ops Q rest (a.put o.dst v) w') : wpListIn F n P ops Q (o :: rest) a w := by
  refine wpListIn_plain hgd fun K' hK' => ?_
  unfold Oper.wpIn
  refine ⟨fun f hf => ?_, ?_⟩
  · unfold Oper.about at hf
    split at hf
    · rename_i c hc
      exact absurd hc (hnc c)
    · cases hf
  · rw [Oper.semAt_eq F.round _ _ hnd, hr]
    exact hK' _ _ h
theorem listIn_skip (hgd : o.guard = none) (hnc : ∀ c, o.op ≠ .call c) (hnd : ∀ c, o.op ≠ .defer c) (w' : World) (hr : (execOp a.eval o).run P w = .ok .skip w') (h : wpListIn F n P ops Q rest (a.put o.dst undef) w') : wpListIn F n P ops Q (o :: rest) a w := by
  refine wpListIn_plain hgd fun K' hK' => ?_
  unfold Oper.wpIn
  refine ⟨fun f hf => ?_, ?_⟩
  · unfold Oper.about at hf
    split at hf
    · rename_i c hc
      exact absurd hc (hnc c)
    · cases hf
  · rw [Oper.semAt_eq F.round _ _ hnd, hr]
    exact hK' _ _ h
theorem listIn_store_row (hgd : o.guard = none) (ty : TypeId) (x y : Operand) (ho : o.op = .store ty x y)
    (g : Nat) (cells : Array Value) (hx : a.eval x = .pointer (some ⟨g, 0, none⟩)) (hy : a.eval y = .agg cells)
    (t : TypeId) (old : Array Value) (hg : w.heap[g]? = some (.cells old t (0, 0))) (hi : (P.info? ty).map (·.size) = some cells.size)
    (hold : old.size = cells.size) (h1 : cells.all (·.oneCell') = true)
    (h : wpListIn F n P ops Q rest (a.put o.dst undef) (w.setRow g cells)) : wpListIn F n P ops Q (o :: rest) a w := by
  refine listIn_skip hgd (by rw [ho]; intro c hc; cases hc) (by rw [ho]; intro c hc; cases hc) _ ?_ h
  unfold execOp
  simp only [ho, hx, hy, Instr.storeAt, Instr.sureAddr, Sem.run_bind, Sem.run_pure, Result.andThen_ok, run_storeVar_row w g t ty old cells hg hi hold h1]
theorem listIn_load_row (hgd : o.guard = none) (ty : TypeId) (x : Operand) (ho : o.op = .load ty x)
    (g : Nat) (hx : a.eval x = .pointer (some ⟨g, 0, none⟩)) (t : TypeId) (cs : Array Value) (fr : Nat × Nat) (d : TypeDesc) (hg : w.heap[g]? = some (.cells cs t fr))
    (hu : P.underlying ty = some d) (hd : (match d with | .struct _ | .array _ _ => true | _ => false) = true) (hi : (P.info? ty).map (·.size) = some cs.size)
    (h : wpListIn F n P ops Q rest (a.put o.dst (.agg cs)) w) : wpListIn F n P ops Q (o :: rest) a w := by
  refine listIn_value hgd (by rw [ho]; intro c hc; cases hc) (by rw [ho]; intro c hc; cases hc) _ _ ?_ h
  unfold execOp
  simp only [ho, hx, Instr.loadAt, Instr.sureAddr, Sem.run_bind, Sem.run_pure, Result.andThen_ok, run_loadVar_row w g t ty cs fr d hg hu hd hi]
end

/-- A pointer as a value. -/
def encP (q : PtrV) : Value := .agg (ptrRow q).toArray
theorem encP_inj {p q : PtrV} (h : encP p = encP q) : p = q := by
  unfold encP at h
  injection h with h
  exact ptrRow_inj (by simpa using h)
/-- No key twice; a key is on the list just where the map has it and it is no longer to come. -/
def CollP {H : Type} (D0 : DataW H) (left : Lit → Bool) (ss : List PtrV) : Prop := ss.Nodup ∧ ∀ q, q ∈ ss ↔ (has D0 (kl q) = true ∧ left (kl q) = false)
theorem CollP.start {H : Type} (D0 : DataW H) : CollP D0 (has D0) [] := ⟨List.nodup_nil, fun x => by cases has D0 (kl x) <;> simp⟩
theorem CollP.step {H : Type} {D0 : DataW H} {left : Lit → Bool} {ss : List PtrV} (h : CollP D0 left ss) {x : PtrV} {y : DataW H} (hlk : left (kl x) = true) (hat : ∀ zd, D0.atKey (kl x) zd = y) : CollP D0 (fun z => left z && !z.sameKey (kl x)) (ss ++ [x]) := by
  have hhas : has D0 (kl x) = true := has_true_of_atKey hat
  have hnx : x ∉ ss := fun hx => by
    have := ((h.2 x).1 hx).2
    rw [hlk] at this
    cases this
  refine ⟨List.nodup_append.2 ⟨h.1, by simp, fun a ha b hb e => ?_⟩, fun q => ?_⟩
  · obtain rfl : b = x := by simpa using hb
    exact hnx (e ▸ ha)
  · rw [List.mem_append, List.mem_singleton, h.2 q]
    show _ ↔ _ ∧ (left (kl q) && !(kl q).sameKey (kl x)) = false
    by_cases e : q = x
    · subst e
      rw [WideAt.sameKey_self (kl_key q)]
      simp [hhas]
    · have hs : (kl q).sameKey (kl x) = false := by
        cases hs : (kl q).sameKey (kl x) with
        | false => rfl
        | true => exact absurd (WideAt.sameKey_eq hs) (kl_ne e)
      rw [hs]
      simp [e]
theorem cell_lt8 {w : World} {b : Nat} {v : Value} (h : w.cell? ⟨b, 0, none⟩ = some v) : b < w.heap.size := by
  unfold World.cell? at h
  split at h
  · rename_i he
    exact (Array.getElem?_eq_some_iff.1 he).1
  · cases h
theorem grown_new (w : World) (Z R : Array Value) : w.grownBy ((w.alloc (.cells Z 35)).setRow w.heap.size R) none :=
  ⟨rfl, rfl, rfl, (new_row8 w Z R).2.size, fun k hk _ => (new_row8 w Z R).2.block k hk⟩

set_option maxRecDepth 100000 in
set_option maxHeartbeats 1600000 in
theorem keys_walk (F : Fence) (n : Nat) (hf : F.fn 29) (hro : F.round = none) (hn : 1 ≤ n) (l Bm b nn : Nat) (D0 : DataW Unit) (J Jx : List PtrV → World → Prop)
    (hY : ∀ pre x W, J pre W → pre.length < Maps.size D0 → YieldAt F (n - 1) Try.prog l #[encP x] W fun e W' =>
      (e = .returned (.bool true) ∧ J (pre ++ [x]) W' ∧ KeepsWalks W W') ∨ (e = .returned (.bool false) ∧ Jx (pre ++ [x]) W'))
    (W : World) (hJ : AbidesFrom W.heap.size J) (hm : W.cell? ⟨Bm, 0, none⟩ = some (.map (some b))) (hown : OM W b nn D0) (h0 : J [] W) :
    CallsIn F n Try.prog 29 #[.func (.yield l) #[] #[], .pointer (some ⟨Bm, 0, none⟩)] W fun e W' => (∃ v, e = .returned v) ∧
      ((∃ ss : List PtrV, (ss.Nodup ∧ ∀ q, q ∈ ss ↔ has D0 (kl q) = true) ∧ J ss W') ∨ (∃ pre : List PtrV, True ∧ Jx pre W')) := by
  have SZ := Lib.hid (fun q => size_ptrA q)
  have HZL := Lib.hid (fun q : PtrV => show (ptrRow zeroPtr).toArray.size = (ptrRow q).toArray.size by simp [ptrRow_length])
  have hzp := zero_ptr
  obtain ⟨ZA, hZA⟩ : ∃ ZA, (ptrRow zeroPtr).toArray = ZA := ⟨_, rfl⟩
  rw [hZA] at hzp HZL
  clear hZA
  refine callsIn_of_wp Try.func29 rfl hf ?_ hro
  simp only [Try.ntmps29, List.size_toArray, List.length_cons, List.length_nil, Nat.reduceAdd, Nat.reduceSub, Array.replicate_succ, Array.replicate_zero, List.push_toArray, List.append_toArray, List.nil_append, List.cons_append]
  gi_wp2_with (first
    | (gi_at_range; refine wpListIn_range_own _ rfl _ 53 rfl 35 3 keyed_ptr Try.underlying53 _ b nn _ rfl hown ?_; intro w0 hrg0 hg0 hs0)
    | gi_in)
  go_frame
  gi_loopw [3] (fun _ wr => ∃ (left : Lit → Bool) (cnt : Nat) (ss : List PtrV), wr.ranges Try.prog 35 (plainElem Try.prog 3) b W.heap.size nn D0 left cnt ∧ ss.length + cnt ≤ Maps.size D0 ∧ CollP D0 left ss ∧ J ss wr)
    (fun _ wr => wr.rangeLeft b W.heap.size)
  case atStart =>
    exact ⟨_, _, [], hrg0, by simp, CollP.start D0, hJ [] W w0 none h0 hg0 (fun r e => by cases e)⟩
  case round =>
    obtain ⟨left, cnt, ss, hrg, hcs, hC, hJs⟩ := hrel
    gi_wp2_with (first
      | (gi_at_next; refine wpListIn_next_ranges _ rfl _ rfl 35 keyed_ptr (plainElem Try.prog 3) encP id (fun key kl hk => by obtain ⟨x, hx, _⟩ := key_inv hk; exact ⟨x, hx⟩) (fun v _ _ => ⟨v, rfl⟩) b W.heap.size nn _ _ _ rfl hrg ?_ ?_)
      | gi_in)
    · intro hc0 hl0
      gi_wp2
      go_end0
      exact ⟨⟨_, rfl⟩, .inl ⟨ss, ⟨hC.1, fun x => by rw [hC.2 x, hl0]; simp⟩, hJs⟩⟩
    · intro x c kl0 yd yp w2 cnt2 hkey hlk hv hat hrg2 hlt hg2 hs2 hen
      obtain ⟨x', ex, rfl⟩ := key_inv hkey
      obtain rfl : x = x' := encP_inj ex
      have hJ2 : J ss w2 := hJ ss wr w2 (some W.heap.size) hJs hg2 (fun r e => by cases e; exact ⟨Nat.le_refl _, hrg.iter_walk⟩)
      clear hs2
      have SZX := Lib.hid (size_ptrA x)
      have EZX := Lib.hid (HZL.out x)
      have ONX := Lib.hid (ptrRow_one x)
      have hgn := grown_new w2 ZA (ptrRow x).toArray
      obtain ⟨hnw, hbw⟩ := new_row8 w2 ZA (ptrRow x).toArray
      have hJ3 := hJ ss w2 _ none hJ2 hgn (fun r e => by cases e)
      have hrg3 := hrg2.kept hgn (by simp) (by simp)
      obtain ⟨fn, tmps, assign, body, hy, hR⟩ := hY ss x _ hJ3 (by omega)
      have hC2 := hC.step hlk hat
      have HNW := Lib.hid hnw
      unfold encP at hy hen
      clear hnw hgn hbw
      gi_wp2_with (first
        | (with_reducible refine listIn_store_row (o := ⟨none, .store _ (.tmp 3) _, _, _, _, _⟩) rfl 35 _ _ rfl w2.heap.size (ptrRow x).toArray rfl rfl 35 ZA (heap_alloc_new w2 _) SZX.out EZX.out ONX.out ?_)
        | (with_reducible refine listIn_load_row (o := ⟨some 11, _, _, _, _, _⟩) rfl 35 _ rfl w2.heap.size rfl 35 (ptrRow x).toArray (0, 0) _ HNW.out Try.underlying35 rfl SZX.out ?_)
        | gi_in)
      refine hR.mono ?_
      rintro e W3 (⟨rfl, hJ4, hk3⟩ | ⟨rfl, hJx3⟩)
      · gi_wp2
        have hrg4 := hrg3.of_walks hk3
        go_roundw
        case rel => exact ⟨_, cnt2, ss ++ [x], hrg4, by simp; omega, hC2, hJ4⟩
        case measure => rw [hrg4.left_eq, hrg.left_eq]; exact hlt
      · gi_wp2
        refine bodyPost_ret (results_none rfl _ _ _) rfl ?_
        exact ⟨⟨_, rfl⟩, .inr ⟨ss ++ [x], trivial, hJx3⟩⟩
set_option maxRecDepth 100000 in
set_option maxHeartbeats 1600000 in
theorem keys_nil (F : Fence) (n : Nat) (hf : F.fn 29) (hro : F.round = none) (l Bm : Nat) (J : List PtrV → World → Prop)
    (W : World) (hJ : AbidesFrom W.heap.size J) (hm : W.cell? ⟨Bm, 0, none⟩ = some (.map none)) (h0 : J [] W) :
    CallsIn F n Try.prog 29 #[.func (.yield l) #[] #[], .pointer (some ⟨Bm, 0, none⟩)] W fun e W' => (∃ v, e = .returned v) ∧ J [] W' := by
  refine callsIn_of_wp Try.func29 rfl hf ?_ hro
  simp only [Try.ntmps29, List.size_toArray, List.length_cons, List.length_nil, Nat.reduceAdd, Nat.reduceSub, Array.replicate_succ, Array.replicate_zero, List.push_toArray, List.append_toArray, List.nil_append, List.cons_append]
  have hrg := run_range_nilMap (P := Try.prog) W 53 35 3 Try.underlying53
  have hnx : ∀ ty, (Instr.next (.pointer (some ⟨W.heap.size, 0, none⟩)) false ty).run Try.prog (W.alloc (.mapIter none 0 #[] 0)) = _ := fun ty => run_next_nilMap _ ty 0 0 #[]
  gi_wp2
  refine wpIn_loop_rounds 1 ?_
  rw [roundsIn_succ]
  gi_wp2
  go_end0
  exact ⟨⟨_, rfl⟩, hJ [] W _ none h0 (World.grownBy_alloc W _ none) (fun r e => by cases e)⟩
set_option maxHeartbeats 1000000 in
/-- maps.Keys(m), the map is boxed, the function value captures the box. -/
theorem keys_made (F : Fence) (n : Nat) (hf : F.fn 21) (hro : F.round = none) (mb : Option Nat) (w : World) :
    CallsIn F n Try.prog 21 #[.map mb] w fun e w' => e = .returned (.func (.func 29) #[] #[.pointer (some ⟨w.heap.size, 0, none⟩)]) ∧ w' = w.alloc (.cells #[.map mb] 53) := by
  refine callsIn_of_wp Try.func21 rfl hf ?_ hro
  simp only [Try.ntmps21, List.size_toArray, List.length_cons, List.length_nil, Nat.reduceAdd, Nat.reduceSub, Array.replicate_succ, Array.replicate_zero, List.push_toArray, List.append_toArray, List.nil_append, List.cons_append]
  gi_wp2
  go_ret
  exact ⟨rfl, rfl⟩
/-- What the keys' function gives, over whatever the map value holds. -/
theorem keys_stop8 (F : Fence) (n : Nat) (hf : F.fn 29) (hro : F.round = none) (hn : 1 ≤ n) (w0 w : World) (Bm K : Nat) (mv : Value) (L : List PtrV) (hm : w.cell? ⟨Bm, 0, none⟩ = some mv) (h : MV8 w0 w mv L K) :
    SeqStops F n Try.prog 29 #[.pointer (some ⟨Bm, 0, none⟩)] encP (fun ss : List PtrV => ss.Nodup ∧ ∀ q, q ∈ ss ↔ q ∈ L) (fun _ => True) (distinct L) w := fun l J Jx W hW hJ _ hY h0 => by
  have hBm : Bm < w.heap.size := cell_lt8 hm
  rcases h with ⟨rfl, rfl⟩ | ⟨b, D, rfl, _, ho, hD⟩
  · exact (keys_nil F n hf hro l Bm J W hJ ((hW.cell (p := ⟨Bm, 0, none⟩) hBm).trans hm) h0).mono fun _ _ ⟨he, hj⟩ => ⟨he, .inl ⟨[], ⟨List.nodup_nil, fun _ => Iff.rfl⟩, hj⟩⟩
  · rw [← size_mapL ho hD] at hY
    refine (keys_walk F n hf hro hn l Bm b K D J Jx hY W hJ ((hW.cell (p := ⟨Bm, 0, none⟩) hBm).trans hm) (om_move ho (hW.block b ho.lt)) h0).mono fun _ _ ⟨he, hj⟩ => ⟨he, ?_⟩
    rcases hj with ⟨ss, ⟨h1, h2⟩, h3⟩ | ⟨pre, h1, h2⟩
    · exact .inl ⟨ss, ⟨h1, fun q => by rw [h2, (hD.2 q).1, decide_eq_true_iff]⟩, h3⟩
    · exact .inr ⟨pre, h1, h2⟩

end
section
set_option maxRecDepth 4000
open Go.RowKit Go.Maps Go.Sort Go.Shelf
attribute [local go_sem] Oper.semAt_some

theorem lit_step {o : Oper} {a : Act} {q : PtrV} {W : World} (h : (Instr.buildSlice 27 1 #[(0, .agg (ptrRow q).toArray)]).run Try.prog W = .ok (.slice (some ⟨W.heap.size, 0, none⟩) 1 1) (W.alloc (.cells (ptrRow q).toArray 35)))
    (ho : o.op = .buildSlice 27 1 #[(0, .tmp 9)]) (ha : a.eval (.tmp 9) = .agg (ptrRow q).toArray) :
    (execOp a.eval o).run Try.prog W = .ok (.value (.slice (some ⟨W.heap.size, 0, none⟩) 1 1)) (W.alloc (.cells (ptrRow q).toArray 35)) := by
  unfold execOp
  simp only [ho, List.map_toArray, List.map_cons, List.map_nil, ha, Sem.run_bind, h, Result.andThen_ok]
  rfl
set_option maxRecDepth 100000 in
set_option maxHeartbeats 1600000 in
theorem append_seq8 (n : Nat) (hn : 3 ≤ n) (w w9 : World) (Bm N : Nat) (S Sp : List PtrV → Prop) (hN : N ≤ 1000000)
    (hseq : SeqStops Fence.wide (n - 1) Try.prog 29 #[.pointer (some ⟨Bm, 0, none⟩)] encP S Sp N w9) (hb9 : Below w9.heap.size w9 w) :
    CallsIn Fence.wide n Try.prog 37 #[.slice none 0 0, .func (.func 29) #[] #[.pointer (some ⟨Bm, 0, none⟩)]] w fun e W' =>
      ∃ v ss, e = .returned v ∧ S ss ∧ W'.ownsRow w.heap.size 35 34 v ss.length (rowsP ss) ∧ (v = .slice none 0 0 ↔ ss = []) ∧ Below w.heap.size w W' := by
  have h1 : 1 ≤ n := by omega
  have HZS : (ptrRow zeroPtr).toArray.size = 34 := by simp [ptrRow_length]
  have HZL := Lib.hid (fun q : PtrV => show (ptrRow zeroPtr).toArray.size = (ptrRow q).toArray.size by simp [ptrRow_length])
  have hzp := zero_ptr
  have hif := info_ptr
  obtain ⟨ZA, hZA⟩ : ∃ ZA, (ptrRow zeroPtr).toArray = ZA := ⟨_, rfl⟩
  rw [hZA] at hzp HZL HZS hif
  clear hZA
  have hif := Lib.hid hif
  have HZS := Lib.hid HZS
  refine callsIn_of_wp_marks Try.func37 rfl trivial ?_ rfl
  simp only [Try.ntmps37, List.size_toArray, List.length_cons, List.length_nil, Nat.reduceAdd, Nat.reduceSub, Array.replicate_succ, Array.replicate_zero, List.push_toArray, List.append_toArray, List.nil_append, List.cons_append]
  gi_wp2
  have bO := Boxed.new w 27 (.slice none 0 0)
  have hB0 : Below w.heap.size w (w.alloc (.cells #[.slice none 0 0] 27)) := (Below.refl _ w).alloc (Nat.le_refl _) _
  have hsK : SeqStopsK Fence.wide (n - 1) Try.prog 29 #[.pointer (some ⟨Bm, 0, none⟩)] (fun x => #[encP x]) KeepsWalks S Sp N w9 := seqStopsA_iff.1 (seqStops_iff.1 hseq)
  have hent : ∀ args w, (callFunc 29 args).run Try.prog w = .ok (.enter 29 args) w := enters_of Try.func29 (by kernel_rfl) rfl
  have hbA : Below w9.heap.size w9 (w.alloc (.cells #[.slice none 0 0] 27)) := hb9.trans (hB0.mono hb9.size)
  clear hseq hb9
  refine wpIn_rangeFunc_ownH (F := Fence.wide) ?hro h1 (gf := 29) (lb := #[.pointer (some ⟨Bm, 0, none⟩)]) ?hg trivial hent
    (encs := fun x => #[encP x]) (Kp := KeepsWalks) (S := S) (Sp := Sp) (N := N) (w0 := w9) hsK walksK_t walksK_b hbA ?hps
    (fun pre W => (∃ v, Boxed W w.heap.size 27 v ∧ W.ownsRow w.heap.size 35 34 v pre.length (rowsP pre) ∧ (v = .slice none 0 0 ↔ pre = [])) ∧ Below w.heap.size w W)
    (fun _ _ _ => False)
    ?hI ?hIx ?h0
    (fun x a' W => ∃ Bx, w.heap.size < Bx ∧ W.heap[Bx]? = some (.cells (ptrRow x).toArray 35 (0, 0)) ∧ a' = { tmps := #[.slice none 0 0, .func (.func 29) #[] #[.pointer (some ⟨Bm, 0, none⟩)], .pointer (some ⟨w.heap.size, 0, none⟩), undef, .slice none 0 0, .pointer (some ⟨Bx, 0, none⟩), .func (.func 29) #[] #[.pointer (some ⟨Bm, 0, none⟩)], encP x, undef, undef, undef, undef, undef], defers := [] })
    ?hAx
    ?assign ?body ?done ?stop
  case hro => rfl
  case hg => rfl
  case hps => intro _; rfl
  case hI => exact OwnFrom.and (Own.from (holdsRow_own w.heap.size w.heap.size 27 35 34 (fun pre : List PtrV => pre.length) (fun pre => rowsP pre) (fun pre v => v = .slice none 0 0 ↔ pre = [])) _) (ownFrom_below (Nat.le_refl _) (by simp))
  case hIx => exact fun _ _ _ _ _ hs _ _ => hs
  case h0 => exact ⟨⟨_, bO, World.ownsRow_nil _ _ _ _, by simp⟩, hB0⟩
  case hAx =>
    intro x a' _ X Y row hs hg hr
    obtain ⟨Bx, h1, h2, h3⟩ := hs
    refine ⟨Bx, h1, (hg.block Bx (Array.getElem?_eq_some_iff.1 h2).1 (fun e => ?_)).trans h2, h3⟩
    obtain ⟨_, o, ho, hc⟩ := hr Bx e.symm
    rw [h2] at ho
    cases ho
    cases hc
  case assign =>
    rintro l pre x W K ⟨⟨v, hv, hrow, hnil⟩, hB⟩ hK
    have SZX := Lib.hid (size_ptrA x)
    have EZX := Lib.hid (HZL.out x)
    have ONX := Lib.hid (ptrRow_one x)
    have hgn := grown_new W ZA (ptrRow x).toArray
    obtain ⟨hnw, hbw⟩ := new_row8 W ZA (ptrRow x).toArray
    have hlt := hv.lt
    unfold encP
    have HK := Lib.hid (hK _ _ ((KeepsOthers.of_grownBy hgn (fun j o e => by cases e)).from _) (KeepsWalks.of_grownBy hgn (fun j o e => by cases e)) ⟨⟨v, hv.kept hgn (by simp), own_belowP hrow hbw, hnil⟩, hB.trans (hbw.mono hB.size)⟩ ⟨W.heap.size, hlt, hnw, rfl⟩)
    clear hgn hnw hbw hK hv hrow hnil hB hlt
    gi_wp2_with (first
      | (with_reducible refine listIn_store_row (o := ⟨none, .store _ (.tmp 5) _, _, _, _, _⟩) rfl 35 _ _ rfl W.heap.size (ptrRow x).toArray rfl rfl 35 ZA (heap_alloc_new W _) SZX.out EZX.out ONX.out ?_)
      | gi_in)
    exact HK.out
  case body =>
    rintro l pre x a' W _ _ ⟨⟨v, hv, hrow, hnil⟩, hB⟩ ⟨Bx, hBx, hbx, rfl⟩ hlt
    have hc := hv.cell
    have SZX := Lib.hid (size_ptrA x)
    have HLX := Lib.hid (lit_ptr x W)
    have HBX := Lib.hid hbx
    have HNE := ptrRow_length x
    obtain ⟨i0, hi, hz0, hz1, hz2⟩ := info_parts hif.out
    clear hbx
    unfold encP
    gi_wp2_with (first
      | (with_reducible refine listIn_load_row (o := ⟨some 9, _, _, _, _, _⟩) rfl 35 _ rfl Bx rfl 35 (ptrRow x).toArray (0, 0) _ HBX.out Try.underlying35 rfl SZX.out ?_)
      | (with_reducible refine listIn_value (o := ⟨some 10, _, _, _, _, _⟩) rfl (fun c hc => by cases hc) (fun c hc => by cases hc) _ _ (lit_step HLX.out rfl rfl) ?_)
      | (gi_at_builtin; refine wpListIn_append_own _ rfl _ _ 27 rfl w.heap.size 35 i0 (.agg ZA) 34 48 Try.underlying27 hi hz0 hz1 hz2 HZS.out (by decide) _ _ _ rfl (hrow.alloc _) ⟨W.heap.size, 0, none⟩ 1 1 (ptrRow x) rfl (by omega) (fun j u hu => by rw [Addr.add_mid, cell_of_row _ _ _ _ _ _ (heap_alloc_new W _)]; simpa using hu) (ptrRow_cells1 x) (by unfold maxLen; omega) (by omega) (by have := hB.size; simp; omega) ?_; intro v' w1 hown' hgrow _; obtain ⟨g', cap', rfl⟩ := ownsRow_succ hown'; obtain ⟨hv1, hv2, hr2, hk2, hb2⟩ := hv.appended (by decide) hrow hB.size (Nat.le_refl _) hown' hgrow; have hc1 := hv1.cell; have hf1 := hv1.frozen)
      | gi_in)
    exact ⟨hk2.from _, hk2.walks, ⟨_, hv2, by rw [rowsP_snoc, List.length_append]; exact hr2, by simp⟩, hB.trans hb2⟩
  case done =>
    rintro D ys W hD hS ⟨⟨v, hv, hrow, hnil⟩, hB⟩ hK
    have hc := hv.cell
    gi_wp2
    refine ⟨by simp, .inl ⟨_, _, rfl, run_takeDeferred hK, ?_⟩⟩
    exact ⟨_, results_tmp rfl _ _ _, v, ys, rfl, hS, ownsRow_putObj hrow _ hK rfl, hnil, hB.trans (belowK_b (w := w) (Nat.le_refl _) W D _ _ (by simp at hD; omega) hK rfl rfl)⟩
  case stop =>
    rintro D c pre W _ _ h _
    exact h.elim
end
end Go.Proofs.Ytocdjaenhllemaa
