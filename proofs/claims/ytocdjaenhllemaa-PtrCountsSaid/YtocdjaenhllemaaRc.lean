/-
  The reference's Counts of layer 8, in memory.
-/
import Derived.Test.YtocdjaenhllemaaLe
namespace Go.Proofs.Ytocdjaenhllemaa
set_option maxRecDepth 4000
open Go.ChangeShapes Go.WideShapes Go.ChangeAt Go.RowKit

/-- The reference's Counts of a law's own. -/
structure RQ (w0 w : World) (M : Nat) (v : Value) (L : List PtrV) : Prop where
  cell : w.heap[M]? = some (.cells #[v] 29 (0, 0))
  new : w0.heap.size ≤ M
  own : w.ownsRow w0.heap.size 35 34 v L.length (rowsP L)
  bel : Below w0.heap.size w0 w
theorem RQ.lt {w0 w : World} {M : Nat} {v : Value} {L : List PtrV} (h : RQ w0 w M v L) : M < w.heap.size := (Array.getElem?_eq_some_iff.1 h.cell).1
theorem RQ.below {w0 w w' : World} {M : Nat} {v : Value} {L : List PtrV} (h : RQ w0 w M v L) (b : Below w.heap.size w w') : RQ w0 w' M v L :=
  ⟨(b.block M h.lt).trans h.cell, h.new, own_belowP h.own b, h.bel.trans (b.mono h.bel.size)⟩
theorem RQ.touch {w0 w w' : World} {M : Nat} {v : Value} {L : List PtrV} {l : List Nat} (h : RQ w0 w M v L) (t : Touch l w w') (hM : M ∉ l) (ho : ∀ g, v.ownBlock = some g → g ∉ l) (hl : ∀ g ∈ l, w0.heap.size ≤ g) : RQ w0 w' M v L :=
  ⟨(t.block M h.lt hM).trans h.cell, h.new, own_touch h.own t ho, h.bel.trans (t.below h.bel.size hl)⟩
set_option maxRecDepth 100000 in
set_option maxHeartbeats 1600000 in
theorem rof8 (w0 w : World) (M : Nat) (v : Value) (L : List PtrV) (q : PtrV) (h : RQ w0 w M v L) (hL : L.length ≤ 1000000) :
    Calls Try.prog 11 #[.pointer (some ⟨M, 0, none⟩), .agg (ptrRow q).toArray] w fun e w' => e = .returned (.int .i64 (L.count q : Int)) ∧ Below w.heap.size w w' := by
  obtain ⟨hr1, hb1, hs1⟩ := box_facts w q
  have h1 := h.below hb1
  obtain ⟨a, c, rfl, hps⟩ := ps_own h1.own
  have hc0 := cell_of_row _ M 0 _ _ _ h1.cell
  have HPS := Lib.hid hps
  have HQB := Lib.hid (heap_alloc_new w (.cells (ptrRow q).toArray 35))
  have HBW := Lib.hid hb1
  have SWQ := Lib.hid (size_ptrA q)
  have hzp := zero_ptr
  have HZL := Lib.hid (fun q : PtrV => show (ptrRow zeroPtr).toArray.size = (ptrRow q).toArray.size by simp [ptrRow_length])
  obtain ⟨ZA, hZA⟩ : ∃ ZA, (ptrRow zeroPtr).toArray = ZA := ⟨_, rfl⟩
  rw [hZA] at hzp HZL
  have n0 : (0 : Int) ≤ (L.length : Int) := by omega
  have n1 : (L.length : Int) ≤ 1000000 := by omega
  obtain ⟨n, hn⟩ : ∃ n, L.length = n := ⟨_, rfl⟩
  have HNN := Lib.hid hn
  rw [hn] at hc0 n0 n1
  have HN1 := Lib.hid (show n ≤ 1000000 by omega)
  have HEQ := Lib.hid (fun p : PtrV => eq_ptr p q)
  clear h h1 hr1 hb1 hs1 hps hZA hn hL
  obtain ⟨T, hT⟩ : ∃ T, w.heap.size = T := ⟨_, rfl⟩
  rw [hT] at HQB
  have HT := Lib.hid hT
  obtain ⟨QR, hQR⟩ : ∃ QR, (ptrRow q).toArray = QR := ⟨_, rfl⟩
  rw [hQR] at HQB HBW SWQ hc0 HPS ⊢
  have HQR := Lib.hid hQR
  clear hQR
  generalize hw1 : w.alloc (.cells QR 35) = w1 at *
  go_enter Try.func11, Try.ntmps11
  go_upto_region 1 with fail
  try rw [hw1]
  try rw [hT]
  clear hw1 hT
  go_wp2_with fail
  clear hc0
  go_loopw [5, 7, 13] (fun v5 _ v13 wr => ∃ i : Nat, i ≤ n ∧ v13 = .int .i64 (i : Int) ∧ v5 = .int .i64 (((L.take i).count q : Nat) : Int) ∧ Below w1.heap.size w1 wr) (fun _ _ v _ => n - (intOf v).toNat)
  case atStart => exact ⟨0, by omega, rfl, rfl, Below.refl _ _⟩
  case round =>
    obtain ⟨i, hi, rfl, rfl, hB⟩ := hrel
    by_cases hlt : i < n
    · obtain ⟨p, hxi⟩ : ∃ p, L[i]? = some p := ⟨_, List.getElem?_eq_getElem (by have := HNN.out; omega)⟩
      obtain ⟨b, off, rfl, hrg0⟩ := HPS.out i p hxi
      have hrg := range_below hrg0 hB
      have HEP := Lib.hid (HEQ.out p)
      have HNX := Lib.hid (show (L.take (i + 1)).count q = (L.take i).count q + (if p = q then 1 else 0) by
        rw [List.take_add_one, hxi, List.count_append]
        by_cases e : p = q
        · subst e; simp
        · rw [if_neg e]; simp [e, Ne.symm e])
      have HCL := Lib.hid (show (L.take i).count q ≤ 1000000 from Nat.le_trans List.count_le_length (by rw [List.length_take]; have := HN1.out; omega))
      have hix := index_ptr b off n c i hlt
      have SWC := Lib.hid (size_ptr p)
      have SWR := Lib.hid (size_ptrA p)
      have EW := Lib.hid (HZL.out p)
      have WO := Lib.hid (ptrRow_one p)
      have HRG := Lib.hid hrg
      have HLT := Lib.hid hlt
      have iI : (i : Int) < (n : Int) := by omega
      have i0 : (0 : Int) ≤ (i : Int) := by omega
      have HB := Lib.hid hB
      have HQ2 := Lib.hid ((hB.block T (Array.getElem?_eq_some_iff.1 HQB.out).1).trans HQB.out)
      have HTW := Lib.hid (show T < wr.heap.size by have := (Array.getElem?_eq_some_iff.1 HQB.out).1; have := hB.size; omega)
      clear hi hlt hrg hrg0 hxi hB
      go_upto_region 5 with (first
        | (with_reducible refine wpList_load_mid (op := ⟨some 16, _, _, _, _, _⟩) rfl 35 _ rfl b (off + i * 34) rfl (ptrRow p) _ HRG.out Try.underlying35 rfl SWC.out ?_)
        | (with_reducible refine wpList_store_row (o := ⟨none, .store _ (.tmp 7) _, _, _, _, _⟩) rfl 35 _ _ rfl wr.heap.size (ptrRow p).toArray rfl rfl 35 ZA (heap_alloc_new wr _) SWR.out EW.out WO.out ?_))
      clear hix
      obtain ⟨h7, hb7⟩ := new_row8 wr ZA (ptrRow p).toArray
      generalize World.setRow _ wr.heap.size _ = w7 at *
      have H7 := Lib.hid h7
      have HB7 := Lib.hid (HB.out.trans (hb7.mono HB.out.size))
      have HQ7 := Lib.hid ((hb7.block T HTW.out).trans HQ2.out)
      obtain ⟨ct, hct⟩ : ∃ ct : Nat, (L.take i).count q = ct := ⟨_, rfl⟩
      rw [hct] at HNX HCL ⊢
      have c1 : (ct : Int) ≤ 1000000 := by have := HCL.out; omega
      rw [HQR.out] at HEP
      clear h7 hb7 HRG SWC EW WO HB hct HQ2
      generalize (ptrRow p).toArray = AR at *
      by_cases hpq : p = q
      · rw [decide_eq_true hpq] at HEP
        rw [if_pos hpq] at HNX
        have heq := HEP.out
        clear hpq HEP
        go_wp2_with (first
          | (with_reducible refine wpList_load_row (o := ⟨some 17, _, _, _, _, _⟩) rfl 35 _ rfl wr.heap.size rfl 35 AR (0, 0) _ H7.out Try.underlying35 rfl SWR.out ?_)
          | (with_reducible refine wpList_load_row (o := ⟨some 18, _, _, _, _, _⟩) rfl 35 _ rfl T rfl 35 QR (0, 0) _ HQ7.out Try.underlying35 rfl SWQ.out ?_))
        go_roundw
        case rel => exact ⟨i + 1, by have := HLT.out; omega, by go_num, by rw [HNX.out]; go_num, HB7.out⟩
        case measure => simp [intOf]; have := HLT.out; omega
      · rw [decide_eq_false hpq] at HEP
        rw [if_neg hpq] at HNX
        have heq := HEP.out
        clear hpq HEP
        go_wp2_with (first
          | (with_reducible refine wpList_load_row (o := ⟨some 17, _, _, _, _, _⟩) rfl 35 _ rfl wr.heap.size rfl 35 AR (0, 0) _ H7.out Try.underlying35 rfl SWR.out ?_)
          | (with_reducible refine wpList_load_row (o := ⟨some 18, _, _, _, _, _⟩) rfl 35 _ rfl T rfl 35 QR (0, 0) _ HQ7.out Try.underlying35 rfl SWQ.out ?_))
        go_roundw
        case rel => exact ⟨i + 1, by have := HLT.out; omega, by go_num, by rw [HNX.out]; rfl, HB7.out⟩
        case measure => simp [intOf]; have := HLT.out; omega
    · obtain rfl : i = n := by omega
      have HB := Lib.hid hB
      have HCT := Lib.hid (show (L.take i).count q = L.count q by rw [List.take_of_length_le (Nat.le_of_eq HNN.out)])
      clear hi hlt hB
      go_wp2_with fail
      go_ret
      exact ⟨congrArg (fun z : Nat => Ending.returned (.int .i64 (z : Int))) HCT.out, HBW.out.trans (HB.out.mono HBW.out.size)⟩
/-- What a call on a reference's Counts may change. -/
def RStep (w w' : World) (M : Nat) (v v' : Value) : Prop := Touch (M :: v.ownBlock.toList) w w' ∧ (v'.ownBlock = v.ownBlock ∨ ∃ b, v'.ownBlock = some b ∧ w.heap.size ≤ b)
theorem RQ.ne {w0 w : World} {M : Nat} {v : Value} {L : List PtrV} (h : RQ w0 w M v L) : v.ownBlock ≠ some M := by
  intro e
  rcases h.own.2 with ⟨rfl, _⟩ | ⟨g, cap, cur, rfl, _, hb, _⟩
  · cases e
  · simp only [Value.ownBlock, Option.some.injEq] at e
    subst e
    rw [h.cell] at hb
    simp at hb
theorem lit_ptr8 (q : PtrV) (W : World) : (Instr.buildSlice 27 1 #[(0, .agg (ptrRow q).toArray)]).run Try.prog W = .ok (.slice (some ⟨W.heap.size, 0, none⟩) 1 1) (W.alloc (.cells (ptrRow q).toArray 35)) := lit_ptr q W
set_option maxRecDepth 100000 in
set_option maxHeartbeats 1600000 in
theorem radd8 (w0 w : World) (M : Nat) (v : Value) (L : List PtrV) (q : PtrV) (h : RQ w0 w M v L) (hL : L.length ≤ 1000) :
    Calls Try.prog 9 #[.pointer (some ⟨M, 0, none⟩), .agg (ptrRow q).toArray] w fun e w' => e = .returned (.int .i64 ((L ++ [q]).count q : Int)) ∧ ∃ v', RQ w0 w' M v' (L ++ [q]) ∧ RStep w w' M v v' := by
  obtain ⟨a, c, rfl, _⟩ := ps_own h.own
  obtain ⟨hr1, hb1, hs1⟩ := box_facts w q
  have hq1 := heap_alloc_new w (.cells (ptrRow q).toArray 35)
  have h1 := h.below hb1
  have hMT : M < w.heap.size := h.lt
  generalize hw1 : w.alloc (.cells (ptrRow q).toArray 35) = w1 at *
  have h2 : RQ w0 w1.drew M (.slice a L.length c) L := h1.below (Below.refl _ w1).drew
  have hA : Below w1.heap.size w1 (w1.alloc (.cells (ptrRow q).toArray 35)).drew := ((Below.refl _ w1).alloc (Nat.le_refl _) _).drew
  have h3 := h1.below hA
  obtain ⟨a', c', w3, hap, ho3, hg3, hob⟩ := append_one (P := Try.prog) (w := (w1.alloc (.cells (ptrRow q).toArray 35)).drew) Try.underlying27 info_ptr (by simp [ptrRow_length]) (by decide) h3.own w1.heap.size (ptrRow q) (show (w1.alloc (.cells (ptrRow q).toArray 35)).heap[w1.heap.size]? = _ from heap_alloc_new w1 _) (ptrRow_length q) (ptrRow_cells1 q) (by omega) (by decide) h3.bel.size
  have hTM : w.heap.size ≠ M := by omega
  have hvb : ∀ g, (Value.slice a L.length c).ownBlock = some g → g < w.heap.size := fun g e => (h.own.lt g e).2
  have hwA : (w1.alloc (.cells (ptrRow q).toArray 35)).drew.heap.size = w.heap.size + 1 + 1 := by
    show (w1.alloc _).heap.size = _
    rw [World.size_alloc, hs1]
  have hcA : (w1.alloc (.cells (ptrRow q).toArray 35)).drew.heap[w.heap.size]? = some (.cells (ptrRow q).toArray 35 (0, 0)) := (hA.block w.heap.size (by omega)).trans hq1
  have hM3 : w3.heap[M]? = some (.cells #[.slice a L.length c] 29 (0, 0)) := (hg3.block M (by omega) (fun e => h.ne e.symm)).trans h3.cell
  have hT3 : w3.heap[w.heap.size]? = some (.cells (ptrRow q).toArray 35 (0, 0)) := (hg3.block w.heap.size (by omega) (fun e => by have := hvb _ e.symm; omega)).trans hcA
  have hs3 := hg3.size
  obtain ⟨w4, hw4⟩ : ∃ w4, w3.setCell ⟨M, 0, none⟩ (.slice a' ((L.length : Nat) + 1) c') = w4 := ⟨_, rfl⟩
  have hM4 : w4.heap[M]? = some (.cells #[.slice a' (L.length + 1) c'] 29 (0, 0)) := by rw [← hw4]; exact Boxed.set _ hM3
  have hg4 : w3.grownBy w4 (some M) := by rw [← hw4]; exact grownBy_setCell' w3 M _
  have hT4 : w4.heap[w.heap.size]? = some (.cells (ptrRow q).toArray 35 (0, 0)) := (hg4.block w.heap.size (by omega) (fun e => hTM (Option.some.inj e))).trans hT3
  have hvM : (Value.slice a' (L.length + 1) c').ownBlock ≠ some M := by
    intro e
    rcases hob with hb | hb
    · exact h.ne (hb.symm.trans e)
    · rw [hb] at e
      have := Option.some.inj e
      omega
  have htt : Touch (M :: (Value.slice a L.length c).ownBlock.toList) w w4 :=
    (((Touch.of_below hb1).trans (Touch.of_below hA)).trans ((Touch.grown hg3).more (fun k hk => by simp [hk]))).trans ((Touch.grown hg4).more (fun k hk => by simp at hk; simp [hk]))
  have hrq : RQ w0 w4 M (.slice a' (L.length + 1) c') (L ++ [q]) :=
    ⟨hM4, h.new, by
      rw [List.length_append, rowsP_snoc]
      exact ho3.kept hg4 (.inr hvM), (h.bel.trans (htt.below h.bel.size (fun k hk => by
        rcases List.mem_cons.1 hk with rfl | hk
        · exact h.new
        · exact (h.own.lt k (by simpa using hk)).1)))⟩
  have HRQ := Lib.hid hrq
  have HTO := Lib.hid htt
  have HBL := Lib.hid (show (Value.slice a' (L.length + 1) c').ownBlock = (Value.slice a L.length c).ownBlock ∨ ∃ b, (Value.slice a' (L.length + 1) c').ownBlock = some b ∧ w.heap.size ≤ b from by
    rcases hob with hb | hb
    · exact .inl hb
    · exact .inr ⟨_, hb, by omega⟩)
  have HOF := Lib.hid (rof8 w0 w4 M _ (L ++ [q]) q hrq (by rw [List.length_append]; simp; omega))
  have HQ4 := Lib.hid hT4
  have HC3 := Lib.hid (cell1 hM3)
  have HCD := Lib.hid (cell1 h2.cell).1
  have HCA := Lib.hid (cell1 h3.cell).1
  have HSD := Lib.hid (show w1.drew.rangeAt w.heap.size 0 (ptrRow q) from range_of_row (show w1.drew.heap[w.heap.size]? = _ from hq1))
  have HSA := Lib.hid (range_of_row hcA)
  have HS3 := Lib.hid (range_of_row hT3)
  have HS4 := Lib.hid (range_of_row hT4)
  have HLI := Lib.hid (fun W => lit_ptr8 q W)
  have HAP := Lib.hid hap
  have SQ := Lib.hid (size_ptr q)
  have SWQ := Lib.hid (size_ptrA q)
  generalize (((L ++ [q]).count q : Nat) : Int) = cq at *
  clear hr1 hb1 hs1 hq1 h h1 hMT h2 hA h3 hap ho3 hg3 hob hTM hvb hwA hcA hM3 hT3 hs3 hM4 hg4 hT4 hvM htt hrq hL
  obtain ⟨T, hT⟩ : ∃ T, w.heap.size = T := ⟨_, rfl⟩
  rw [hT] at HQ4 HSD HSA HS3 HS4
  obtain ⟨n, hn⟩ : ∃ n, L.length = n := ⟨_, rfl⟩
  rw [hn] at HC3 HCD HCA HAP hw4 HRQ HBL HTO
  rw [hn]
  clear hn
  obtain ⟨QL, hQL⟩ : ∃ QL, ptrRow q = QL := ⟨_, rfl⟩
  rw [hQL] at HQ4 HSD HSA HS3 HS4 HCA HLI HAP SQ SWQ HOF hw1
  rw [hQL]
  obtain ⟨QR, hQR⟩ : ∃ QR, QL.toArray = QR := ⟨_, rfl⟩
  rw [hQR] at HQ4 HSA HCA HLI HAP SWQ HOF hw1
  rw [hQR]
  have HQL := Lib.hid hQR
  clear hQL hQR
  go_enter Try.func9, Try.ntmps9
  go_upto_region 1 with fail
  try rw [hw1]
  try rw [hT]
  clear hT hw1
  try simp only [Act.put]
  refine wp_region_noPanic ?_
  refine wp_region_held_drew (S := fun W => W.rangeAt T 0 QL) (by kernel_rfl) (HSD.out) (fun hHeld => ?_)
  refine wpAnyH_take (i := 0) (oi := ⟨some 5, _, _, _, _, _⟩) (v := ?_) rfl (by kernel_rfl) (by decide +kernel) (by decide +kernel) (fun _ _ _ h => h) (Or.inl ⟨by rfl, ?_⟩) (by assumption) ?_
  rotate_left 1
  · (intro w' hSw; go_simp; try with_reducible rfl)
  try simp only [Act.put, List.setIfInBounds_toArray, List.set_cons_zero, List.set_cons_succ]
  refine wpAnyH_take (i := 1) (oi := ⟨some 6, _, _, _, _, _⟩) (v := ?_) rfl (by kernel_rfl) (by decide +kernel) (by decide +kernel) (fun _ _ _ h => h) (Or.inl ⟨by rfl, ?_⟩) (by assumption) ?_
  rotate_left 1
  · (intro w' hSw; go_simp; try with_reducible rfl)
  try simp only [Act.put, List.setIfInBounds_toArray, List.set_cons_zero, List.set_cons_succ]
  refine wpAnyH_take (i := 2) (oi := ⟨some 7, _, _, _, _, _⟩) (v := ?_) rfl (by kernel_rfl) (by decide +kernel) (by decide +kernel) (fun _ _ _ h => h) (Or.inl ⟨by rfl, ?_⟩) (by assumption) ?_
  rotate_left 1
  · (intro w' hSw; go_simp; try with_reducible rfl)
  try simp only [Act.put, List.setIfInBounds_toArray, List.set_cons_zero, List.set_cons_succ]
  refine wpAnyH_take (i := 3) (oi := ⟨some 8, _, _, _, _, _⟩) (v := ?_) rfl (by kernel_rfl) (by decide +kernel) (by decide +kernel) (fun _ _ _ h => h) (Or.inl ⟨by rfl, ?_⟩) (by assumption) ?_
  rotate_left 1
  · (intro w' hSw; go_simp; try with_reducible rfl)
  try simp only [Act.put, List.setIfInBounds_toArray, List.set_cons_zero, List.set_cons_succ]
  refine wpAnyH_take (i := 5) (oi := ⟨some 10, _, _, _, _, _⟩) rfl (by kernel_rfl) (by decide +kernel) (by decide +kernel) (fun _ _ _ h => h) (yieldsIf_load_mid (by rfl) _ _ rfl T 0 rfl QL _ (fun w' h => h) Try.underlying35 rfl SQ.out) (by assumption) ?_
  try simp only [Act.put, List.setIfInBounds_toArray, List.set_cons_zero, List.set_cons_succ]
  rw [HQL.out]
  refine wpAnyH_ready (rs := [4, 6]) (by decide +kernel) (by simp) ?_
  refine AllReadyH.cons rfl (fun K hK => ?_) (AllReadyH.cons rfl (fun K hK => ?_) AllReadyH.nil)
  · have hc := HCD.out
    go_simp
    refine hK.out _ _ HSD.out (fun hHeld => ?_)
    clear hK K
    try simp only [Act.put, List.setIfInBounds_toArray, List.set_cons_zero, List.set_cons_succ]
    clear hc
    refine wpAnyH_ready (rs := [6]) (by decide +kernel) (by simp) ?_
    refine AllReadyH.cons rfl (fun K hK => ?_) AllReadyH.nil
    rw [if_pos (by kernel_rfl)]
    refine wp_lit_at (o := ⟨some 11, _, _, _, _, _⟩) _ _ _ rfl #[(0, .agg QR)] (by simp [Act.eval]) _ _ (HLI.out _) ?_
    refine hK.out _ _ HSA.out (fun hHeld => ?_)
    clear hK K
    try simp only [Act.put, List.setIfInBounds_toArray, List.set_cons_zero, List.set_cons_succ]
    refine wpAnyH_ready (rs := [7]) (by decide +kernel) (by simp) ?_
    refine AllReadyH.cons rfl (fun K hK => ?_) AllReadyH.nil
    rw [if_pos (by kernel_rfl)]
    refine wp_append_at (o := ⟨some 12, _, _, _, _, _⟩) (.tmp 9) (.tmp 11) 27 rfl _ _ rfl rfl _ _ HAP.out ?_
    refine hK.out _ _ HS3.out (fun hHeld => ?_)
    clear hK K
    try simp only [Act.put, List.setIfInBounds_toArray, List.set_cons_zero, List.set_cons_succ]
    refine wpAnyH_take (i := 8) (oi := ⟨some 13, _, _, _, _, _⟩) (v := ?_) rfl (by kernel_rfl) (by decide +kernel) (by decide +kernel) (fun _ _ _ h => h) (Or.inl ⟨by rfl, ?_⟩) (by assumption) ?_
    rotate_left 1
    · (intro w' hSw; go_simp; try with_reducible rfl)
    try simp only [Act.put, List.setIfInBounds_toArray, List.set_cons_zero, List.set_cons_succ]
    refine wpAnyH_take (i := 9) (oi := ⟨some 14, _, _, _, _, _⟩) (v := ?_) rfl (by kernel_rfl) (by decide +kernel) (by decide +kernel) (fun _ _ _ h => h) (Or.inl ⟨by rfl, ?_⟩) (by assumption) ?_
    rotate_left 1
    · (intro w' hSw; go_simp; try with_reducible rfl)
    try simp only [Act.put, List.setIfInBounds_toArray, List.set_cons_zero, List.set_cons_succ]
    refine wpAnyH_ready (rs := [10]) (by decide +kernel) (by simp) ?_
    refine AllReadyH.cons rfl (fun K hK => ?_) AllReadyH.nil
    have hc := HC3.out.1
    have hf := HC3.out.2
    go_simp
    refine hK.out _ _ HS4.out (fun hHeld => ?_)
    clear hK K
    try simp only [Act.put, List.setIfInBounds_toArray, List.set_cons_zero, List.set_cons_succ]
    clear hHeld
    refine wpAnyH_done (by decide +kernel) ?_ _
    refine NoPanic.normal ?_
    go_wp2_with (first
      | (with_reducible refine wpList_load_row (o := ⟨some 16, _, _, _, _, _⟩) rfl 35 _ rfl T rfl 35 QR (0, 0) _ HQ4.out Try.underlying35 rfl SWQ.out ?_))
    refine HOF.out.mono ?_
    rintro e w9 ⟨rfl, hb9⟩
    have HF9 := Lib.hid hb9
    clear hb9 HOF
    go_wp2_with fail
    go_ret
    exact ⟨rfl, _, HRQ.out.below HF9.out, (HTO.out).trans (Touch.of_below HF9.out), HBL.out⟩
  · rw [if_pos (by kernel_rfl)]
    refine wp_lit_at (o := ⟨some 11, _, _, _, _, _⟩) _ _ _ rfl #[(0, .agg QR)] (by simp [Act.eval]) _ _ (HLI.out _) ?_
    refine hK.out _ _ HSA.out (fun hHeld => ?_)
    clear hK K
    try simp only [Act.put, List.setIfInBounds_toArray, List.set_cons_zero, List.set_cons_succ]
    refine wpAnyH_ready (rs := [4]) (by decide +kernel) (by simp) ?_
    refine AllReadyH.cons rfl (fun K hK => ?_) AllReadyH.nil
    have hc := HCA.out
    go_simp
    refine hK.out _ _ HSA.out (fun hHeld => ?_)
    clear hK K
    try simp only [Act.put, List.setIfInBounds_toArray, List.set_cons_zero, List.set_cons_succ]
    clear hc
    refine wpAnyH_ready (rs := [7]) (by decide +kernel) (by simp) ?_
    refine AllReadyH.cons rfl (fun K hK => ?_) AllReadyH.nil
    rw [if_pos (by kernel_rfl)]
    refine wp_append_at (o := ⟨some 12, _, _, _, _, _⟩) (.tmp 9) (.tmp 11) 27 rfl _ _ rfl rfl _ _ HAP.out ?_
    refine hK.out _ _ HS3.out (fun hHeld => ?_)
    clear hK K
    try simp only [Act.put, List.setIfInBounds_toArray, List.set_cons_zero, List.set_cons_succ]
    refine wpAnyH_take (i := 8) (oi := ⟨some 13, _, _, _, _, _⟩) (v := ?_) rfl (by kernel_rfl) (by decide +kernel) (by decide +kernel) (fun _ _ _ h => h) (Or.inl ⟨by rfl, ?_⟩) (by assumption) ?_
    rotate_left 1
    · (intro w' hSw; go_simp; try with_reducible rfl)
    try simp only [Act.put, List.setIfInBounds_toArray, List.set_cons_zero, List.set_cons_succ]
    refine wpAnyH_take (i := 9) (oi := ⟨some 14, _, _, _, _, _⟩) (v := ?_) rfl (by kernel_rfl) (by decide +kernel) (by decide +kernel) (fun _ _ _ h => h) (Or.inl ⟨by rfl, ?_⟩) (by assumption) ?_
    rotate_left 1
    · (intro w' hSw; go_simp; try with_reducible rfl)
    try simp only [Act.put, List.setIfInBounds_toArray, List.set_cons_zero, List.set_cons_succ]
    refine wpAnyH_ready (rs := [10]) (by decide +kernel) (by simp) ?_
    refine AllReadyH.cons rfl (fun K hK => ?_) AllReadyH.nil
    have hc := HC3.out.1
    have hf := HC3.out.2
    go_simp
    refine hK.out _ _ HS4.out (fun hHeld => ?_)
    clear hK K
    try simp only [Act.put, List.setIfInBounds_toArray, List.set_cons_zero, List.set_cons_succ]
    clear hHeld
    refine wpAnyH_done (by decide +kernel) ?_ _
    refine NoPanic.normal ?_
    go_wp2_with (first
      | (with_reducible refine wpList_load_row (o := ⟨some 16, _, _, _, _, _⟩) rfl 35 _ rfl T rfl 35 QR (0, 0) _ HQ4.out Try.underlying35 rfl SWQ.out ?_))
    refine HOF.out.mono ?_
    rintro e w9 ⟨rfl, hb9⟩
    have HF9 := Lib.hid hb9
    clear hb9 HOF
    go_wp2_with fail
    go_ret
    exact ⟨rfl, _, HRQ.out.below HF9.out, (HTO.out).trans (Touch.of_below HF9.out), HBL.out⟩
end Go.Proofs.Ytocdjaenhllemaa
