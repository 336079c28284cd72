/-
  'AesBlocks' returns true at every input, and each argument reads behind the call as it read before. Conditions: none.
-/
import Derived.Test.YtajfooefofafmaaRows
import Derived.Test.YtajfooefofafmaaYLaid
import Derived.Test.YtajfooefofafmaaYAlive
import Derived.Test.YtajfooefofafmaaROpen
namespace Go.Proofs.Ytajfooefofafmaa.aesBlocks
open Go.ChangeShapes Go.WideShapes Go.ChangeAt Go.RowKit
set_option linter.unusedVariables false

/-- What lies in memory while the law runs. -/
structure LW (w W : World) (P5 P6 : Nat) (k b S T : List (BitVec 8)) : Prop where
  key : ArrY W w.heap.size 22 k
  blk : ArrY W (w.heap.size + 1) 54 b
  tab : ArrY W P5 37 S
  rds : ArrY W P6 69 T
  bel : Below w.heap.size w W
theorem LW.below {w W W' : World} {P5 P6 : Nat} {k b S T : List (BitVec 8)} (h : LW w W P5 P6 k b S T) (hb : Below W.heap.size W W') : LW w W' P5 P6 k b S T :=
  ⟨h.key.below hb (ylt h.key), h.blk.below hb (ylt h.blk), h.tab.below hb (ylt h.tab), h.rds.below hb (ylt h.rds), h.bel.trans (hb.mono (Nat.le_of_lt (ylt h.key)))⟩
theorem index_rounds (T : List (BitVec 8)) (i : Nat) (h : i < 15) (w : World) : (Instr.index 71 (.agg (yvs T)) (.int .i64 (i : Int))).run Try.prog w = .ok (.agg (yvs (rkeyL T i))) w := by
  obtain ⟨i0, hi, hs⟩ := Option.map_eq_some_iff.1 (show (Try.prog.info? 54).map (·.size) = some 16 by kernel_rfl)
  have hagg : (isAgg 54).run Try.prog w = .ok true w := by
    unfold isAgg
    rw [Sem.run_bind, run_underlying Try.underlying54 w]
    rfl
  have hpart : (part 54 (yvs T) (i * 16)).run Try.prog w = .ok (.agg (yvs (rkeyL T i))) w := by
    unfold part
    rw [Sem.run_bind, hagg]
    have e : (yvs T).extract (i * 16) (i * 16 + 16) = yvs (rkeyL T i) := by
      apply Array.ext'
      simp [yvs, rkeyL, List.map_take, List.map_drop, Nat.mul_comm]
    simp [sizeOf, typeInfo, hi, hs, e]
  simp [Instr.index, asIntOf, run_underlying Try.underlying71, h, sizeOf, typeInfo, hi, hs, hpart]

set_option maxRecDepth 100000 in
set_option maxHeartbeats 3200000 in
theorem walk (x0 : List (BitVec 8)) (hx0 : x0.length = 32) (x1 : List (BitVec 8)) (hx1 : x1.length = 16) (w : World) :
    Calls Try.prog 10 #[.agg (yvs x0), .agg (yvs x1)] w fun e w' => e = .returned (.bool true) ∧ Below w.heap.size w w' := by
  have hTL := keysL_length x0 hx0
  have C1 := Lib.hid (fun w => rounds_any x0 w hx0)
  have C2 := Lib.hid (fun w => rrounds_any x0 w hx0)
  have HSA := Lib.hid (fun w => seal_any x0 x1 w hx0 hx1)
  have HRS := Lib.hid (fun w => rseal_any x0 x1 w hx0 hx1)
  have HOA := Lib.hid (fun w => open_any x0 x1 w hx0 hx1)
  have HRO := Lib.hid (fun w => ropen_any x0 x1 w hx0 hx1)
  have HTB := Lib.hid rtable_any
  have HQS := Lib.hid (fun w => eq_block16 (sealB (keysL x0) x1) (sealB (keysL x0) x1) (sealB_length _ _ hTL) (sealB_length _ _ hTL) w)
  have HQO := Lib.hid (fun w => eq_block16 (openB (keysL x0) x1) (openB (keysL x0) x1) (openB_length _ _ hTL) (openB_length _ _ hTL) w)
  have hz := zero_rounds
  have hz2 := zero_t256
  have hz3 : (zeroY 240).length = 240 := by simp [zeroY]
  have hz4 : (zeroY 256).length = 256 := by simp [zeroY]
  have hsl := boxes_length
  generalize sealB (keysL x0) x1 = SB at *
  generalize openB (keysL x0) x1 = OB at *
  generalize keysL x0 = T at *
  generalize boxesL = S at *
  generalize zeroY 240 = Z at *
  generalize zeroY 256 = Z2 at *
  have IK := Lib.hid (show (Try.prog.info? 22).map (·.size) = some (yvs x0).toList.length by rw [Array.length_toList]; exact size_k26 x0 hx0)
  have IKA := Lib.hid (size_k26 x0 hx0)
  have IB := Lib.hid (show (Try.prog.info? 54).map (·.size) = some (yvs x1).toList.length by rw [Array.length_toList]; exact size_b16 x1 hx1)
  have IS := Lib.hid (show (Try.prog.info? 37).map (·.size) = some (yvs S).toList.length by rw [Array.length_toList]; exact size_t256 S hsl)
  have ISA := Lib.hid (size_t256 S hsl)
  have ES := Lib.hid (show (yvs Z2).size = (yvs S).size by rw [yvs_size, yvs_size, hz4, hsl])
  have IT := Lib.hid (size_rounds T hTL)
  have ET := Lib.hid (show (yvs Z).size = (yvs T).size by rw [yvs_size, yvs_size, hz3, hTL])
  have HTL := Lib.hid hTL
  clear hz3 hz4 hsl hTL hx0 hx1
  go_enter Try.func10, Try.ntmps10
  go_wp2_with fail
  obtain ⟨h0, h1, hsz, hbel⟩ := ytwo w (.cells (yvs x0) 22) (.cells (yvs x1) 54)
  generalize (w.alloc (.cells (yvs x0) 22)).alloc (.cells (yvs x1) 54) = W0 at *
  refine (alive4_any _).mono ?_
  rintro e w1 ⟨rfl, hb1⟩
  have H1 := Lib.hid (show ArrY w1 w.heap.size 22 x0 ∧ ArrY w1 (w.heap.size + 1) 54 x1 ∧ Below w.heap.size w w1 from
    ⟨(show ArrY W0 _ _ _ from h0).below hb1 (by omega), (show ArrY W0 _ _ _ from h1).below hb1 (by omega), hbel.trans (hb1.mono (by omega))⟩)
  clear h0 h1 hsz hbel hb1
  go_wp2_with fail
  refine (HTB.out _).mono ?_
  rintro e w2 ⟨rfl, hb2⟩
  have H2 := Lib.hid (show ArrY w2 w.heap.size 22 x0 ∧ ArrY w2 (w.heap.size + 1) 54 x1 ∧ Below w.heap.size w w2 from
    ⟨H1.out.1.below hb2 (ylt H1.out.1), H1.out.2.1.below hb2 (ylt H1.out.2.1), H1.out.2.2.trans (hb2.mono H1.out.2.2.size)⟩)
  clear hb2 H1
  go_upto_region 4 with (first
    | (with_reducible refine wpList_store_row (o := ⟨none, .store _ (.tmp 5) _, _, _, _, _⟩) rfl 37 _ _ rfl w2.heap.size (yvs S) rfl rfl 37 _ (heap_alloc_new w2 _) ISA.out ES.out (yvs_one _) ?_))
  generalize hW3 : World.setRow _ w2.heap.size _ = W3
  have h3 : ArrY W3 w.heap.size 22 x0 ∧ ArrY W3 (w.heap.size + 1) 54 x1 ∧ ArrY W3 w2.heap.size 37 S ∧ Below w.heap.size w W3 := by
    obtain ⟨e1, e2, e3⟩ := ygen_row (w := w2) (old := yvs Z2) (cs := yvs S) (T := 37)
    rw [← hW3]
    exact ⟨H2.out.1.below e3 (ylt H2.out.1), H2.out.2.1.below e3 (ylt H2.out.2.1), e1, H2.out.2.2.trans (e3.mono H2.out.2.2.size)⟩
  have H3 := Lib.hid h3
  clear hW3 h3 H2 hz2
  generalize w2.heap.size = P5 at *
  have HK3 := Lib.hid (show W3.heap[w.heap.size]? = some (.cells (yvs x0) 22 (0, 0)) from H3.out.1)
  go_wp2_with (first
    | (with_reducible refine wpList_load_row (o := ⟨some 12, _, _, _, _, _⟩) rfl 22 _ rfl w.heap.size rfl 22 (yvs x0) (0, 0) _ HK3.out Try.underlying22 rfl IKA.out ?_))
  refine (C1.out _).mono ?_
  rintro e w4 ⟨rfl, hb4⟩
  have H4 := Lib.hid (show ArrY w4 w.heap.size 22 x0 ∧ ArrY w4 (w.heap.size + 1) 54 x1 ∧ ArrY w4 P5 37 S ∧ Below w.heap.size w w4 from
    ⟨H3.out.1.below hb4 (ylt H3.out.1), H3.out.2.1.below hb4 (ylt H3.out.2.1), H3.out.2.2.1.below hb4 (ylt H3.out.2.2.1), H3.out.2.2.2.trans (hb4.mono H3.out.2.2.2.size)⟩)
  clear hb4 H3 HK3
  go_upto_region 5 with (first
    | (with_reducible refine wpList_store_row (o := ⟨none, .store _ (.tmp 6) _, _, _, _, _⟩) rfl 69 _ _ rfl w4.heap.size (yvs T) rfl rfl 69 _ (heap_alloc_new w4 _) IT.out ET.out (yvs_one _) ?_))
  generalize hW5 : World.setRow _ w4.heap.size _ = W5
  have h5 : LW w W5 P5 w4.heap.size x0 x1 S T := by
    obtain ⟨e1, e2, e3⟩ := ygen_row (w := w4) (old := yvs Z) (cs := yvs T) (T := 69)
    rw [← hW5]
    exact ⟨H4.out.1.below e3 (ylt H4.out.1), H4.out.2.1.below e3 (ylt H4.out.2.1), H4.out.2.2.1.below e3 (ylt H4.out.2.2.1), e1, H4.out.2.2.2.trans (e3.mono H4.out.2.2.2.size)⟩
  have H5 := Lib.hid h5
  clear hW5 h5 H4 hz
  generalize w4.heap.size = P6 at *
  have HK5 := Lib.hid (show W5.heap[w.heap.size]? = some (.cells (yvs x0) 22 (0, 0)) from H5.out.key)
  have HT5 := Lib.hid (show W5.heap[P5]? = some (.cells (yvs S) 37 (0, 0)) from H5.out.tab)
  go_wp2_with (first
    | (with_reducible refine wpList_load_row (o := ⟨some 14, _, _, _, _, _⟩) rfl 37 _ rfl P5 rfl 37 (yvs S) (0, 0) _ HT5.out Try.underlying37 rfl ISA.out ?_)
    | (with_reducible refine wpList_load_row (o := ⟨some 15, _, _, _, _, _⟩) rfl 22 _ rfl w.heap.size rfl 22 (yvs x0) (0, 0) _ HK5.out Try.underlying22 rfl IKA.out ?_))
  refine (C2.out _).mono ?_
  rintro e w6 ⟨rfl, hb6⟩
  have H6 := Lib.hid (H5.out.below hb6)
  clear hb6 H5 HK5 HT5
  go_wp2_with fail
  go_loopw [17] (fun v17 wr => ∃ i : Nat, i ≤ 15 ∧ v17 = .int .i64 (i : Nat) ∧ LW w wr P5 P6 x0 x1 S T) (fun v _ => 15 - (intOf v).toNat)
  case atStart => exact ⟨0, by omega, rfl, H6.out⟩
  case round =>
    clear H6
    obtain ⟨i, hi, rfl, hS⟩ := hrel
    by_cases hlt : i < 15
    · have hix := index_rounds T i hlt
      have hkl := rkeyL_length T HTL.out i hlt
      obtain ⟨K0, hK0⟩ : ∃ y, rkeyL T i = y := ⟨_, rfl⟩
      have HRK := Lib.hid (show ∀ W, LW w W P5 P6 x0 x1 S T → W.rangeAt P6 (i * 16) (yvs K0).toList from fun W h => by rw [← hK0, Nat.mul_comm]; exact h.rds.range (16 * i) 16)
      rw [hK0] at hix hkl
      have SK0 := Lib.hid (size_b16 K0 hkl)
      have IKB := Lib.hid (show (Try.prog.info? 55).map (·.size) = some (yvs K0).toList.length by rw [Array.length_toList]; exact size_block K0 hkl)
      have IKC := Lib.hid (show (Try.prog.info? 54).map (·.size) = some (yvs K0).toList.length by rw [Array.length_toList]; exact size_b16 K0 hkl)
      have EK0 := Lib.hid (show (yvs (zeroY 16)).size = (yvs K0).size by rw [yvs_size, yvs_size, hkl]; simp [zeroY])
      have HQK := Lib.hid (fun w => eq_block16 K0 K0 hkl hkl w)
      have HS := Lib.hid hS
      have HLT := Lib.hid hlt
      have iI : (i : Int) < 15 := by omega
      have i0 : (0 : Int) ≤ (i : Int) := by omega
      clear hK0 hkl hS hlt hi
      go_upto_region 8 with (first
        | (with_reducible refine wpList_store_row (o := ⟨none, .store _ (.tmp 8) _, _, _, _, _⟩) rfl 54 _ _ rfl wr.heap.size (yvs K0) rfl rfl 54 (yvs (zeroY 16)) (heap_alloc_new wr _) SK0.out EK0.out (yvs_one _) ?_))
      clear hix
      generalize hW7 : World.setRow _ wr.heap.size _ = W7
      have h7 : LW w W7 P5 P6 x0 x1 S T ∧ ArrY W7 wr.heap.size 54 K0 := by
        obtain ⟨e1, e2, e3⟩ := ygen_row (w := wr) (old := yvs (zeroY 16)) (cs := yvs K0) (T := 54)
        rw [← hW7]
        exact ⟨HS.out.below e3, e1⟩
      have H7 := Lib.hid h7
      clear hW7 h7 HS
      generalize wr.heap.size = X at *
      try simp only [Act.put]
      refine wp_region_noPanic ?_
      refine wp_region_held_drew (S := fun w' => w'.rangeAt P6 (i * 16) (yvs K0).toList ∧ w'.rangeAt X 0 (yvs K0).toList) (by kernel_rfl) ⟨HRK.out _ (H7.out.1.below (Below.refl _ _).drew), (H7.out.2.below (Below.refl _ W7).drew (ylt H7.out.2)).all⟩ (fun hHeld => ?_)
      refine wpAnyH_take (i := 0) (oi := ⟨some 21, _, _, _, _, _⟩) (v := ?_) rfl (by kernel_rfl) (by decide +kernel) (by decide +kernel) (fun _ _ _ h => h) (Or.inl ⟨by rfl, ?_⟩) (by assumption) ?_
      rotate_left 1
      · (intro w' hSw; go_simp; try with_reducible rfl)
      try simp only [Act.put, List.setIfInBounds_toArray, List.set_cons_zero, List.set_cons_succ]
      refine wpAnyH_take (i := 1) (oi := ⟨some 22, _, _, _, _, _⟩) (v := ?_) rfl (by kernel_rfl) (by decide +kernel) (by decide +kernel) (fun _ _ _ h => h) (Or.inl ⟨by rfl, ?_⟩) (by assumption) ?_
      rotate_left 1
      · (intro w' hSw; go_simp; try with_reducible rfl)
      try simp only [Act.put, List.setIfInBounds_toArray, List.set_cons_zero, List.set_cons_succ]
      refine wpAnyH_take (i := 2) (oi := ⟨some 23, _, _, _, _, _⟩) rfl (by kernel_rfl) (by decide +kernel) (by decide +kernel) (fun _ _ _ h => h) (yieldsIf_load_mid (by rfl) _ _ rfl (P6) (i * 16) rfl (yvs K0).toList _ (fun w' h => h.1) Try.underlying55 rfl IKB.out) (by assumption) ?_
      try simp only [Act.put, List.setIfInBounds_toArray, List.set_cons_zero, List.set_cons_succ, Array.toArray_toList]
      refine wpAnyH_take (i := 3) (oi := ⟨some 24, _, _, _, _, _⟩) rfl (by kernel_rfl) (by decide +kernel) (by decide +kernel) (fun _ _ _ h => h) (yieldsIf_load_mid (by rfl) _ _ rfl (X) (0) rfl (yvs K0).toList _ (fun w' h => h.2) Try.underlying54 rfl IKC.out) (by assumption) ?_
      try simp only [Act.put, List.setIfInBounds_toArray, List.set_cons_zero, List.set_cons_succ, Array.toArray_toList]
      have hq := HQK.out
      refine wpAnyH_take (i := 4) (oi := ⟨some 25, _, _, _, _, _⟩) (v := ?_) rfl (by kernel_rfl) (by decide +kernel) (by decide +kernel) (fun _ _ _ h => h) (Or.inl ⟨by rfl, ?_⟩) (by assumption) ?_
      rotate_left 1
      · (intro w' hSw; go_simp; try with_reducible rfl)
      try simp only [Act.put, List.setIfInBounds_toArray, List.set_cons_zero, List.set_cons_succ]
      clear hq hHeld
      refine wpAnyH_done (by decide +kernel) ?_ _
      refine NoPanic.normal ?_
      go_wp2_with fail
      go_roundw
      case rel => exact ⟨i + 1, by have := HLT.out; omega, by go_num, H7.out.1.below (Below.refl _ _).drew⟩
      case measure => simp [intOf]; omega
    · have hge : (15 : Int) ≤ (i : Int) := by omega
      have HS := Lib.hid hS
      have HS2 := Lib.hid (show ∀ W, Below wr.heap.size wr W → W.rangeAt w.heap.size 0 (yvs x0).toList ∧ W.rangeAt (w.heap.size + 1) 0 (yvs x1).toList ∧ W.rangeAt P5 0 (yvs S).toList from fun W hW => ⟨(hS.below hW).key.all, (hS.below hW).blk.all, (hS.below hW).tab.all⟩)
      clear hlt hi hS
      go_wp2_with fail
      try simp only [Act.put]
      refine wp_region_noPanic ?_
      refine wp_region_held_drew (S := fun w' => w'.rangeAt w.heap.size 0 (yvs x0).toList ∧ w'.rangeAt (w.heap.size + 1) 0 (yvs x1).toList ∧ w'.rangeAt P5 0 (yvs S).toList) (by kernel_rfl) (HS2.out _ (Below.refl _ wr).drew) (fun hHeld => ?_)
      have HB0 := Lib.hid (Below.refl wr.heap.size wr).drew
      refine wpAnyH_take (i := 0) (oi := ⟨some 27, _, _, _, _, _⟩) rfl (by kernel_rfl) (by decide +kernel) (by decide +kernel) (fun _ _ _ h => h) (yieldsIf_load_mid (by rfl) _ _ rfl (w.heap.size) (0) rfl (yvs x0).toList _ (fun w' h => h.1) Try.underlying22 rfl IK.out) (by assumption) ?_
      try simp only [Act.put, List.setIfInBounds_toArray, List.set_cons_zero, List.set_cons_succ, Array.toArray_toList]
      refine wpAnyH_take (i := 1) (oi := ⟨some 28, _, _, _, _, _⟩) rfl (by kernel_rfl) (by decide +kernel) (by decide +kernel) (fun _ _ _ h => h) (yieldsIf_load_mid (by rfl) _ _ rfl (w.heap.size + 1) (0) rfl (yvs x1).toList _ (fun w' h => h.2.1) Try.underlying54 rfl IB.out) (by assumption) ?_
      try simp only [Act.put, List.setIfInBounds_toArray, List.set_cons_zero, List.set_cons_succ, Array.toArray_toList]
      refine wpAnyH_take (i := 3) (oi := ⟨some 30, _, _, _, _, _⟩) rfl (by kernel_rfl) (by decide +kernel) (by decide +kernel) (fun _ _ _ h => h) (yieldsIf_load_mid (by rfl) _ _ rfl (P5) (0) rfl (yvs S).toList _ (fun w' h => h.2.2) Try.underlying37 rfl IS.out) (by assumption) ?_
      try simp only [Act.put, List.setIfInBounds_toArray, List.set_cons_zero, List.set_cons_succ, Array.toArray_toList]
      refine wpAnyH_take (i := 4) (oi := ⟨some 31, _, _, _, _, _⟩) rfl (by kernel_rfl) (by decide +kernel) (by decide +kernel) (fun _ _ _ h => h) (yieldsIf_load_mid (by rfl) _ _ rfl (w.heap.size) (0) rfl (yvs x0).toList _ (fun w' h => h.1) Try.underlying22 rfl IK.out) (by assumption) ?_
      try simp only [Act.put, List.setIfInBounds_toArray, List.set_cons_zero, List.set_cons_succ, Array.toArray_toList]
      refine wpAnyH_take (i := 5) (oi := ⟨some 32, _, _, _, _, _⟩) rfl (by kernel_rfl) (by decide +kernel) (by decide +kernel) (fun _ _ _ h => h) (yieldsIf_load_mid (by rfl) _ _ rfl (w.heap.size + 1) (0) rfl (yvs x1).toList _ (fun w' h => h.2.1) Try.underlying54 rfl IB.out) (by assumption) ?_
      try simp only [Act.put, List.setIfInBounds_toArray, List.set_cons_zero, List.set_cons_succ, Array.toArray_toList]
      refine wpAnyH_ready (rs := [2]) (by decide +kernel) (by simp) ?_
      refine AllReadyH.cons rfl (fun K hK => ?_) AllReadyH.nil
      go_simp
      go_at_call 22
      refine (HSA.out _).mono ?_
      rintro e w8 ⟨rfl, hb⟩
      have Qw8 := Lib.hid (HB0.out.trans (hb.mono HB0.out.size))
      clear hb hHeld
      go_wp2_with fail
      refine hK.out _ _ (HS2.out _ Qw8.out) (fun hHeld => ?_)
      clear hK K
      try simp only [Act.put, List.setIfInBounds_toArray, List.set_cons_zero, List.set_cons_succ]
      refine wpAnyH_ready (rs := [6]) (by decide +kernel) (by simp) ?_
      refine AllReadyH.cons rfl (fun K hK => ?_) AllReadyH.nil
      go_simp
      go_at_call 27
      refine (HRS.out _).mono ?_
      rintro e w9 ⟨rfl, hb⟩
      have Qw9 := Lib.hid (Qw8.out.trans (hb.mono Qw8.out.size))
      clear hb hHeld
      go_wp2_with fail
      refine hK.out _ _ (HS2.out _ Qw9.out) (fun hHeld => ?_)
      clear hK K
      try simp only [Act.put, List.setIfInBounds_toArray, List.set_cons_zero, List.set_cons_succ]
      have hq := HQS.out
      refine wpAnyH_take (i := 7) (oi := ⟨some 34, _, _, _, _, _⟩) (v := ?_) rfl (by kernel_rfl) (by decide +kernel) (by decide +kernel) (fun _ _ _ h => h) (Or.inl ⟨by rfl, ?_⟩) (by assumption) ?_
      rotate_left 1
      · (intro w' hSw; go_simp; try with_reducible rfl)
      try simp only [Act.put, List.setIfInBounds_toArray, List.set_cons_zero, List.set_cons_succ]
      clear hq
      refine wpAnyH_take (i := 8) (oi := ⟨some 35, _, _, _, _, _⟩) (v := ?_) rfl (by kernel_rfl) (by decide +kernel) (by decide +kernel) (fun _ _ _ h => h) (Or.inl ⟨by rfl, ?_⟩) (by assumption) ?_
      rotate_left 1
      · (intro w' hSw; go_simp; try with_reducible rfl)
      try simp only [Act.put, List.setIfInBounds_toArray, List.set_cons_zero, List.set_cons_succ]
      refine wpAnyH_take (i := 9) (oi := ⟨some 36, _, _, _, _, _⟩) rfl (by kernel_rfl) (by decide +kernel) (by decide +kernel) (fun _ _ _ h => h) (yieldsIf_load_mid (by rfl) _ _ rfl (w.heap.size) (0) rfl (yvs x0).toList _ (fun w' h => h.1) Try.underlying22 rfl IK.out) (by assumption) ?_
      try simp only [Act.put, List.setIfInBounds_toArray, List.set_cons_zero, List.set_cons_succ, Array.toArray_toList]
      refine wpAnyH_take (i := 10) (oi := ⟨some 37, _, _, _, _, _⟩) rfl (by kernel_rfl) (by decide +kernel) (by decide +kernel) (fun _ _ _ h => h) (yieldsIf_load_mid (by rfl) _ _ rfl (w.heap.size + 1) (0) rfl (yvs x1).toList _ (fun w' h => h.2.1) Try.underlying54 rfl IB.out) (by assumption) ?_
      try simp only [Act.put, List.setIfInBounds_toArray, List.set_cons_zero, List.set_cons_succ, Array.toArray_toList]
      refine wpAnyH_take (i := 12) (oi := ⟨some 39, _, _, _, _, _⟩) rfl (by kernel_rfl) (by decide +kernel) (by decide +kernel) (fun _ _ _ h => h) (yieldsIf_load_mid (by rfl) _ _ rfl (P5) (0) rfl (yvs S).toList _ (fun w' h => h.2.2) Try.underlying37 rfl IS.out) (by assumption) ?_
      try simp only [Act.put, List.setIfInBounds_toArray, List.set_cons_zero, List.set_cons_succ, Array.toArray_toList]
      refine wpAnyH_take (i := 13) (oi := ⟨some 40, _, _, _, _, _⟩) rfl (by kernel_rfl) (by decide +kernel) (by decide +kernel) (fun _ _ _ h => h) (yieldsIf_load_mid (by rfl) _ _ rfl (w.heap.size) (0) rfl (yvs x0).toList _ (fun w' h => h.1) Try.underlying22 rfl IK.out) (by assumption) ?_
      try simp only [Act.put, List.setIfInBounds_toArray, List.set_cons_zero, List.set_cons_succ, Array.toArray_toList]
      refine wpAnyH_take (i := 14) (oi := ⟨some 41, _, _, _, _, _⟩) rfl (by kernel_rfl) (by decide +kernel) (by decide +kernel) (fun _ _ _ h => h) (yieldsIf_load_mid (by rfl) _ _ rfl (w.heap.size + 1) (0) rfl (yvs x1).toList _ (fun w' h => h.2.1) Try.underlying54 rfl IB.out) (by assumption) ?_
      try simp only [Act.put, List.setIfInBounds_toArray, List.set_cons_zero, List.set_cons_succ, Array.toArray_toList]
      refine wpAnyH_ready (rs := [11]) (by decide +kernel) (by simp) ?_
      refine AllReadyH.cons rfl (fun K hK => ?_) AllReadyH.nil
      go_simp
      go_at_call 28
      refine (HOA.out _).mono ?_
      rintro e w10 ⟨rfl, hb⟩
      have Qw10 := Lib.hid (Qw9.out.trans (hb.mono Qw9.out.size))
      clear hb hHeld
      go_wp2_with fail
      refine hK.out _ _ (HS2.out _ Qw10.out) (fun hHeld => ?_)
      clear hK K
      try simp only [Act.put, List.setIfInBounds_toArray, List.set_cons_zero, List.set_cons_succ]
      refine wpAnyH_ready (rs := [15]) (by decide +kernel) (by simp) ?_
      refine AllReadyH.cons rfl (fun K hK => ?_) AllReadyH.nil
      go_simp
      go_at_call 29
      refine (HRO.out _).mono ?_
      rintro e w11 ⟨rfl, hb⟩
      have Qw11 := Lib.hid (Qw10.out.trans (hb.mono Qw10.out.size))
      clear hb hHeld
      go_wp2_with fail
      refine hK.out _ _ (HS2.out _ Qw11.out) (fun hHeld => ?_)
      clear hK K
      try simp only [Act.put, List.setIfInBounds_toArray, List.set_cons_zero, List.set_cons_succ]
      have hq := HQO.out
      refine wpAnyH_take (i := 16) (oi := ⟨some 43, _, _, _, _, _⟩) (v := ?_) rfl (by kernel_rfl) (by decide +kernel) (by decide +kernel) (fun _ _ _ h => h) (Or.inl ⟨by rfl, ?_⟩) (by assumption) ?_
      rotate_left 1
      · (intro w' hSw; go_simp; try with_reducible rfl)
      try simp only [Act.put, List.setIfInBounds_toArray, List.set_cons_zero, List.set_cons_succ]
      clear hq
      refine wpAnyH_take (i := 17) (oi := ⟨some 44, _, _, _, _, _⟩) (v := ?_) rfl (by kernel_rfl) (by decide +kernel) (by decide +kernel) (fun _ _ _ h => h) (Or.inl ⟨by rfl, ?_⟩) (by assumption) ?_
      rotate_left 1
      · (intro w' hSw; go_simp; try with_reducible rfl)
      try simp only [Act.put, List.setIfInBounds_toArray, List.set_cons_zero, List.set_cons_succ]
      refine wpAnyH_take (i := 18) (oi := ⟨some 4, _, _, _, _, _⟩) (v := ?_) rfl (by kernel_rfl) (by decide +kernel) (by decide +kernel) (fun _ _ _ h => h) (Or.inl ⟨by rfl, ?_⟩) (by assumption) ?_
      rotate_left 1
      · (intro w' hSw; go_simp; try with_reducible rfl)
      try simp only [Act.put, List.setIfInBounds_toArray, List.set_cons_zero, List.set_cons_succ]
      clear hHeld
      refine wpAnyH_done (by decide +kernel) ?_ _
      refine NoPanic.normal ?_
      go_wp2_with fail
      go_ret
      exact ⟨by simp, HS.out.bel.trans (Qw11.out.mono HS.out.bel.size)⟩
set_option maxRecDepth 100000 in
theorem lifted (os : Os) (started : os.Started) (H : Type) (enc : TypeId × Value → H) :
    ReturnsInHanded {} Try.checked os 10 .any (Rows.aesBlocksSpec.pre6 enc Try.prog Try.f10 Rows.aesBlocksRow.domain false) (Rows.aesBlocksSpec.post enc Try.prog Try.f10 false true false false) := by
  refine returnsInHanded_of_change (C := Try.checked) own started (by kernel_rfl) Try.func10
    (ChangeSpec.witness6 (enc := enc) (C := Try.checked) false ⟨#[], #[.agg (Array.replicate 32 (.int .u8 0)), .agg (Array.replicate 16 (.int .u8 0))], []⟩ 8 (by kernel_rfl) (by kernel_rfl) (by kernel_rfl) (by kernel_rfl)) ?_
  intro W base args ds gs before hval0 hW hcnd _
  have hval : ∀ (j : Nat) t v, Try.f10.params[j]? = some t → args[j]? = some v → Value.okWide Try.prog W .any base t v := hval0
  have hW' := hW
  obtain ⟨p, q, hA0, hV, rfl, hfz, hnd⟩ := hW
  have hA : DataW.TrodAll enc Try.prog W 0 (fun _ => true) true Try.f10.params.toList args.toList ds p := hA0
  rw [Try.params10] at hA hval
  obtain ⟨v0, vs0, d0, ds0, p0, q0, hargs, rfl, rfl, h0, r0⟩ := trodAll_cons hA
  obtain ⟨v1, vs1, d1, ds1, p1, q1, rfl, rfl, rfl, h1, r1⟩ := trodAll_cons r0
  obtain ⟨rfl, rfl, rfl⟩ := trodAll_nil r1
  obtain rfl : args = #[v0, v1] := by cases args; simp_all
  obtain ⟨rfl, rfl⟩ := trodVars_none hV
  have k0 := h0
  have lt0 : ∀ x ∈ p0, x.block < W.heap.size := by obtain ⟨m, hm⟩ := k0; exact DataW.trod_lt m _ _ _ hm
  have k1 := h1
  have lt1 : ∀ x ∈ p1, x.block < W.heap.size := by obtain ⟨m, hm⟩ := k1; exact DataW.trod_lt m _ _ _ hm
  obtain ⟨x0, rfl, hx0⟩ := open_yrow Try.underlying22 (by kernel_rfl) (by decide) h0
  obtain ⟨x1, rfl, hx1⟩ := open_yrow Try.underlying54 (by kernel_rfl) (by decide) h1
  clear hA0 hval0
  simp only [List.append_nil] at hW'
  refine (walk x0 hx0 x1 hx1 W).mono fun e W' ⟨he, bel⟩ => ?_
  subst he
  exact ⟨_, rfl, _, _, _, [], _, [], hW', trodAll_mk1 (shut_bool Try.underlying4 _), (trodAll_cons_mk (Below.trod laidOut (by kernel_rfl) (of_decide_eq_true (by kernel_rfl)) k0 bel lt0) (trodAll_cons_mk (Below.trod laidOut (by kernel_rfl) (of_decide_eq_true (by kernel_rfl)) k1 bel lt1) trodAll_mk0)), rfl, bel.frame _, fun h => by cases h⟩

theorem over : Rows.aesBlocksRow.holds Try.pinned (OpenSpec.ofChange Rows.aesBlocksSpec) :=
  OpenClaim.holds_of_wide 10 Try.f10 rfl rfl rfl rfl rfl rfl rfl ⟨rfl, rfl, rfl, rfl, rfl⟩ rfl rfl rfl rfl rfl (by kernel_rfl) Try.func10 (by kernel_rfl)
    (of_decide_eq_true (by kernel_rfl)) (by unfold Func.isWrapper; first | (rw [if_pos (by decide +kernel)]; kernel_rfl) | (rw [if_neg (by decide +kernel)]; exact ⟨rfl, rfl⟩))
    (fun os started H enc _ => lifted os started H enc)

/-- The statement. -/
theorem proved : Rows.AesBlocksSaid := over
#print axioms proved
end Go.Proofs.Ytajfooefofafmaa.aesBlocks
