/-
  The code: Seal and Open.
-/
import Derived.Test.YtajfooefofafmaaYRounds
namespace Go.Proofs.Ytajfooefofafmaa
open Go.RowKit

/-- What lies in memory while a block is sealed, or opened: the block x, the result's place, the round keys T. -/
structure SW (w W : World) (PR : Nat) (x T : List (BitVec 8)) : Prop where
  blk : W.heap[w.heap.size + 1]? = some (.cells (yvs x) 55 (0, 0))
  ret : W.heap[w.heap.size + 1 + 1]? = some (.cells (yvs (zeroY 16)) 55 (0, 0))
  rds : W.heap[PR]? = some (.cells (yvs T) 69 (0, 0))
  bel : Below w.heap.size w W
  lo : w.heap.size + 1 + 1 < PR
  hi : PR < W.heap.size
theorem SW.below {w W W' : World} {PR : Nat} {x T : List (BitVec 8)} (h : SW w W PR x T) (hb : Below W.heap.size W W') : SW w W' PR x T :=
  ⟨(hb.block _ (by have := h.lo; have := h.hi; omega)).trans h.blk, (hb.block _ (by have := h.lo; have := h.hi; omega)).trans h.ret, (hb.block _ h.hi).trans h.rds, h.bel.trans (hb.mono (by have := h.lo; have := h.hi; omega)), h.lo, Nat.lt_of_lt_of_le h.hi hb.size⟩
theorem SW.drew {w W : World} {PR : Nat} {x T : List (BitVec 8)} (h : SW w W PR x T) : SW w W.drew PR x T := h.below (Below.refl _ W).drew
theorem SW.store {w W : World} {PR : Nat} {x T : List (BitVec 8)} (h : SW w W PR x T) (y : List (BitVec 8)) : SW w (W.setRow (w.heap.size + 1) (yvs y)) PR y T :=
  ⟨setRow_heap W _ _ (yvs y) _ _ h.blk, (setRow_other W _ _ _ (by omega)).trans h.ret, (setRow_other W _ _ _ (by have := h.lo; omega)).trans h.rds, ybelow_row h.bel (by omega) _, h.lo, by simpa using h.hi⟩
theorem SW.range {w W : World} {PR : Nat} {x T : List (BitVec 8)} (h : SW w W PR x T) (i : Nat) : W.rangeAt PR (16 * i) (yvs (rkeyL T i)).toList := ArrY.range (show ArrY W PR 69 T from h.rds) (16 * i) 16
/-- The same, and a round's key in a block of its own. -/
def SX (w W : World) (PR P7 : Nat) (x T y : List (BitVec 8)) : Prop := SW w W PR x T ∧ ArrY W P7 55 y ∧ w.heap.size + 1 + 1 < P7 ∧ P7 < W.heap.size
theorem SX.below {w W W' : World} {PR P7 : Nat} {x T y : List (BitVec 8)} (h : SX w W PR P7 x T y) (hb : Below W.heap.size W W') : SX w W' PR P7 x T y :=
  ⟨h.1.below hb, h.2.1.below hb h.2.2.2, h.2.2.1, Nat.lt_of_lt_of_le h.2.2.2 hb.size⟩
theorem SX.drew {w W : World} {PR P7 : Nat} {x T y : List (BitVec 8)} (h : SX w W PR P7 x T y) : SX w W.drew PR P7 x T y := h.below (Below.refl _ W).drew
theorem SX.store {w W : World} {PR P7 : Nat} {x T y : List (BitVec 8)} (h : SX w W PR P7 x T y) (z : List (BitVec 8)) : SX w (W.setRow (w.heap.size + 1) (yvs z)) PR P7 z T y :=
  ⟨h.1.store z, (setRow_other W _ _ _ (by have := h.2.2.1; omega)).trans h.2.1, h.2.2.1, by simpa using h.2.2.2⟩
theorem SW.ret_rds {w W : World} {PR : Nat} {x T : List (BitVec 8)} (h : SW w W PR x T) (y : List (BitVec 8)) : ArrY (W.setRow (w.heap.size + 1 + 1) (yvs y)) PR 69 T := (setRow_other W _ _ _ (by have := h.lo; omega)).trans h.rds
theorem SW.arr {w W : World} {PR : Nat} {x T : List (BitVec 8)} (h : SW w W PR x T) : ArrY W PR 69 T := h.rds
theorem get8 {α : Type} {a0 a1 a2 a3 a4 a5 a6 a7 a8 : α} : (#[a0, a1, a2, a3, a4, a5, a6, a7, a8] : Array α)[8]? = some a8 := rfl
theorem size_rkey (T : List (BitVec 8)) (h : T.length = 240) (i : Nat) (hi : i < 15) : (Try.prog.info? 55).map (·.size) = some (yvs (rkeyL T i)).toList.length := by rw [Array.length_toList]; exact size_block _ (rkeyL_length T h i hi)
theorem slice_rounds (g : Nat) (W : World) : (Instr.sliceAt 69 (.pointer (some ⟨g, 0, none⟩)) (some (.int .i64 1)) (some (.int .i64 14)) none).run Try.prog W = .ok (.slice (some ⟨g, 16, none⟩) 13 14) W := by
  obtain ⟨i0, hi0, hs⟩ := Option.map_eq_some_iff.1 info_block
  have b1 : (Instr.sliceBound (.int .i64 14) 15 .sliceAlen).run Try.prog W = .ok 14 W := ybound_ok 14 15 _ (by omega) W
  have b2 : (Instr.sliceBound (.int .i64 1) 14 .sliceB).run Try.prog W = .ok 1 W := ybound_ok 1 14 _ (by omega) W
  simp [Instr.sliceAt, run_underlying Try.underlying69, Instr.sureAddr, Instr.sliceBounds, sizeOf, typeInfo, hi0, hs, Addr.add_mid, b1, b2]
theorem ygen_row {w : World} {old cs : Array Value} {T : TypeId} : ((w.alloc (.cells old T)).setRow w.heap.size cs).heap[w.heap.size]? = some (.cells cs T (0, 0)) ∧ ((w.alloc (.cells old T)).setRow w.heap.size cs).heap.size = w.heap.size + 1 ∧
    Below w.heap.size w ((w.alloc (.cells old T)).setRow w.heap.size cs) :=
  ⟨setRow_heap (w.alloc (.cells old T)) w.heap.size _ cs _ _ (heap_alloc_new w _), by simp, ybelow_row ((Below.refl w.heap.size w).alloc (Nat.le_refl _) _) (Nat.le_refl _) cs⟩

set_option maxRecDepth 100000 in
set_option maxHeartbeats 3200000 in
theorem seal_any (k b : List (BitVec 8)) (w : World) (hk : k.length = 32) (hb : b.length = 16) :
    Calls Try.prog 22 #[.agg (yvs k), .agg (yvs b)] w fun e w' => e = .returned (.agg (yvs (sealB (keysL k) b))) ∧ Below w.heap.size w w' := by
  have HKL := Lib.hid hk
  have HBL := Lib.hid hb
  have SK := Lib.hid (size_key k hk)
  have SB := Lib.hid (size_block b hb)
  have HRD := Lib.hid (fun w => rounds_any k w hk)
  have hz := zero_rounds
  have HTL := Lib.hid (keysL_length k hk)
  generalize keysL k = T at *
  have ST := Lib.hid (size_rounds T HTL.out)
  clear hk hb
  go_enter Try.func22, Try.ntmps22
  go_wp2_with (first
    | (with_reducible refine wpList_load_row (o := ⟨some 8, _, _, _, _, _⟩) rfl 28 _ rfl w.heap.size rfl 28 (yvs k) (0, 0) _ (ythree w _ _ _).1 Try.underlying28 rfl SK.out ?_))
  obtain ⟨_, h1, h2, hsz, hbel⟩ := ythree w (.cells (yvs k) 28) (.cells (yvs b) 55) (.cells (yvs (zeroY 16)) 55)
  refine (HRD.out _).mono ?_
  rintro e w1 ⟨rfl, hb1⟩
  replace hb1 : Below (w.heap.size + 3) (((w.alloc (.cells (yvs k) 28)).alloc (.cells (yvs b) 55)).alloc (.cells (yvs (zeroY 16)) 55)) w1 := by rw [← hsz]; exact hb1
  have hz1 : w.heap.size + 3 ≤ w1.heap.size := by rw [← hsz]; exact hb1.size
  have h1' := (hb1.block _ (by omega)).trans h1
  have h2' := (hb1.block _ (by omega)).trans h2
  have hB1 := hbel.trans (hb1.mono (by omega))
  have H1 := Lib.hid (And.intro hz1 (And.intro h1' (And.intro h2' hB1)))
  clear h1 h2 hsz hbel hb1 hz1 h1' h2' hB1
  go_upto_region 2 with (first
    | (with_reducible refine wpList_store_row (o := ⟨none, .store _ (.tmp 5) _, _, _, _, _⟩) rfl 69 _ _ rfl w1.heap.size (yvs T) rfl rfl 69 _ (heap_alloc_new w1 _) ST.out ?c1 (yvs_one _) ?_))
  case c1 => rw [yvs_size, yvs_size, HTL.out]; simp [zeroY]
  clear hz
  generalize hW0 : World.setRow _ w1.heap.size _ = W0
  have hSW : SW w W0 w1.heap.size b T := by
    obtain ⟨e1, e2, e3⟩ := ygen_row (w := w1) (old := yvs (zeroY 240)) (cs := yvs T) (T := 69)
    obtain ⟨z1, f1, f2, g1⟩ := H1.out
    rw [← hW0]
    exact ⟨(e3.block _ (by omega)).trans f1, (e3.block _ (by omega)).trans f2, e1, g1.trans (e3.mono (by omega)), by omega, by rw [e2]; omega⟩
  have HS := Lib.hid hSW
  clear hW0 hSW H1
  generalize w1.heap.size = PR at *
  have hK0 := Lib.hid (show W0.rangeAt PR 0 (yvs (rkeyL T 0)).toList from HS.out.range 0)
  have SK0 := Lib.hid (size_rkey T HTL.out 0 (by omega))
  have hB0 := Lib.hid HS.out.blk
  go_wp2_with (first
    | (with_reducible refine wpList_load_row (o := ⟨some 10, _, _, _, _, _⟩) rfl 55 _ rfl (w.heap.size + 1) rfl 55 (yvs b) (0, 0) _ hB0.out Try.underlying55 rfl SB.out ?_)
    | (with_reducible refine wpList_load_mid (op := ⟨some 12, _, _, _, _, _⟩) rfl 55 _ rfl PR 0 rfl (yvs (rkeyL T 0)).toList _ hK0.out Try.underlying55 rfl SK0.out ?_))
  refine (summed_any b (rkeyL T 0) _ HBL.out (rkeyL_length T HTL.out 0 (by omega))).mono ?_
  rintro e w2 ⟨rfl, hb2⟩
  have HS2 := Lib.hid (HS.out.below hb2)
  have hl0 := sealN_length T b HTL.out HBL.out 0 (by omega)
  have S0 := Lib.hid (size_block (sealN T b 0) hl0)
  have SE0 := Lib.hid (show (yvs b).size = (yvs (sealN T b 0)).size by rw [yvs_size, yvs_size, hl0, HBL.out])
  have hB2 := Lib.hid HS2.out.blk
  clear hb2 hl0
  go_upto_region 3 with (first
    | (with_reducible refine wpList_store_row (o := ⟨none, .store _ (.tmp 3) _, _, _, _, _⟩) rfl 55 _ _ rfl (w.heap.size + 1) (yvs (sealN T b 0)) rfl rfl 55 _ hB2.out S0.out SE0.out (yvs_one _) ?_))
  generalize hW3 : World.setRow _ (w.heap.size + 1) _ = W3
  have HS3 := Lib.hid (show SW w W3 PR (sealN T b 0) T by rw [← hW3]; exact HS2.out.store _)
  clear hW3 HS HS2 hB2 hB0 hK0
  have hsl := slice_rounds PR
  go_wp2_with fail
  clear hsl
  go_loopw [16] (fun v16 wr => ∃ i : Nat, i ≤ 13 ∧ v16 = .int .i64 (i : Nat) ∧ SW w wr PR (sealN T b i) T) (fun v _ => 13 - (intOf v).toNat)
  case atStart => exact ⟨0, by omega, rfl, HS3.out⟩
  case round =>
    obtain ⟨i, hi, rfl, hS⟩ := hrel
    by_cases hlt : i < 13
    · have HLT := Lib.hid hlt
      have HS := Lib.hid hS
      have HKY := Lib.hid (hS.range (i + 1))
      have SKY := Lib.hid (size_rkey T HTL.out (i + 1) (by omega))
      have SKB := Lib.hid (size_block (rkeyL T (i + 1)) (rkeyL_length T HTL.out _ (by omega)))
      have SE1 := Lib.hid (show (yvs (zeroY 16)).size = (yvs (rkeyL T (i + 1))).size by rw [yvs_size, yvs_size, rkeyL_length T HTL.out _ (by omega)]; simp [zeroY])
      have eo : 16 + i * 16 = 16 * (i + 1) := by omega
      have iI : (i : Int) < 13 := by omega
      have i0 : (0 : Int) ≤ (i : Int) := by omega
      clear hi hlt hS
      go_upto_region 6 with (first
        | (with_reducible refine wpList_load_mid (op := ⟨some 19, _, _, _, _, _⟩) rfl 55 _ rfl PR (16 * (i + 1)) rfl (yvs (rkeyL T (i + 1))).toList _ HKY.out Try.underlying55 rfl SKY.out ?_)
        | (with_reducible refine wpList_store_row (o := ⟨none, .store _ (.tmp 7) _, _, _, _, _⟩) rfl 55 _ _ rfl wr.heap.size (yvs (rkeyL T (i + 1))) rfl rfl 55 _ (heap_alloc_new wr _) SKB.out ?c1 (yvs_one _) ?_))
      case c1 => exact SE1.out
      generalize hW7 : World.setRow _ wr.heap.size _ = W7
      have h7 : SX w W7 PR wr.heap.size (sealN T b i) T (rkeyL T (i + 1)) := by
        obtain ⟨e1, e2, e3⟩ := ygen_row (w := wr) (old := yvs (zeroY 16)) (cs := yvs (rkeyL T (i + 1))) (T := 55)
        have hS := HS.out
        rw [← hW7]
        exact ⟨hS.below e3, e1, by have := hS.lo; have := hS.hi; omega, Nat.lt_of_lt_of_eq (Nat.lt_succ_self _) e2.symm⟩
      have H7 := Lib.hid h7
      clear hW7 h7 HS HKY SKY SKB SE1 eo
      generalize wr.heap.size = P7 at *
      have LX := Lib.hid (sealN_length T b HTL.out HBL.out i (by have := HLT.out; omega))
      have LX1 := Lib.hid (sealN_length T b HTL.out HBL.out (i + 1) (by have := HLT.out; omega))
      have LK := Lib.hid (rkeyL_length T HTL.out (i + 1) (by have := HLT.out; omega))
      have SX0 := Lib.hid (size_block _ LX.out)
      have SX1 := Lib.hid (size_block _ LX1.out)
      have SE1 := Lib.hid (show (yvs (sealN T b i)).size = (yvs (sealN T b (i + 1))).size by rw [yvs_size, yvs_size, LX.out, LX1.out])
      have SKL := Lib.hid (size_rkey T HTL.out (i + 1) (by have := HLT.out; omega))
      simp only [Act.put]
      refine wp_region_noPanic ?_
      refine wp_region_held_drew (S := fun w' => w'.rangeAt P7 0 (yvs (rkeyL T (i + 1))).toList) (by kernel_rfl) H7.out.drew.2.1.all (fun hHeld => ?_)
      refine wpAnyH_take (i := 4) (oi := ⟨some 24, _, _, _, _, _⟩) rfl (by kernel_rfl) (by decide +kernel) (by decide +kernel) (fun _ _ _ h => h) (yieldsIf_load_mid (by rfl) _ _ rfl (P7) (0) rfl (yvs (rkeyL T (i + 1))).toList _ (fun w' h => h) Try.underlying55 rfl SKL.out) (by assumption) ?_
      try simp only [Act.put, List.setIfInBounds_toArray, List.set_cons_zero, List.set_cons_succ, Array.toArray_toList]
      clear hHeld
      refine wpAnyH_ready (rs := [0]) (by decide +kernel) (by simp) ?_
      refine AllReadyH.cons rfl (fun K hK => ?_) AllReadyH.nil
      rw [if_pos (by kernel_rfl)]
      refine wp_load_row (o := ⟨some 20, _, _, _, _, _⟩) 55 _ rfl (w.heap.size + 1) rfl 55 (yvs (sealN T b i)) (0, 0) _ (H7.out.drew.1.blk) Try.underlying55 rfl (SX0.out) ?_
      refine hK.out _ _ (H7.out.drew.2.1.all) (fun hHeld => ?_)
      clear hK K hHeld
      try simp only [Act.put, List.setIfInBounds_toArray, List.set_cons_zero, List.set_cons_succ]
      refine wpAnyH_ready (rs := [1]) (by decide +kernel) (by simp) ?_
      refine AllReadyH.cons rfl (fun K hK => ?_) AllReadyH.nil
      go_simp
      go_at_call 38
      refine (boxed_any (sealN T b i) _ LX.out).mono ?_
      rintro e w8 ⟨rfl, hb⟩
      have X8 := Lib.hid (H7.out.drew.below hb)
      clear hb
      go_wp2_with fail
      refine hK.out _ _ (X8.out.2.1.all) (fun hHeld => ?_)
      clear hK K hHeld
      try simp only [Act.put, List.setIfInBounds_toArray, List.set_cons_zero, List.set_cons_succ]
      refine wpAnyH_ready (rs := [2]) (by decide +kernel) (by simp) ?_
      refine AllReadyH.cons rfl (fun K hK => ?_) AllReadyH.nil
      go_simp
      go_at_call 37
      refine (turned_any (boxB (sealN T b i)) _ ((boxB_length _).trans LX.out)).mono ?_
      rintro e w9 ⟨rfl, hb⟩
      have X9 := Lib.hid (X8.out.below hb)
      clear hb
      go_wp2_with fail
      refine hK.out _ _ (X9.out.2.1.all) (fun hHeld => ?_)
      clear hK K hHeld
      try simp only [Act.put, List.setIfInBounds_toArray, List.set_cons_zero, List.set_cons_succ]
      refine wpAnyH_ready (rs := [3]) (by decide +kernel) (by simp) ?_
      refine AllReadyH.cons rfl (fun K hK => ?_) AllReadyH.nil
      go_simp
      go_at_call 36
      refine (mixed_any (turnB (boxB (sealN T b i))) _ (turnB_length _)).mono ?_
      rintro e w10 ⟨rfl, hb⟩
      have X10 := Lib.hid (X9.out.below hb)
      clear hb
      go_wp2_with fail
      refine hK.out _ _ (X10.out.2.1.all) (fun hHeld => ?_)
      clear hK K hHeld
      try simp only [Act.put, List.setIfInBounds_toArray, List.set_cons_zero, List.set_cons_succ]
      refine wpAnyH_ready (rs := [5]) (by decide +kernel) (by simp) ?_
      refine AllReadyH.cons rfl (fun K hK => ?_) AllReadyH.nil
      go_simp
      go_at_call 35
      refine (summed_any (mixB (turnB (boxB (sealN T b i)))) (rkeyL T (i + 1)) _ (mixB_length _) LK.out).mono ?_
      rintro e w11 ⟨rfl, hb⟩
      have X11 := Lib.hid (X10.out.below hb)
      clear hb
      go_wp2_with fail
      refine hK.out _ _ (X11.out.2.1.all) (fun hHeld => ?_)
      clear hK K hHeld
      try simp only [Act.put, List.setIfInBounds_toArray, List.set_cons_zero, List.set_cons_succ]
      refine wpAnyH_ready (rs := [6]) (by decide +kernel) (by simp) ?_
      refine AllReadyH.cons rfl (fun K hK => ?_) AllReadyH.nil
      rw [if_pos (by kernel_rfl)]
      refine wp_store_row (o := ⟨none, .store _ (.tmp 3) _, _, _, _, _⟩) 55 _ _ rfl (w.heap.size + 1) (yvs (sealN T b (i + 1))) rfl rfl 55 _ (X11.out.1.blk) (SX1.out) (SE1.out) (yvs_one _) ?_
      refine hK.out _ _ ((X11.out.store _).2.1.all) (fun hHeld => ?_)
      clear hK K hHeld
      simp only [Act.put]
      refine wpAnyH_done (by decide +kernel) ?_ _
      refine NoPanic.normal ?_
      go_wp2_with fail
      go_roundw
      case rel => exact ⟨i + 1, by have := HLT.out; omega, by go_num, (X11.out.store _).1⟩
      case measure => simp [intOf]; omega
    · have HI := Lib.hid (show i = 13 by omega)
      have hge : (13 : Int) ≤ (i : Int) := by omega
      have hS13 : SW w wr PR (sealN T b 13) T := by rw [← HI.out]; exact hS
      have H13 := Lib.hid hS13
      have LX := Lib.hid (sealN_length T b HTL.out HBL.out 13 (by omega))
      have LK := Lib.hid (rkeyL_length T HTL.out 14 (by omega))
      have LF := Lib.hid (sealB_length T b HTL.out)
      have SX0 := Lib.hid (size_block _ LX.out)
      have SXF := Lib.hid (size_block _ LF.out)
      have SE1 := Lib.hid (show (yvs (zeroY 16)).size = (yvs (sealB T b)).size by rw [yvs_size, yvs_size, LF.out]; simp [zeroY])
      have SKL := Lib.hid (size_rkey T HTL.out 14 (by omega))
      have hRG : ∀ W x, SW w W PR x T → W.rangeAt PR 224 (yvs (rkeyL T 14)).toList := fun W x h => h.range 14
      have HRG := Lib.hid hRG
      clear hS13 hS hlt hi hRG
      go_wp2_with fail
      refine wp_region_noPanic ?_
      refine wp_region_held_drew (S := fun w' => w'.rangeAt PR 224 (yvs (rkeyL T 14)).toList) (by kernel_rfl) (HRG.out _ _ H13.out.drew) (fun hHeld => ?_)
      refine wpAnyH_take (i := 3) (oi := ⟨some 30, _, _, _, _, _⟩) (v := ?_) rfl (by kernel_rfl) (by decide +kernel) (by decide +kernel) (fun _ _ _ h => h) (Or.inl ⟨by rfl, ?_⟩) (by assumption) ?_
      rotate_left 1
      · (intro w' hSw; go_simp; try with_reducible rfl)
      try simp only [Act.put, List.setIfInBounds_toArray, List.set_cons_zero, List.set_cons_succ]
      refine wpAnyH_take (i := 4) (oi := ⟨some 31, _, _, _, _, _⟩) rfl (by kernel_rfl) (by decide +kernel) (by decide +kernel) (fun _ _ _ h => h) (yieldsIf_load_mid (by rfl) _ _ rfl (PR) (224) rfl (yvs (rkeyL T 14)).toList _ (fun w' h => h) Try.underlying55 rfl SKL.out) (by assumption) ?_
      try simp only [Act.put, List.setIfInBounds_toArray, List.set_cons_zero, List.set_cons_succ, Array.toArray_toList]
      clear hHeld
      refine wpAnyH_ready (rs := [0]) (by decide +kernel) (by simp) ?_
      refine AllReadyH.cons rfl (fun K hK => ?_) AllReadyH.nil
      rw [if_pos (by kernel_rfl)]
      refine wp_load_row (o := ⟨some 27, _, _, _, _, _⟩) 55 _ rfl (w.heap.size + 1) rfl 55 (yvs (sealN T b 13)) (0, 0) _ (H13.out.drew.blk) Try.underlying55 rfl (SX0.out) ?_
      refine hK.out _ _ (HRG.out _ _ H13.out.drew) (fun hHeld => ?_)
      clear hK K hHeld
      try simp only [Act.put, List.setIfInBounds_toArray, List.set_cons_zero, List.set_cons_succ]
      refine wpAnyH_ready (rs := [1]) (by decide +kernel) (by simp) ?_
      refine AllReadyH.cons rfl (fun K hK => ?_) AllReadyH.nil
      go_simp
      go_at_call 38
      refine (boxed_any (sealN T b 13) _ LX.out).mono ?_
      rintro e w8 ⟨rfl, hb⟩
      have X8 := Lib.hid (H13.out.drew.below hb)
      clear hb
      go_wp2_with fail
      refine hK.out _ _ (HRG.out _ _ X8.out) (fun hHeld => ?_)
      clear hK K hHeld
      try simp only [Act.put, List.setIfInBounds_toArray, List.set_cons_zero, List.set_cons_succ]
      refine wpAnyH_ready (rs := [2]) (by decide +kernel) (by simp) ?_
      refine AllReadyH.cons rfl (fun K hK => ?_) AllReadyH.nil
      go_simp
      go_at_call 37
      refine (turned_any (boxB (sealN T b 13)) _ ((boxB_length _).trans LX.out)).mono ?_
      rintro e w9 ⟨rfl, hb⟩
      have X9 := Lib.hid (X8.out.below hb)
      clear hb
      go_wp2_with fail
      refine hK.out _ _ (HRG.out _ _ X9.out) (fun hHeld => ?_)
      clear hK K hHeld
      try simp only [Act.put, List.setIfInBounds_toArray, List.set_cons_zero, List.set_cons_succ]
      refine wpAnyH_ready (rs := [5]) (by decide +kernel) (by simp) ?_
      refine AllReadyH.cons rfl (fun K hK => ?_) AllReadyH.nil
      go_simp
      go_at_call 35
      refine (summed_any (turnB (boxB (sealN T b 13))) (rkeyL T 14) _ (turnB_length _) LK.out).mono ?_
      rintro e w10 ⟨rfl, hb⟩
      have X10 := Lib.hid (X9.out.below hb)
      clear hb
      go_wp2_with fail
      refine hK.out _ _ (HRG.out _ _ X10.out) (fun hHeld => ?_)
      clear hK K hHeld
      try simp only [Act.put, List.setIfInBounds_toArray, List.set_cons_zero, List.set_cons_succ]
      refine wpAnyH_ready (rs := [6]) (by decide +kernel) (by simp) ?_
      refine AllReadyH.cons rfl (fun K hK => ?_) AllReadyH.nil
      rw [if_pos (by kernel_rfl)]
      refine wp_store_row (o := ⟨none, .store _ (.tmp 4) _, _, _, _, _⟩) 55 _ _ rfl (w.heap.size + 1 + 1) (yvs (sealB T b)) rfl rfl 55 _ (X10.out.ret) (SXF.out) (SE1.out) (yvs_one _) ?_
      refine hK.out _ _ ((X10.out.ret_rds _).range 224 16) (fun hHeld => ?_)
      clear hK K hHeld
      simp only [Act.put]
      refine wpAnyH_done (by decide +kernel) ?_ _
      refine NoPanic.normal ?_
      go_wp2_with fail
      refine bodyPost_ret (v := .agg (yvs (sealB T b))) (results_cell_row Try.results22 _ _ (w.heap.size + 1 + 1) 55 (yvs (sealB T b)) (0, 0) _ rfl (setRow_heap _ (w.heap.size + 1 + 1) _ (yvs (sealB T b)) _ _ X10.out.ret) Try.underlying55 rfl SXF.out) rfl ⟨rfl, ?_⟩
      exact ybelow_row X10.out.bel (by omega) _

end Go.Proofs.Ytajfooefofafmaa
