/-
  The reference's Open.
-/
import Derived.Test.YtajfooefofafmaaRSeal
import Derived.Deep.CutRange
namespace Go.Proofs.Ytajfooefofafmaa
open Go.RowKit

/-- What lies in memory while the reference opens. -/
structure RO (w W : World) (PR PU : Nat) (x T U : List (BitVec 8)) : Prop where
  blk : ArrY W (w.heap.size + 1 + 1) 54 x
  ret : ArrY W (w.heap.size + 1 + 1 + 1) 54 (zeroY 16)
  rds : ArrY W PR 71 T
  ubx : ArrY W PU 37 U
  bel : Below w.heap.size w W
  lo : w.heap.size + 1 + 1 + 1 < PR
  lo2 : w.heap.size + 1 + 1 + 1 < PU
  hi : PR < W.heap.size
  hi2 : PU < W.heap.size
theorem RO.below {w W W' : World} {PR PU : Nat} {x T U : List (BitVec 8)} (h : RO w W PR PU x T U) (hb : Below W.heap.size W W') : RO w W' PR PU x T U :=
  ⟨h.blk.below hb (ylt h.blk), h.ret.below hb (ylt h.ret), h.rds.below hb h.hi, h.ubx.below hb h.hi2, h.bel.trans (hb.mono (by have := h.lo; have := h.hi; omega)), h.lo, h.lo2, Nat.lt_of_lt_of_le h.hi hb.size, Nat.lt_of_lt_of_le h.hi2 hb.size⟩
theorem RO.put {w W : World} {PR PU : Nat} {x T U : List (BitVec 8)} (h : RO w W PR PU x T U) (k : Nat) (v : BitVec 8) : RO w (W.setCell ⟨w.heap.size + 1 + 1, k, none⟩ (.int .u8 (yv v))) PR PU (x.set k v) T U :=
  ⟨h.blk.set k v, h.ret.other _ _ (show w.heap.size + 1 + 1 + 1 ≠ w.heap.size + 1 + 1 by omega), h.rds.other _ _ (show PR ≠ w.heap.size + 1 + 1 by have := h.lo; omega), h.ubx.other _ _ (show PU ≠ w.heap.size + 1 + 1 by have := h.lo2; omega),
    h.bel.setCell (p := ⟨w.heap.size + 1 + 1, k, none⟩) (show w.heap.size ≤ w.heap.size + 1 + 1 by omega) _, h.lo, h.lo2, by simpa using h.hi, by simpa using h.hi2⟩
theorem RO.other {w W W' : World} {PR PU : Nat} {x T U : List (BitVec 8)} (h : RO w W PR PU x T U) {X : Nat} (hX : PR < X) (hX2 : PU < X) (hb : Below X W W') : RO w W' PR PU x T U :=
  ⟨h.blk.below hb (by have := h.lo; omega), h.ret.below hb (by have := h.lo; omega), h.rds.below hb hX, h.ubx.below hb hX2, h.bel.trans (hb.mono (by have := h.lo; omega)), h.lo, h.lo2, Nat.lt_of_lt_of_le h.hi hb.size, Nat.lt_of_lt_of_le h.hi2 hb.size⟩
theorem RO.range {w W : World} {PR PU : Nat} {x T U : List (BitVec 8)} (h : RO w W PR PU x T U) (i : Nat) : W.rangeAt PR (i * 16) (yvs (rkeyL T i)).toList := by
  rw [Nat.mul_comm]; exact h.rds.range (16 * i) 16
/-- The block ahead of round n, from 14 down. -/
def opN (T b : List (BitVec 8)) (n : Nat) : List (BitVec 8) := if n = 14 then b else openN T b (13 - n)
theorem unturn_on (f : BitVec 8 → BitVec 8) (a0 a1 a2 a3 a4 a5 a6 a7 a8 a9 a10 a11 a12 a13 a14 a15 b0 b1 b2 b3 b4 b5 b6 b7 b8 b9 b10 b11 b12 b13 b14 b15 : BitVec 8) :
    setF org (fun p => f ([a0, a1, a2, a3, a4, a5, a6, a7, a8, a9, a10, a11, a12, a13, a14, a15].getD p 0)) 16 [b0, b1, b2, b3, b4, b5, b6, b7, b8, b9, b10, b11, b12, b13, b14, b15] = [f a0, f a13, f a10, f a7, f a4, f a1, f a14, f a11, f a8, f a5, f a2, f a15, f a12, f a9, f a6, f a3] := by kernel_rfl
theorem unturn_over (V B : List (BitVec 8)) (hV : V.length = 16) (hB : B.length = 16) : setF org (fun p => ubox (V.getD p 0)) 16 B = unboxB (unturnB V) := by
  obtain ⟨a0, a1, a2, a3, a4, a5, a6, a7, a8, a9, a10, a11, a12, a13, a14, a15, rfl⟩ := sixteen V hV
  obtain ⟨b0, b1, b2, b3, b4, b5, b6, b7, b8, b9, b10, b11, b12, b13, b14, b15, rfl⟩ := sixteen B hB
  rw [unturn_eq, unturn_on]
  simp only [unboxB, List.map]
theorem unboxes_at (b : BitVec 8) : unboxesL.getD b.toNat 0 = ubox b := rfl

set_option maxRecDepth 100000 in
set_option maxHeartbeats 6400000 in
theorem ropen_any (k b : List (BitVec 8)) (w : World) (hk : k.length = 32) (hb : b.length = 16) :
    Calls Try.prog 29 #[.agg (yvs boxesL), .agg (yvs k), .agg (yvs b)] w fun e w' => e = .returned (.agg (yvs (openB (keysL k) b))) ∧ Below w.heap.size w w' := by
  have HKL := Lib.hid hk
  have HBL := Lib.hid hb
  have HRD := Lib.hid (fun w => rrounds_any k w hk)
  have HBK := Lib.hid rback_any
  have zl : (zeroY 240).length = 240 := by simp [zeroY]
  have zl2 : (zeroY 256).length = 256 := by simp [zeroY]
  have hz := zero_r15
  have hz2 := zero_t256
  have HTL := Lib.hid (keysL_length k hk)
  have HUX := Lib.hid (show unboxesL.length = 256 ∧ ∀ b : BitVec 8, unboxesL.getD b.toNat 0 = ubox b from ⟨unboxes_length, unboxes_at⟩)
  have HSL := Lib.hid boxes_length
  generalize keysL k = T at *
  generalize boxesL = S at *
  generalize unboxesL = U at *
  generalize zeroY 240 = Z at *
  generalize zeroY 256 = Z2 at *
  have ZL := Lib.hid zl
  have ZL2 := Lib.hid zl2
  have IT := Lib.hid (size_r15 T HTL.out)
  have ET := Lib.hid (show (yvs Z).size = (yvs T).size by rw [yvs_size, yvs_size, HTL.out, ZL.out])
  have IU := Lib.hid (size_t256 U HUX.out.1)
  have EU := Lib.hid (show (yvs Z2).size = (yvs U).size by rw [yvs_size, yvs_size, HUX.out.1, ZL2.out])
  have IS := Lib.hid (show (Try.prog.info? 37).map (·.size) = some (yvs S).toList.length by rw [Array.length_toList]; exact size_t256 S HSL.out)
  have IK := Lib.hid (show (Try.prog.info? 22).map (·.size) = some (yvs k).toList.length by rw [Array.length_toList]; exact size_k26 k hk)
  clear hk hb zl zl2
  go_enter Try.func29, Try.ntmps29
  go_upto_region 1 with fail
  have hfour := yfour w (.cells (yvs S) 37) (.cells (yvs k) 22) (.cells (yvs b) 54) (.cells (yvs (zeroY 16)) 54)
  generalize hW3 : World.alloc (World.alloc (World.alloc (World.alloc w _) _) _) _ = W3
  obtain ⟨h0, h1, h2, h3, hsz, hbel⟩ : W3.heap[w.heap.size]? = some (.cells (yvs S) 37) ∧ W3.heap[w.heap.size + 1]? = some (.cells (yvs k) 22) ∧ W3.heap[w.heap.size + 1 + 1]? = some (.cells (yvs b) 54) ∧ W3.heap[w.heap.size + 1 + 1 + 1]? = some (.cells (yvs (zeroY 16)) 54) ∧ W3.heap.size = w.heap.size + 4 ∧ Below w.heap.size w W3 := by
    rw [← hW3]; exact hfour
  clear hfour hW3
  have HW3 := Lib.hid (show ArrY W3 (w.heap.size + 1 + 1) 54 b ∧ ArrY W3 (w.heap.size + 1 + 1 + 1) 54 (zeroY 16) ∧ Below w.heap.size w W3 ∧ W3.heap.size = w.heap.size + 4 from ⟨h2, h3, hbel, hsz⟩)
  have HS := Lib.hid (show ∀ W, Below W3.heap.size W3 W → W.rangeAt w.heap.size 0 (yvs S).toList ∧ W.rangeAt (w.heap.size + 1) 0 (yvs k).toList from fun W hW =>
    ⟨ArrY.all (t := 37) ((show ArrY W3 _ _ _ from h0).below hW (by omega)), ArrY.all (t := 22) ((show ArrY W3 _ _ _ from h1).below hW (by omega))⟩)
  clear h0 h1 h2 h3 hsz hbel
  go_cut [7, 8] from 13 (fun v7 v8 wr => ∃ X Y, v7 = .pointer (some ⟨X, 0, none⟩) ∧ v8 = .pointer (some ⟨Y, 0, none⟩) ∧ ArrY wr X 71 T ∧ ArrY wr Y 37 U ∧ Below W3.heap.size W3 wr ∧ W3.heap.size ≤ X ∧ W3.heap.size ≤ Y)
  case first =>
    try simp only [Act.put]
    refine wp_region_noPanic ?_
    refine wp_region_held_drew (S := fun w' => w'.rangeAt w.heap.size 0 (yvs S).toList ∧ w'.rangeAt (w.heap.size + 1) 0 (yvs k).toList) (by kernel_rfl) (HS.out _ (Below.refl _ W3).drew) (fun hHeld => ?_)
    refine wpAnyH_take (i := 0) (oi := ⟨some 13, _, _, _, _, _⟩) rfl (by kernel_rfl) (by decide +kernel) (by decide +kernel) (fun _ _ _ h => h) (yieldsIf_load_mid (by rfl) _ _ rfl (w.heap.size) (0) rfl (yvs S).toList _ (fun w' h => h.1) Try.underlying37 rfl IS.out) (by assumption) ?_
    try simp only [Act.put, List.setIfInBounds_toArray, List.set_cons_zero, List.set_cons_succ, Array.toArray_toList]
    refine wpAnyH_take (i := 1) (oi := ⟨some 14, _, _, _, _, _⟩) rfl (by kernel_rfl) (by decide +kernel) (by decide +kernel) (fun _ _ _ h => h) (yieldsIf_load_mid (by rfl) _ _ rfl (w.heap.size + 1) (0) rfl (yvs k).toList _ (fun w' h => h.2) Try.underlying22 rfl IK.out) (by assumption) ?_
    try simp only [Act.put, List.setIfInBounds_toArray, List.set_cons_zero, List.set_cons_succ, Array.toArray_toList]
    refine wpAnyH_take (i := 3) (oi := ⟨some 16, _, _, _, _, _⟩) rfl (by kernel_rfl) (by decide +kernel) (by decide +kernel) (fun _ _ _ h => h) (yieldsIf_load_mid (by rfl) _ _ rfl (w.heap.size) (0) rfl (yvs S).toList _ (fun w' h => h.1) Try.underlying37 rfl IS.out) (by assumption) ?_
    try simp only [Act.put, List.setIfInBounds_toArray, List.set_cons_zero, List.set_cons_succ, Array.toArray_toList]
    clear hHeld
    have HB0 := Lib.hid (Below.refl W3.heap.size W3).drew
    refine wpAnyH_ready (rs := [2, 5, 6]) (by decide +kernel) (by simp) ?_
    refine AllReadyH.cons rfl (fun K hK => ?_) (AllReadyH.cons rfl (fun K hK => ?_) (AllReadyH.cons rfl (fun K hK => ?_) AllReadyH.nil))
    · go_simp
      go_at_call 26
      refine (HRD.out _).mono ?_
      rintro e wt1 ⟨rfl, hb⟩
      have HB1 := Lib.hid (HB0.out.trans (hb.mono HB0.out.size))
      clear hb
      go_wp2_with fail
      refine hK.out _ _ (HS.out _ HB1.out) (fun hHeld => ?_)
      clear hK K hHeld
      try simp only [Act.put, List.setIfInBounds_toArray, List.set_cons_zero, List.set_cons_succ]
      refine wpAnyH_ready (rs := [4, 5, 6]) (by decide +kernel) (by simp) ?_
      refine AllReadyH.cons rfl (fun K hK => ?_) (AllReadyH.cons rfl (fun K hK => ?_) (AllReadyH.cons rfl (fun K hK => ?_) AllReadyH.nil))
      · go_simp
        go_at_call 45
        refine (HBK.out _).mono ?_
        rintro e wt2 ⟨rfl, hb⟩
        have HB2 := Lib.hid (HB1.out.trans (hb.mono HB1.out.size))
        clear hb
        go_wp2_with fail
        refine hK.out _ _ (HS.out _ HB2.out) (fun hHeld => ?_)
        clear hK K hHeld
        try simp only [Act.put, List.setIfInBounds_toArray, List.set_cons_zero, List.set_cons_succ]
        refine wpAnyH_ready (rs := [5, 6]) (by decide +kernel) (by simp) ?_
        refine AllReadyH.cons rfl (fun K hK => ?_) (AllReadyH.cons rfl (fun K hK => ?_) AllReadyH.nil)
        · go_simp
          have hal := HB2.out.alloc HB2.out.size (.cells (yvs Z) 71)
          have hxl := heap_alloc_new (wt2) (.cells (yvs Z) 71)
          have hst := (Below.refl (wt2).heap.size (wt2)).alloc (Nat.le_refl _) (.cells (yvs Z) 71)
          refine hK.out _ _ (HS.out _ hal) (fun hHeld => ?_)
          clear hK K hHeld
          try simp only [Act.put, List.setIfInBounds_toArray, List.set_cons_zero, List.set_cons_succ]
          refine (show ∀ wb3 : World, wb3 = (wt2).alloc (.cells (yvs Z) 71) → _ from ?_) _ rfl
          intro wb3 ew
          rw [← ew] at hal hxl hst
          have HB3 := Lib.hid hal
          have HX3 := Lib.hid (show ArrY wb3 (wt2).heap.size 71 Z from hxl)
          have HNX3 := Lib.hid HB2.out.size
          clear ew hal hxl hst
          refine wpAnyH_ready (rs := [6]) (by decide +kernel) (by simp) ?_
          refine AllReadyH.cons rfl (fun K hK => ?_) AllReadyH.nil
          go_simp
          have hal := HB3.out.alloc HB3.out.size (.cells (yvs Z2) 37)
          have hxl := heap_alloc_new (wb3) (.cells (yvs Z2) 37)
          have hst := (Below.refl (wb3).heap.size (wb3)).alloc (Nat.le_refl _) (.cells (yvs Z2) 37)
          refine hK.out _ _ (HS.out _ hal) (fun hHeld => ?_)
          clear hK K hHeld
          try simp only [Act.put, List.setIfInBounds_toArray, List.set_cons_zero, List.set_cons_succ]
          refine (show ∀ wb4 : World, wb4 = (wb3).alloc (.cells (yvs Z2) 37) → _ from ?_) _ rfl
          intro wb4 ew
          rw [← ew] at hal hxl hst
          have HX4 := Lib.hid (HX3.out.below hst (ylt HX3.out))
          have NEXY4 := Lib.hid (show (wt2).heap.size ≠ (wb3).heap.size from Nat.ne_of_lt (ylt HX3.out))
          have HB4 := Lib.hid hal
          have HY4 := Lib.hid (show ArrY wb4 (wb3).heap.size 37 Z2 from hxl)
          have HNY4 := Lib.hid HB3.out.size
          clear ew hal hxl hst
          refine wpAnyH_ready (rs := [7]) (by decide +kernel) (by simp) ?_
          refine AllReadyH.cons rfl (fun K hK => ?_) AllReadyH.nil
          rw [if_pos (by kernel_rfl)]
          refine wp_store_row (o := ⟨none, .store _ (.tmp 7) _, _, _, _, _⟩) 71 _ _ rfl ((wt2).heap.size) (yvs T) rfl rfl 71 (yvs Z) (show (wb4).heap[(wt2).heap.size]? = _ from HX4.out) IT.out ET.out (yvs_one _) ?_
          refine hK.out _ _ (HS.out _ (ybelow_row HB4.out HNX3.out (yvs T))) (fun hHeld => ?_)
          clear hK K hHeld
          simp only [Act.put]
          refine wpAnyH_ready (rs := [8]) (by decide +kernel) (by simp) ?_
          refine AllReadyH.cons rfl (fun K hK => ?_) AllReadyH.nil
          rw [if_pos (by kernel_rfl)]
          refine wp_store_row (o := ⟨none, .store _ (.tmp 8) _, _, _, _, _⟩) 37 _ _ rfl ((wb3).heap.size) (yvs U) rfl rfl 37 (yvs Z2) (show (((wb4).setRow ((wt2).heap.size) (yvs T))).heap[(wb3).heap.size]? = _ from ((setRow_other _ _ _ _ (Ne.symm NEXY4.out)).trans HY4.out)) IU.out EU.out (yvs_one _) ?_
          refine hK.out _ _ (HS.out _ (ybelow_row (ybelow_row HB4.out HNX3.out (yvs T)) HNY4.out (yvs U))) (fun hHeld => ?_)
          clear hK K hHeld
          simp only [Act.put]
          refine wpAnyH_done (by decide +kernel) ?_ _
          refine NoPanic.normal ?_
          go_wp2_with fail
          go_meet
          exact ⟨(wt2).heap.size, (wb3).heap.size, rfl, rfl, ((setRow_other _ _ _ _ NEXY4.out).trans (setRow_heap _ _ _ (yvs T) _ _ HX4.out)), (setRow_heap _ _ _ (yvs U) _ _ ((setRow_other _ _ _ _ (Ne.symm NEXY4.out)).trans HY4.out)), (ybelow_row (ybelow_row HB4.out HNX3.out (yvs T)) HNY4.out (yvs U)), HNX3.out, HNY4.out⟩
        · go_simp
          have hal := HB2.out.alloc HB2.out.size (.cells (yvs Z2) 37)
          have hxl := heap_alloc_new (wt2) (.cells (yvs Z2) 37)
          have hst := (Below.refl (wt2).heap.size (wt2)).alloc (Nat.le_refl _) (.cells (yvs Z2) 37)
          refine hK.out _ _ (HS.out _ hal) (fun hHeld => ?_)
          clear hK K hHeld
          try simp only [Act.put, List.setIfInBounds_toArray, List.set_cons_zero, List.set_cons_succ]
          refine (show ∀ wb7 : World, wb7 = (wt2).alloc (.cells (yvs Z2) 37) → _ from ?_) _ rfl
          intro wb7 ew
          rw [← ew] at hal hxl hst
          have HB7 := Lib.hid hal
          have HY7 := Lib.hid (show ArrY wb7 (wt2).heap.size 37 Z2 from hxl)
          have HNY7 := Lib.hid HB2.out.size
          clear ew hal hxl hst
          refine wpAnyH_ready (rs := [5]) (by decide +kernel) (by simp) ?_
          refine AllReadyH.cons rfl (fun K hK => ?_) AllReadyH.nil
          go_simp
          have hal := HB7.out.alloc HB7.out.size (.cells (yvs Z) 71)
          have hxl := heap_alloc_new (wb7) (.cells (yvs Z) 71)
          have hst := (Below.refl (wb7).heap.size (wb7)).alloc (Nat.le_refl _) (.cells (yvs Z) 71)
          refine hK.out _ _ (HS.out _ hal) (fun hHeld => ?_)
          clear hK K hHeld
          try simp only [Act.put, List.setIfInBounds_toArray, List.set_cons_zero, List.set_cons_succ]
          refine (show ∀ wb8 : World, wb8 = (wb7).alloc (.cells (yvs Z) 71) → _ from ?_) _ rfl
          intro wb8 ew
          rw [← ew] at hal hxl hst
          have HY8 := Lib.hid (HY7.out.below hst (ylt HY7.out))
          have NEYX8 := Lib.hid (show (wt2).heap.size ≠ (wb7).heap.size from Nat.ne_of_lt (ylt HY7.out))
          have HB8 := Lib.hid hal
          have HX8 := Lib.hid (show ArrY wb8 (wb7).heap.size 71 Z from hxl)
          have HNX8 := Lib.hid HB7.out.size
          clear ew hal hxl hst
          refine wpAnyH_ready (rs := [7]) (by decide +kernel) (by simp) ?_
          refine AllReadyH.cons rfl (fun K hK => ?_) AllReadyH.nil
          rw [if_pos (by kernel_rfl)]
          refine wp_store_row (o := ⟨none, .store _ (.tmp 7) _, _, _, _, _⟩) 71 _ _ rfl ((wb7).heap.size) (yvs T) rfl rfl 71 (yvs Z) (show (wb8).heap[(wb7).heap.size]? = _ from HX8.out) IT.out ET.out (yvs_one _) ?_
          refine hK.out _ _ (HS.out _ (ybelow_row HB8.out HNX8.out (yvs T))) (fun hHeld => ?_)
          clear hK K hHeld
          simp only [Act.put]
          refine wpAnyH_ready (rs := [8]) (by decide +kernel) (by simp) ?_
          refine AllReadyH.cons rfl (fun K hK => ?_) AllReadyH.nil
          rw [if_pos (by kernel_rfl)]
          refine wp_store_row (o := ⟨none, .store _ (.tmp 8) _, _, _, _, _⟩) 37 _ _ rfl ((wt2).heap.size) (yvs U) rfl rfl 37 (yvs Z2) (show (((wb8).setRow ((wb7).heap.size) (yvs T))).heap[(wt2).heap.size]? = _ from ((setRow_other _ _ _ _ NEYX8.out).trans HY8.out)) IU.out EU.out (yvs_one _) ?_
          refine hK.out _ _ (HS.out _ (ybelow_row (ybelow_row HB8.out HNX8.out (yvs T)) HNY7.out (yvs U))) (fun hHeld => ?_)
          clear hK K hHeld
          simp only [Act.put]
          refine wpAnyH_done (by decide +kernel) ?_ _
          refine NoPanic.normal ?_
          go_wp2_with fail
          go_meet
          exact ⟨(wb7).heap.size, (wt2).heap.size, rfl, rfl, ((setRow_other _ _ _ _ (Ne.symm NEYX8.out)).trans (setRow_heap _ _ _ (yvs T) _ _ HX8.out)), (setRow_heap _ _ _ (yvs U) _ _ ((setRow_other _ _ _ _ NEYX8.out).trans HY8.out)), (ybelow_row (ybelow_row HB8.out HNX8.out (yvs T)) HNY7.out (yvs U)), HNX8.out, HNY7.out⟩
      · go_simp
        have hal := HB1.out.alloc HB1.out.size (.cells (yvs Z) 71)
        have hxl := heap_alloc_new (wt1) (.cells (yvs Z) 71)
        have hst := (Below.refl (wt1).heap.size (wt1)).alloc (Nat.le_refl _) (.cells (yvs Z) 71)
        refine hK.out _ _ (HS.out _ hal) (fun hHeld => ?_)
        clear hK K hHeld
        try simp only [Act.put, List.setIfInBounds_toArray, List.set_cons_zero, List.set_cons_succ]
        refine (show ∀ wb11 : World, wb11 = (wt1).alloc (.cells (yvs Z) 71) → _ from ?_) _ rfl
        intro wb11 ew
        rw [← ew] at hal hxl hst
        have HB11 := Lib.hid hal
        have HX11 := Lib.hid (show ArrY wb11 (wt1).heap.size 71 Z from hxl)
        have HNX11 := Lib.hid HB1.out.size
        clear ew hal hxl hst
        refine wpAnyH_ready (rs := [4, 6]) (by decide +kernel) (by simp) ?_
        refine AllReadyH.cons rfl (fun K hK => ?_) (AllReadyH.cons rfl (fun K hK => ?_) AllReadyH.nil)
        · go_simp
          go_at_call 45
          refine (HBK.out _).mono ?_
          rintro e wt12 ⟨rfl, hb⟩
          have HB12 := Lib.hid (HB11.out.trans (hb.mono HB11.out.size))
          have HX12 := Lib.hid (HX11.out.below hb (ylt HX11.out))
          clear hb
          go_wp2_with fail
          refine hK.out _ _ (HS.out _ HB12.out) (fun hHeld => ?_)
          clear hK K hHeld
          try simp only [Act.put, List.setIfInBounds_toArray, List.set_cons_zero, List.set_cons_succ]
          refine wpAnyH_ready (rs := [6]) (by decide +kernel) (by simp) ?_
          refine AllReadyH.cons rfl (fun K hK => ?_) AllReadyH.nil
          go_simp
          have hal := HB12.out.alloc HB12.out.size (.cells (yvs Z2) 37)
          have hxl := heap_alloc_new (wt12) (.cells (yvs Z2) 37)
          have hst := (Below.refl (wt12).heap.size (wt12)).alloc (Nat.le_refl _) (.cells (yvs Z2) 37)
          refine hK.out _ _ (HS.out _ hal) (fun hHeld => ?_)
          clear hK K hHeld
          try simp only [Act.put, List.setIfInBounds_toArray, List.set_cons_zero, List.set_cons_succ]
          refine (show ∀ wb13 : World, wb13 = (wt12).alloc (.cells (yvs Z2) 37) → _ from ?_) _ rfl
          intro wb13 ew
          rw [← ew] at hal hxl hst
          have HX13 := Lib.hid (HX12.out.below hst (ylt HX12.out))
          have NEXY13 := Lib.hid (show (wt1).heap.size ≠ (wt12).heap.size from Nat.ne_of_lt (ylt HX12.out))
          have HB13 := Lib.hid hal
          have HY13 := Lib.hid (show ArrY wb13 (wt12).heap.size 37 Z2 from hxl)
          have HNY13 := Lib.hid HB12.out.size
          clear ew hal hxl hst
          refine wpAnyH_ready (rs := [7]) (by decide +kernel) (by simp) ?_
          refine AllReadyH.cons rfl (fun K hK => ?_) AllReadyH.nil
          rw [if_pos (by kernel_rfl)]
          refine wp_store_row (o := ⟨none, .store _ (.tmp 7) _, _, _, _, _⟩) 71 _ _ rfl ((wt1).heap.size) (yvs T) rfl rfl 71 (yvs Z) (show (wb13).heap[(wt1).heap.size]? = _ from HX13.out) IT.out ET.out (yvs_one _) ?_
          refine hK.out _ _ (HS.out _ (ybelow_row HB13.out HNX11.out (yvs T))) (fun hHeld => ?_)
          clear hK K hHeld
          simp only [Act.put]
          refine wpAnyH_ready (rs := [8]) (by decide +kernel) (by simp) ?_
          refine AllReadyH.cons rfl (fun K hK => ?_) AllReadyH.nil
          rw [if_pos (by kernel_rfl)]
          refine wp_store_row (o := ⟨none, .store _ (.tmp 8) _, _, _, _, _⟩) 37 _ _ rfl ((wt12).heap.size) (yvs U) rfl rfl 37 (yvs Z2) (show (((wb13).setRow ((wt1).heap.size) (yvs T))).heap[(wt12).heap.size]? = _ from ((setRow_other _ _ _ _ (Ne.symm NEXY13.out)).trans HY13.out)) IU.out EU.out (yvs_one _) ?_
          refine hK.out _ _ (HS.out _ (ybelow_row (ybelow_row HB13.out HNX11.out (yvs T)) HNY13.out (yvs U))) (fun hHeld => ?_)
          clear hK K hHeld
          simp only [Act.put]
          refine wpAnyH_done (by decide +kernel) ?_ _
          refine NoPanic.normal ?_
          go_wp2_with fail
          go_meet
          exact ⟨(wt1).heap.size, (wt12).heap.size, rfl, rfl, ((setRow_other _ _ _ _ NEXY13.out).trans (setRow_heap _ _ _ (yvs T) _ _ HX13.out)), (setRow_heap _ _ _ (yvs U) _ _ ((setRow_other _ _ _ _ (Ne.symm NEXY13.out)).trans HY13.out)), (ybelow_row (ybelow_row HB13.out HNX11.out (yvs T)) HNY13.out (yvs U)), HNX11.out, HNY13.out⟩
        · go_simp
          have hal := HB11.out.alloc HB11.out.size (.cells (yvs Z2) 37)
          have hxl := heap_alloc_new (wb11) (.cells (yvs Z2) 37)
          have hst := (Below.refl (wb11).heap.size (wb11)).alloc (Nat.le_refl _) (.cells (yvs Z2) 37)
          refine hK.out _ _ (HS.out _ hal) (fun hHeld => ?_)
          clear hK K hHeld
          try simp only [Act.put, List.setIfInBounds_toArray, List.set_cons_zero, List.set_cons_succ]
          refine (show ∀ wb16 : World, wb16 = (wb11).alloc (.cells (yvs Z2) 37) → _ from ?_) _ rfl
          intro wb16 ew
          rw [← ew] at hal hxl hst
          have HX16 := Lib.hid (HX11.out.below hst (ylt HX11.out))
          have NEXY16 := Lib.hid (show (wt1).heap.size ≠ (wb11).heap.size from Nat.ne_of_lt (ylt HX11.out))
          have HB16 := Lib.hid hal
          have HY16 := Lib.hid (show ArrY wb16 (wb11).heap.size 37 Z2 from hxl)
          have HNY16 := Lib.hid HB11.out.size
          clear ew hal hxl hst
          refine wpAnyH_ready (rs := [4]) (by decide +kernel) (by simp) ?_
          refine AllReadyH.cons rfl (fun K hK => ?_) AllReadyH.nil
          go_simp
          go_at_call 45
          refine (HBK.out _).mono ?_
          rintro e wt17 ⟨rfl, hb⟩
          have HB17 := Lib.hid (HB16.out.trans (hb.mono HB16.out.size))
          have HX17 := Lib.hid (HX16.out.below hb (ylt HX16.out))
          have HY17 := Lib.hid (HY16.out.below hb (ylt HY16.out))
          clear hb
          go_wp2_with fail
          refine hK.out _ _ (HS.out _ HB17.out) (fun hHeld => ?_)
          clear hK K hHeld
          try simp only [Act.put, List.setIfInBounds_toArray, List.set_cons_zero, List.set_cons_succ]
          refine wpAnyH_ready (rs := [7]) (by decide +kernel) (by simp) ?_
          refine AllReadyH.cons rfl (fun K hK => ?_) AllReadyH.nil
          rw [if_pos (by kernel_rfl)]
          refine wp_store_row (o := ⟨none, .store _ (.tmp 7) _, _, _, _, _⟩) 71 _ _ rfl ((wt1).heap.size) (yvs T) rfl rfl 71 (yvs Z) (show (wt17).heap[(wt1).heap.size]? = _ from HX17.out) IT.out ET.out (yvs_one _) ?_
          refine hK.out _ _ (HS.out _ (ybelow_row HB17.out HNX11.out (yvs T))) (fun hHeld => ?_)
          clear hK K hHeld
          simp only [Act.put]
          refine wpAnyH_ready (rs := [8]) (by decide +kernel) (by simp) ?_
          refine AllReadyH.cons rfl (fun K hK => ?_) AllReadyH.nil
          rw [if_pos (by kernel_rfl)]
          refine wp_store_row (o := ⟨none, .store _ (.tmp 8) _, _, _, _, _⟩) 37 _ _ rfl ((wb11).heap.size) (yvs U) rfl rfl 37 (yvs Z2) (show (((wt17).setRow ((wt1).heap.size) (yvs T))).heap[(wb11).heap.size]? = _ from ((setRow_other _ _ _ _ (Ne.symm NEXY16.out)).trans HY17.out)) IU.out EU.out (yvs_one _) ?_
          refine hK.out _ _ (HS.out _ (ybelow_row (ybelow_row HB17.out HNX11.out (yvs T)) HNY16.out (yvs U))) (fun hHeld => ?_)
          clear hK K hHeld
          simp only [Act.put]
          refine wpAnyH_done (by decide +kernel) ?_ _
          refine NoPanic.normal ?_
          go_wp2_with fail
          go_meet
          exact ⟨(wt1).heap.size, (wb11).heap.size, rfl, rfl, ((setRow_other _ _ _ _ NEXY16.out).trans (setRow_heap _ _ _ (yvs T) _ _ HX17.out)), (setRow_heap _ _ _ (yvs U) _ _ ((setRow_other _ _ _ _ (Ne.symm NEXY16.out)).trans HY17.out)), (ybelow_row (ybelow_row HB17.out HNX11.out (yvs T)) HNY16.out (yvs U)), HNX11.out, HNY16.out⟩
      · go_simp
        have hal := HB1.out.alloc HB1.out.size (.cells (yvs Z2) 37)
        have hxl := heap_alloc_new (wt1) (.cells (yvs Z2) 37)
        have hst := (Below.refl (wt1).heap.size (wt1)).alloc (Nat.le_refl _) (.cells (yvs Z2) 37)
        refine hK.out _ _ (HS.out _ hal) (fun hHeld => ?_)
        clear hK K hHeld
        try simp only [Act.put, List.setIfInBounds_toArray, List.set_cons_zero, List.set_cons_succ]
        refine (show ∀ wb20 : World, wb20 = (wt1).alloc (.cells (yvs Z2) 37) → _ from ?_) _ rfl
        intro wb20 ew
        rw [← ew] at hal hxl hst
        have HB20 := Lib.hid hal
        have HY20 := Lib.hid (show ArrY wb20 (wt1).heap.size 37 Z2 from hxl)
        have HNY20 := Lib.hid HB1.out.size
        clear ew hal hxl hst
        refine wpAnyH_ready (rs := [4, 5]) (by decide +kernel) (by simp) ?_
        refine AllReadyH.cons rfl (fun K hK => ?_) (AllReadyH.cons rfl (fun K hK => ?_) AllReadyH.nil)
        · go_simp
          go_at_call 45
          refine (HBK.out _).mono ?_
          rintro e wt21 ⟨rfl, hb⟩
          have HB21 := Lib.hid (HB20.out.trans (hb.mono HB20.out.size))
          have HY21 := Lib.hid (HY20.out.below hb (ylt HY20.out))
          clear hb
          go_wp2_with fail
          refine hK.out _ _ (HS.out _ HB21.out) (fun hHeld => ?_)
          clear hK K hHeld
          try simp only [Act.put, List.setIfInBounds_toArray, List.set_cons_zero, List.set_cons_succ]
          refine wpAnyH_ready (rs := [5]) (by decide +kernel) (by simp) ?_
          refine AllReadyH.cons rfl (fun K hK => ?_) AllReadyH.nil
          go_simp
          have hal := HB21.out.alloc HB21.out.size (.cells (yvs Z) 71)
          have hxl := heap_alloc_new (wt21) (.cells (yvs Z) 71)
          have hst := (Below.refl (wt21).heap.size (wt21)).alloc (Nat.le_refl _) (.cells (yvs Z) 71)
          refine hK.out _ _ (HS.out _ hal) (fun hHeld => ?_)
          clear hK K hHeld
          try simp only [Act.put, List.setIfInBounds_toArray, List.set_cons_zero, List.set_cons_succ]
          refine (show ∀ wb22 : World, wb22 = (wt21).alloc (.cells (yvs Z) 71) → _ from ?_) _ rfl
          intro wb22 ew
          rw [← ew] at hal hxl hst
          have HY22 := Lib.hid (HY21.out.below hst (ylt HY21.out))
          have NEYX22 := Lib.hid (show (wt1).heap.size ≠ (wt21).heap.size from Nat.ne_of_lt (ylt HY21.out))
          have HB22 := Lib.hid hal
          have HX22 := Lib.hid (show ArrY wb22 (wt21).heap.size 71 Z from hxl)
          have HNX22 := Lib.hid HB21.out.size
          clear ew hal hxl hst
          refine wpAnyH_ready (rs := [7]) (by decide +kernel) (by simp) ?_
          refine AllReadyH.cons rfl (fun K hK => ?_) AllReadyH.nil
          rw [if_pos (by kernel_rfl)]
          refine wp_store_row (o := ⟨none, .store _ (.tmp 7) _, _, _, _, _⟩) 71 _ _ rfl ((wt21).heap.size) (yvs T) rfl rfl 71 (yvs Z) (show (wb22).heap[(wt21).heap.size]? = _ from HX22.out) IT.out ET.out (yvs_one _) ?_
          refine hK.out _ _ (HS.out _ (ybelow_row HB22.out HNX22.out (yvs T))) (fun hHeld => ?_)
          clear hK K hHeld
          simp only [Act.put]
          refine wpAnyH_ready (rs := [8]) (by decide +kernel) (by simp) ?_
          refine AllReadyH.cons rfl (fun K hK => ?_) AllReadyH.nil
          rw [if_pos (by kernel_rfl)]
          refine wp_store_row (o := ⟨none, .store _ (.tmp 8) _, _, _, _, _⟩) 37 _ _ rfl ((wt1).heap.size) (yvs U) rfl rfl 37 (yvs Z2) (show (((wb22).setRow ((wt21).heap.size) (yvs T))).heap[(wt1).heap.size]? = _ from ((setRow_other _ _ _ _ NEYX22.out).trans HY22.out)) IU.out EU.out (yvs_one _) ?_
          refine hK.out _ _ (HS.out _ (ybelow_row (ybelow_row HB22.out HNX22.out (yvs T)) HNY20.out (yvs U))) (fun hHeld => ?_)
          clear hK K hHeld
          simp only [Act.put]
          refine wpAnyH_done (by decide +kernel) ?_ _
          refine NoPanic.normal ?_
          go_wp2_with fail
          go_meet
          exact ⟨(wt21).heap.size, (wt1).heap.size, rfl, rfl, ((setRow_other _ _ _ _ (Ne.symm NEYX22.out)).trans (setRow_heap _ _ _ (yvs T) _ _ HX22.out)), (setRow_heap _ _ _ (yvs U) _ _ ((setRow_other _ _ _ _ NEYX22.out).trans HY22.out)), (ybelow_row (ybelow_row HB22.out HNX22.out (yvs T)) HNY20.out (yvs U)), HNX22.out, HNY20.out⟩
        · go_simp
          have hal := HB20.out.alloc HB20.out.size (.cells (yvs Z) 71)
          have hxl := heap_alloc_new (wb20) (.cells (yvs Z) 71)
          have hst := (Below.refl (wb20).heap.size (wb20)).alloc (Nat.le_refl _) (.cells (yvs Z) 71)
          refine hK.out _ _ (HS.out _ hal) (fun hHeld => ?_)
          clear hK K hHeld
          try simp only [Act.put, List.setIfInBounds_toArray, List.set_cons_zero, List.set_cons_succ]
          refine (show ∀ wb25 : World, wb25 = (wb20).alloc (.cells (yvs Z) 71) → _ from ?_) _ rfl
          intro wb25 ew
          rw [← ew] at hal hxl hst
          have HY25 := Lib.hid (HY20.out.below hst (ylt HY20.out))
          have NEYX25 := Lib.hid (show (wt1).heap.size ≠ (wb20).heap.size from Nat.ne_of_lt (ylt HY20.out))
          have HB25 := Lib.hid hal
          have HX25 := Lib.hid (show ArrY wb25 (wb20).heap.size 71 Z from hxl)
          have HNX25 := Lib.hid HB20.out.size
          clear ew hal hxl hst
          refine wpAnyH_ready (rs := [4]) (by decide +kernel) (by simp) ?_
          refine AllReadyH.cons rfl (fun K hK => ?_) AllReadyH.nil
          go_simp
          go_at_call 45
          refine (HBK.out _).mono ?_
          rintro e wt26 ⟨rfl, hb⟩
          have HB26 := Lib.hid (HB25.out.trans (hb.mono HB25.out.size))
          have HY26 := Lib.hid (HY25.out.below hb (ylt HY25.out))
          have HX26 := Lib.hid (HX25.out.below hb (ylt HX25.out))
          clear hb
          go_wp2_with fail
          refine hK.out _ _ (HS.out _ HB26.out) (fun hHeld => ?_)
          clear hK K hHeld
          try simp only [Act.put, List.setIfInBounds_toArray, List.set_cons_zero, List.set_cons_succ]
          refine wpAnyH_ready (rs := [7]) (by decide +kernel) (by simp) ?_
          refine AllReadyH.cons rfl (fun K hK => ?_) AllReadyH.nil
          rw [if_pos (by kernel_rfl)]
          refine wp_store_row (o := ⟨none, .store _ (.tmp 7) _, _, _, _, _⟩) 71 _ _ rfl ((wb20).heap.size) (yvs T) rfl rfl 71 (yvs Z) (show (wt26).heap[(wb20).heap.size]? = _ from HX26.out) IT.out ET.out (yvs_one _) ?_
          refine hK.out _ _ (HS.out _ (ybelow_row HB26.out HNX25.out (yvs T))) (fun hHeld => ?_)
          clear hK K hHeld
          simp only [Act.put]
          refine wpAnyH_ready (rs := [8]) (by decide +kernel) (by simp) ?_
          refine AllReadyH.cons rfl (fun K hK => ?_) AllReadyH.nil
          rw [if_pos (by kernel_rfl)]
          refine wp_store_row (o := ⟨none, .store _ (.tmp 8) _, _, _, _, _⟩) 37 _ _ rfl ((wt1).heap.size) (yvs U) rfl rfl 37 (yvs Z2) (show (((wt26).setRow ((wb20).heap.size) (yvs T))).heap[(wt1).heap.size]? = _ from ((setRow_other _ _ _ _ NEYX25.out).trans HY26.out)) IU.out EU.out (yvs_one _) ?_
          refine hK.out _ _ (HS.out _ (ybelow_row (ybelow_row HB26.out HNX25.out (yvs T)) HNY20.out (yvs U))) (fun hHeld => ?_)
          clear hK K hHeld
          simp only [Act.put]
          refine wpAnyH_done (by decide +kernel) ?_ _
          refine NoPanic.normal ?_
          go_wp2_with fail
          go_meet
          exact ⟨(wb20).heap.size, (wt1).heap.size, rfl, rfl, ((setRow_other _ _ _ _ (Ne.symm NEYX25.out)).trans (setRow_heap _ _ _ (yvs T) _ _ HX26.out)), (setRow_heap _ _ _ (yvs U) _ _ ((setRow_other _ _ _ _ NEYX25.out).trans HY26.out)), (ybelow_row (ybelow_row HB26.out HNX25.out (yvs T)) HNY20.out (yvs U)), HNX25.out, HNY20.out⟩
    · go_simp
      have hal := HB0.out.alloc HB0.out.size (.cells (yvs Z) 71)
      have hxl := heap_alloc_new (W3.drew) (.cells (yvs Z) 71)
      have hst := (Below.refl (W3.drew).heap.size (W3.drew)).alloc (Nat.le_refl _) (.cells (yvs Z) 71)
      refine hK.out _ _ (HS.out _ hal) (fun hHeld => ?_)
      clear hK K hHeld
      try simp only [Act.put, List.setIfInBounds_toArray, List.set_cons_zero, List.set_cons_succ]
      refine (show ∀ wb29 : World, wb29 = (W3.drew).alloc (.cells (yvs Z) 71) → _ from ?_) _ rfl
      intro wb29 ew
      rw [← ew] at hal hxl hst
      have HB29 := Lib.hid hal
      have HX29 := Lib.hid (show ArrY wb29 (W3.drew).heap.size 71 Z from hxl)
      have HNX29 := Lib.hid HB0.out.size
      clear ew hal hxl hst
      refine wpAnyH_ready (rs := [2, 6]) (by decide +kernel) (by simp) ?_
      refine AllReadyH.cons rfl (fun K hK => ?_) (AllReadyH.cons rfl (fun K hK => ?_) AllReadyH.nil)
      · go_simp
        go_at_call 26
        refine (HRD.out _).mono ?_
        rintro e wt30 ⟨rfl, hb⟩
        have HB30 := Lib.hid (HB29.out.trans (hb.mono HB29.out.size))
        have HX30 := Lib.hid (HX29.out.below hb (ylt HX29.out))
        clear hb
        go_wp2_with fail
        refine hK.out _ _ (HS.out _ HB30.out) (fun hHeld => ?_)
        clear hK K hHeld
        try simp only [Act.put, List.setIfInBounds_toArray, List.set_cons_zero, List.set_cons_succ]
        refine wpAnyH_ready (rs := [4, 6]) (by decide +kernel) (by simp) ?_
        refine AllReadyH.cons rfl (fun K hK => ?_) (AllReadyH.cons rfl (fun K hK => ?_) AllReadyH.nil)
        · go_simp
          go_at_call 45
          refine (HBK.out _).mono ?_
          rintro e wt31 ⟨rfl, hb⟩
          have HB31 := Lib.hid (HB30.out.trans (hb.mono HB30.out.size))
          have HX31 := Lib.hid (HX30.out.below hb (ylt HX30.out))
          clear hb
          go_wp2_with fail
          refine hK.out _ _ (HS.out _ HB31.out) (fun hHeld => ?_)
          clear hK K hHeld
          try simp only [Act.put, List.setIfInBounds_toArray, List.set_cons_zero, List.set_cons_succ]
          refine wpAnyH_ready (rs := [6]) (by decide +kernel) (by simp) ?_
          refine AllReadyH.cons rfl (fun K hK => ?_) AllReadyH.nil
          go_simp
          have hal := HB31.out.alloc HB31.out.size (.cells (yvs Z2) 37)
          have hxl := heap_alloc_new (wt31) (.cells (yvs Z2) 37)
          have hst := (Below.refl (wt31).heap.size (wt31)).alloc (Nat.le_refl _) (.cells (yvs Z2) 37)
          refine hK.out _ _ (HS.out _ hal) (fun hHeld => ?_)
          clear hK K hHeld
          try simp only [Act.put, List.setIfInBounds_toArray, List.set_cons_zero, List.set_cons_succ]
          refine (show ∀ wb32 : World, wb32 = (wt31).alloc (.cells (yvs Z2) 37) → _ from ?_) _ rfl
          intro wb32 ew
          rw [← ew] at hal hxl hst
          have HX32 := Lib.hid (HX31.out.below hst (ylt HX31.out))
          have NEXY32 := Lib.hid (show (W3.drew).heap.size ≠ (wt31).heap.size from Nat.ne_of_lt (ylt HX31.out))
          have HB32 := Lib.hid hal
          have HY32 := Lib.hid (show ArrY wb32 (wt31).heap.size 37 Z2 from hxl)
          have HNY32 := Lib.hid HB31.out.size
          clear ew hal hxl hst
          refine wpAnyH_ready (rs := [7]) (by decide +kernel) (by simp) ?_
          refine AllReadyH.cons rfl (fun K hK => ?_) AllReadyH.nil
          rw [if_pos (by kernel_rfl)]
          refine wp_store_row (o := ⟨none, .store _ (.tmp 7) _, _, _, _, _⟩) 71 _ _ rfl ((W3.drew).heap.size) (yvs T) rfl rfl 71 (yvs Z) (show (wb32).heap[(W3.drew).heap.size]? = _ from HX32.out) IT.out ET.out (yvs_one _) ?_
          refine hK.out _ _ (HS.out _ (ybelow_row HB32.out HNX29.out (yvs T))) (fun hHeld => ?_)
          clear hK K hHeld
          simp only [Act.put]
          refine wpAnyH_ready (rs := [8]) (by decide +kernel) (by simp) ?_
          refine AllReadyH.cons rfl (fun K hK => ?_) AllReadyH.nil
          rw [if_pos (by kernel_rfl)]
          refine wp_store_row (o := ⟨none, .store _ (.tmp 8) _, _, _, _, _⟩) 37 _ _ rfl ((wt31).heap.size) (yvs U) rfl rfl 37 (yvs Z2) (show (((wb32).setRow ((W3.drew).heap.size) (yvs T))).heap[(wt31).heap.size]? = _ from ((setRow_other _ _ _ _ (Ne.symm NEXY32.out)).trans HY32.out)) IU.out EU.out (yvs_one _) ?_
          refine hK.out _ _ (HS.out _ (ybelow_row (ybelow_row HB32.out HNX29.out (yvs T)) HNY32.out (yvs U))) (fun hHeld => ?_)
          clear hK K hHeld
          simp only [Act.put]
          refine wpAnyH_done (by decide +kernel) ?_ _
          refine NoPanic.normal ?_
          go_wp2_with fail
          go_meet
          exact ⟨(W3.drew).heap.size, (wt31).heap.size, rfl, rfl, ((setRow_other _ _ _ _ NEXY32.out).trans (setRow_heap _ _ _ (yvs T) _ _ HX32.out)), (setRow_heap _ _ _ (yvs U) _ _ ((setRow_other _ _ _ _ (Ne.symm NEXY32.out)).trans HY32.out)), (ybelow_row (ybelow_row HB32.out HNX29.out (yvs T)) HNY32.out (yvs U)), HNX29.out, HNY32.out⟩
        · go_simp
          have hal := HB30.out.alloc HB30.out.size (.cells (yvs Z2) 37)
          have hxl := heap_alloc_new (wt30) (.cells (yvs Z2) 37)
          have hst := (Below.refl (wt30).heap.size (wt30)).alloc (Nat.le_refl _) (.cells (yvs Z2) 37)
          refine hK.out _ _ (HS.out _ hal) (fun hHeld => ?_)
          clear hK K hHeld
          try simp only [Act.put, List.setIfInBounds_toArray, List.set_cons_zero, List.set_cons_succ]
          refine (show ∀ wb35 : World, wb35 = (wt30).alloc (.cells (yvs Z2) 37) → _ from ?_) _ rfl
          intro wb35 ew
          rw [← ew] at hal hxl hst
          have HX35 := Lib.hid (HX30.out.below hst (ylt HX30.out))
          have NEXY35 := Lib.hid (show (W3.drew).heap.size ≠ (wt30).heap.size from Nat.ne_of_lt (ylt HX30.out))
          have HB35 := Lib.hid hal
          have HY35 := Lib.hid (show ArrY wb35 (wt30).heap.size 37 Z2 from hxl)
          have HNY35 := Lib.hid HB30.out.size
          clear ew hal hxl hst
          refine wpAnyH_ready (rs := [4]) (by decide +kernel) (by simp) ?_
          refine AllReadyH.cons rfl (fun K hK => ?_) AllReadyH.nil
          go_simp
          go_at_call 45
          refine (HBK.out _).mono ?_
          rintro e wt36 ⟨rfl, hb⟩
          have HB36 := Lib.hid (HB35.out.trans (hb.mono HB35.out.size))
          have HX36 := Lib.hid (HX35.out.below hb (ylt HX35.out))
          have HY36 := Lib.hid (HY35.out.below hb (ylt HY35.out))
          clear hb
          go_wp2_with fail
          refine hK.out _ _ (HS.out _ HB36.out) (fun hHeld => ?_)
          clear hK K hHeld
          try simp only [Act.put, List.setIfInBounds_toArray, List.set_cons_zero, List.set_cons_succ]
          refine wpAnyH_ready (rs := [7]) (by decide +kernel) (by simp) ?_
          refine AllReadyH.cons rfl (fun K hK => ?_) AllReadyH.nil
          rw [if_pos (by kernel_rfl)]
          refine wp_store_row (o := ⟨none, .store _ (.tmp 7) _, _, _, _, _⟩) 71 _ _ rfl ((W3.drew).heap.size) (yvs T) rfl rfl 71 (yvs Z) (show (wt36).heap[(W3.drew).heap.size]? = _ from HX36.out) IT.out ET.out (yvs_one _) ?_
          refine hK.out _ _ (HS.out _ (ybelow_row HB36.out HNX29.out (yvs T))) (fun hHeld => ?_)
          clear hK K hHeld
          simp only [Act.put]
          refine wpAnyH_ready (rs := [8]) (by decide +kernel) (by simp) ?_
          refine AllReadyH.cons rfl (fun K hK => ?_) AllReadyH.nil
          rw [if_pos (by kernel_rfl)]
          refine wp_store_row (o := ⟨none, .store _ (.tmp 8) _, _, _, _, _⟩) 37 _ _ rfl ((wt30).heap.size) (yvs U) rfl rfl 37 (yvs Z2) (show (((wt36).setRow ((W3.drew).heap.size) (yvs T))).heap[(wt30).heap.size]? = _ from ((setRow_other _ _ _ _ (Ne.symm NEXY35.out)).trans HY36.out)) IU.out EU.out (yvs_one _) ?_
          refine hK.out _ _ (HS.out _ (ybelow_row (ybelow_row HB36.out HNX29.out (yvs T)) HNY35.out (yvs U))) (fun hHeld => ?_)
          clear hK K hHeld
          simp only [Act.put]
          refine wpAnyH_done (by decide +kernel) ?_ _
          refine NoPanic.normal ?_
          go_wp2_with fail
          go_meet
          exact ⟨(W3.drew).heap.size, (wt30).heap.size, rfl, rfl, ((setRow_other _ _ _ _ NEXY35.out).trans (setRow_heap _ _ _ (yvs T) _ _ HX36.out)), (setRow_heap _ _ _ (yvs U) _ _ ((setRow_other _ _ _ _ (Ne.symm NEXY35.out)).trans HY36.out)), (ybelow_row (ybelow_row HB36.out HNX29.out (yvs T)) HNY35.out (yvs U)), HNX29.out, HNY35.out⟩
      · go_simp
        have hal := HB29.out.alloc HB29.out.size (.cells (yvs Z2) 37)
        have hxl := heap_alloc_new (wb29) (.cells (yvs Z2) 37)
        have hst := (Below.refl (wb29).heap.size (wb29)).alloc (Nat.le_refl _) (.cells (yvs Z2) 37)
        refine hK.out _ _ (HS.out _ hal) (fun hHeld => ?_)
        clear hK K hHeld
        try simp only [Act.put, List.setIfInBounds_toArray, List.set_cons_zero, List.set_cons_succ]
        refine (show ∀ wb39 : World, wb39 = (wb29).alloc (.cells (yvs Z2) 37) → _ from ?_) _ rfl
        intro wb39 ew
        rw [← ew] at hal hxl hst
        have HX39 := Lib.hid (HX29.out.below hst (ylt HX29.out))
        have NEXY39 := Lib.hid (show (W3.drew).heap.size ≠ (wb29).heap.size from Nat.ne_of_lt (ylt HX29.out))
        have HB39 := Lib.hid hal
        have HY39 := Lib.hid (show ArrY wb39 (wb29).heap.size 37 Z2 from hxl)
        have HNY39 := Lib.hid HB29.out.size
        clear ew hal hxl hst
        refine wpAnyH_ready (rs := [2]) (by decide +kernel) (by simp) ?_
        refine AllReadyH.cons rfl (fun K hK => ?_) AllReadyH.nil
        go_simp
        go_at_call 26
        refine (HRD.out _).mono ?_
        rintro e wt40 ⟨rfl, hb⟩
        have HB40 := Lib.hid (HB39.out.trans (hb.mono HB39.out.size))
        have HX40 := Lib.hid (HX39.out.below hb (ylt HX39.out))
        have HY40 := Lib.hid (HY39.out.below hb (ylt HY39.out))
        clear hb
        go_wp2_with fail
        refine hK.out _ _ (HS.out _ HB40.out) (fun hHeld => ?_)
        clear hK K hHeld
        try simp only [Act.put, List.setIfInBounds_toArray, List.set_cons_zero, List.set_cons_succ]
        refine wpAnyH_ready (rs := [4]) (by decide +kernel) (by simp) ?_
        refine AllReadyH.cons rfl (fun K hK => ?_) AllReadyH.nil
        go_simp
        go_at_call 45
        refine (HBK.out _).mono ?_
        rintro e wt41 ⟨rfl, hb⟩
        have HB41 := Lib.hid (HB40.out.trans (hb.mono HB40.out.size))
        have HX41 := Lib.hid (HX40.out.below hb (ylt HX40.out))
        have HY41 := Lib.hid (HY40.out.below hb (ylt HY40.out))
        clear hb
        go_wp2_with fail
        refine hK.out _ _ (HS.out _ HB41.out) (fun hHeld => ?_)
        clear hK K hHeld
        try simp only [Act.put, List.setIfInBounds_toArray, List.set_cons_zero, List.set_cons_succ]
        refine wpAnyH_ready (rs := [7]) (by decide +kernel) (by simp) ?_
        refine AllReadyH.cons rfl (fun K hK => ?_) AllReadyH.nil
        rw [if_pos (by kernel_rfl)]
        refine wp_store_row (o := ⟨none, .store _ (.tmp 7) _, _, _, _, _⟩) 71 _ _ rfl ((W3.drew).heap.size) (yvs T) rfl rfl 71 (yvs Z) (show (wt41).heap[(W3.drew).heap.size]? = _ from HX41.out) IT.out ET.out (yvs_one _) ?_
        refine hK.out _ _ (HS.out _ (ybelow_row HB41.out HNX29.out (yvs T))) (fun hHeld => ?_)
        clear hK K hHeld
        simp only [Act.put]
        refine wpAnyH_ready (rs := [8]) (by decide +kernel) (by simp) ?_
        refine AllReadyH.cons rfl (fun K hK => ?_) AllReadyH.nil
        rw [if_pos (by kernel_rfl)]
        refine wp_store_row (o := ⟨none, .store _ (.tmp 8) _, _, _, _, _⟩) 37 _ _ rfl ((wb29).heap.size) (yvs U) rfl rfl 37 (yvs Z2) (show (((wt41).setRow ((W3.drew).heap.size) (yvs T))).heap[(wb29).heap.size]? = _ from ((setRow_other _ _ _ _ (Ne.symm NEXY39.out)).trans HY41.out)) IU.out EU.out (yvs_one _) ?_
        refine hK.out _ _ (HS.out _ (ybelow_row (ybelow_row HB41.out HNX29.out (yvs T)) HNY39.out (yvs U))) (fun hHeld => ?_)
        clear hK K hHeld
        simp only [Act.put]
        refine wpAnyH_done (by decide +kernel) ?_ _
        refine NoPanic.normal ?_
        go_wp2_with fail
        go_meet
        exact ⟨(W3.drew).heap.size, (wb29).heap.size, rfl, rfl, ((setRow_other _ _ _ _ NEXY39.out).trans (setRow_heap _ _ _ (yvs T) _ _ HX41.out)), (setRow_heap _ _ _ (yvs U) _ _ ((setRow_other _ _ _ _ (Ne.symm NEXY39.out)).trans HY41.out)), (ybelow_row (ybelow_row HB41.out HNX29.out (yvs T)) HNY39.out (yvs U)), HNX29.out, HNY39.out⟩
    · go_simp
      have hal := HB0.out.alloc HB0.out.size (.cells (yvs Z2) 37)
      have hxl := heap_alloc_new (W3.drew) (.cells (yvs Z2) 37)
      have hst := (Below.refl (W3.drew).heap.size (W3.drew)).alloc (Nat.le_refl _) (.cells (yvs Z2) 37)
      refine hK.out _ _ (HS.out _ hal) (fun hHeld => ?_)
      clear hK K hHeld
      try simp only [Act.put, List.setIfInBounds_toArray, List.set_cons_zero, List.set_cons_succ]
      refine (show ∀ wb44 : World, wb44 = (W3.drew).alloc (.cells (yvs Z2) 37) → _ from ?_) _ rfl
      intro wb44 ew
      rw [← ew] at hal hxl hst
      have HB44 := Lib.hid hal
      have HY44 := Lib.hid (show ArrY wb44 (W3.drew).heap.size 37 Z2 from hxl)
      have HNY44 := Lib.hid HB0.out.size
      clear ew hal hxl hst
      refine wpAnyH_ready (rs := [2, 5]) (by decide +kernel) (by simp) ?_
      refine AllReadyH.cons rfl (fun K hK => ?_) (AllReadyH.cons rfl (fun K hK => ?_) AllReadyH.nil)
      · go_simp
        go_at_call 26
        refine (HRD.out _).mono ?_
        rintro e wt45 ⟨rfl, hb⟩
        have HB45 := Lib.hid (HB44.out.trans (hb.mono HB44.out.size))
        have HY45 := Lib.hid (HY44.out.below hb (ylt HY44.out))
        clear hb
        go_wp2_with fail
        refine hK.out _ _ (HS.out _ HB45.out) (fun hHeld => ?_)
        clear hK K hHeld
        try simp only [Act.put, List.setIfInBounds_toArray, List.set_cons_zero, List.set_cons_succ]
        refine wpAnyH_ready (rs := [4, 5]) (by decide +kernel) (by simp) ?_
        refine AllReadyH.cons rfl (fun K hK => ?_) (AllReadyH.cons rfl (fun K hK => ?_) AllReadyH.nil)
        · go_simp
          go_at_call 45
          refine (HBK.out _).mono ?_
          rintro e wt46 ⟨rfl, hb⟩
          have HB46 := Lib.hid (HB45.out.trans (hb.mono HB45.out.size))
          have HY46 := Lib.hid (HY45.out.below hb (ylt HY45.out))
          clear hb
          go_wp2_with fail
          refine hK.out _ _ (HS.out _ HB46.out) (fun hHeld => ?_)
          clear hK K hHeld
          try simp only [Act.put, List.setIfInBounds_toArray, List.set_cons_zero, List.set_cons_succ]
          refine wpAnyH_ready (rs := [5]) (by decide +kernel) (by simp) ?_
          refine AllReadyH.cons rfl (fun K hK => ?_) AllReadyH.nil
          go_simp
          have hal := HB46.out.alloc HB46.out.size (.cells (yvs Z) 71)
          have hxl := heap_alloc_new (wt46) (.cells (yvs Z) 71)
          have hst := (Below.refl (wt46).heap.size (wt46)).alloc (Nat.le_refl _) (.cells (yvs Z) 71)
          refine hK.out _ _ (HS.out _ hal) (fun hHeld => ?_)
          clear hK K hHeld
          try simp only [Act.put, List.setIfInBounds_toArray, List.set_cons_zero, List.set_cons_succ]
          refine (show ∀ wb47 : World, wb47 = (wt46).alloc (.cells (yvs Z) 71) → _ from ?_) _ rfl
          intro wb47 ew
          rw [← ew] at hal hxl hst
          have HY47 := Lib.hid (HY46.out.below hst (ylt HY46.out))
          have NEYX47 := Lib.hid (show (W3.drew).heap.size ≠ (wt46).heap.size from Nat.ne_of_lt (ylt HY46.out))
          have HB47 := Lib.hid hal
          have HX47 := Lib.hid (show ArrY wb47 (wt46).heap.size 71 Z from hxl)
          have HNX47 := Lib.hid HB46.out.size
          clear ew hal hxl hst
          refine wpAnyH_ready (rs := [7]) (by decide +kernel) (by simp) ?_
          refine AllReadyH.cons rfl (fun K hK => ?_) AllReadyH.nil
          rw [if_pos (by kernel_rfl)]
          refine wp_store_row (o := ⟨none, .store _ (.tmp 7) _, _, _, _, _⟩) 71 _ _ rfl ((wt46).heap.size) (yvs T) rfl rfl 71 (yvs Z) (show (wb47).heap[(wt46).heap.size]? = _ from HX47.out) IT.out ET.out (yvs_one _) ?_
          refine hK.out _ _ (HS.out _ (ybelow_row HB47.out HNX47.out (yvs T))) (fun hHeld => ?_)
          clear hK K hHeld
          simp only [Act.put]
          refine wpAnyH_ready (rs := [8]) (by decide +kernel) (by simp) ?_
          refine AllReadyH.cons rfl (fun K hK => ?_) AllReadyH.nil
          rw [if_pos (by kernel_rfl)]
          refine wp_store_row (o := ⟨none, .store _ (.tmp 8) _, _, _, _, _⟩) 37 _ _ rfl ((W3.drew).heap.size) (yvs U) rfl rfl 37 (yvs Z2) (show (((wb47).setRow ((wt46).heap.size) (yvs T))).heap[(W3.drew).heap.size]? = _ from ((setRow_other _ _ _ _ NEYX47.out).trans HY47.out)) IU.out EU.out (yvs_one _) ?_
          refine hK.out _ _ (HS.out _ (ybelow_row (ybelow_row HB47.out HNX47.out (yvs T)) HNY44.out (yvs U))) (fun hHeld => ?_)
          clear hK K hHeld
          simp only [Act.put]
          refine wpAnyH_done (by decide +kernel) ?_ _
          refine NoPanic.normal ?_
          go_wp2_with fail
          go_meet
          exact ⟨(wt46).heap.size, (W3.drew).heap.size, rfl, rfl, ((setRow_other _ _ _ _ (Ne.symm NEYX47.out)).trans (setRow_heap _ _ _ (yvs T) _ _ HX47.out)), (setRow_heap _ _ _ (yvs U) _ _ ((setRow_other _ _ _ _ NEYX47.out).trans HY47.out)), (ybelow_row (ybelow_row HB47.out HNX47.out (yvs T)) HNY44.out (yvs U)), HNX47.out, HNY44.out⟩
        · go_simp
          have hal := HB45.out.alloc HB45.out.size (.cells (yvs Z) 71)
          have hxl := heap_alloc_new (wt45) (.cells (yvs Z) 71)
          have hst := (Below.refl (wt45).heap.size (wt45)).alloc (Nat.le_refl _) (.cells (yvs Z) 71)
          refine hK.out _ _ (HS.out _ hal) (fun hHeld => ?_)
          clear hK K hHeld
          try simp only [Act.put, List.setIfInBounds_toArray, List.set_cons_zero, List.set_cons_succ]
          refine (show ∀ wb50 : World, wb50 = (wt45).alloc (.cells (yvs Z) 71) → _ from ?_) _ rfl
          intro wb50 ew
          rw [← ew] at hal hxl hst
          have HY50 := Lib.hid (HY45.out.below hst (ylt HY45.out))
          have NEYX50 := Lib.hid (show (W3.drew).heap.size ≠ (wt45).heap.size from Nat.ne_of_lt (ylt HY45.out))
          have HB50 := Lib.hid hal
          have HX50 := Lib.hid (show ArrY wb50 (wt45).heap.size 71 Z from hxl)
          have HNX50 := Lib.hid HB45.out.size
          clear ew hal hxl hst
          refine wpAnyH_ready (rs := [4]) (by decide +kernel) (by simp) ?_
          refine AllReadyH.cons rfl (fun K hK => ?_) AllReadyH.nil
          go_simp
          go_at_call 45
          refine (HBK.out _).mono ?_
          rintro e wt51 ⟨rfl, hb⟩
          have HB51 := Lib.hid (HB50.out.trans (hb.mono HB50.out.size))
          have HY51 := Lib.hid (HY50.out.below hb (ylt HY50.out))
          have HX51 := Lib.hid (HX50.out.below hb (ylt HX50.out))
          clear hb
          go_wp2_with fail
          refine hK.out _ _ (HS.out _ HB51.out) (fun hHeld => ?_)
          clear hK K hHeld
          try simp only [Act.put, List.setIfInBounds_toArray, List.set_cons_zero, List.set_cons_succ]
          refine wpAnyH_ready (rs := [7]) (by decide +kernel) (by simp) ?_
          refine AllReadyH.cons rfl (fun K hK => ?_) AllReadyH.nil
          rw [if_pos (by kernel_rfl)]
          refine wp_store_row (o := ⟨none, .store _ (.tmp 7) _, _, _, _, _⟩) 71 _ _ rfl ((wt45).heap.size) (yvs T) rfl rfl 71 (yvs Z) (show (wt51).heap[(wt45).heap.size]? = _ from HX51.out) IT.out ET.out (yvs_one _) ?_
          refine hK.out _ _ (HS.out _ (ybelow_row HB51.out HNX50.out (yvs T))) (fun hHeld => ?_)
          clear hK K hHeld
          simp only [Act.put]
          refine wpAnyH_ready (rs := [8]) (by decide +kernel) (by simp) ?_
          refine AllReadyH.cons rfl (fun K hK => ?_) AllReadyH.nil
          rw [if_pos (by kernel_rfl)]
          refine wp_store_row (o := ⟨none, .store _ (.tmp 8) _, _, _, _, _⟩) 37 _ _ rfl ((W3.drew).heap.size) (yvs U) rfl rfl 37 (yvs Z2) (show (((wt51).setRow ((wt45).heap.size) (yvs T))).heap[(W3.drew).heap.size]? = _ from ((setRow_other _ _ _ _ NEYX50.out).trans HY51.out)) IU.out EU.out (yvs_one _) ?_
          refine hK.out _ _ (HS.out _ (ybelow_row (ybelow_row HB51.out HNX50.out (yvs T)) HNY44.out (yvs U))) (fun hHeld => ?_)
          clear hK K hHeld
          simp only [Act.put]
          refine wpAnyH_done (by decide +kernel) ?_ _
          refine NoPanic.normal ?_
          go_wp2_with fail
          go_meet
          exact ⟨(wt45).heap.size, (W3.drew).heap.size, rfl, rfl, ((setRow_other _ _ _ _ (Ne.symm NEYX50.out)).trans (setRow_heap _ _ _ (yvs T) _ _ HX51.out)), (setRow_heap _ _ _ (yvs U) _ _ ((setRow_other _ _ _ _ NEYX50.out).trans HY51.out)), (ybelow_row (ybelow_row HB51.out HNX50.out (yvs T)) HNY44.out (yvs U)), HNX50.out, HNY44.out⟩
      · go_simp
        have hal := HB44.out.alloc HB44.out.size (.cells (yvs Z) 71)
        have hxl := heap_alloc_new (wb44) (.cells (yvs Z) 71)
        have hst := (Below.refl (wb44).heap.size (wb44)).alloc (Nat.le_refl _) (.cells (yvs Z) 71)
        refine hK.out _ _ (HS.out _ hal) (fun hHeld => ?_)
        clear hK K hHeld
        try simp only [Act.put, List.setIfInBounds_toArray, List.set_cons_zero, List.set_cons_succ]
        refine (show ∀ wb54 : World, wb54 = (wb44).alloc (.cells (yvs Z) 71) → _ from ?_) _ rfl
        intro wb54 ew
        rw [← ew] at hal hxl hst
        have HY54 := Lib.hid (HY44.out.below hst (ylt HY44.out))
        have NEYX54 := Lib.hid (show (W3.drew).heap.size ≠ (wb44).heap.size from Nat.ne_of_lt (ylt HY44.out))
        have HB54 := Lib.hid hal
        have HX54 := Lib.hid (show ArrY wb54 (wb44).heap.size 71 Z from hxl)
        have HNX54 := Lib.hid HB44.out.size
        clear ew hal hxl hst
        refine wpAnyH_ready (rs := [2]) (by decide +kernel) (by simp) ?_
        refine AllReadyH.cons rfl (fun K hK => ?_) AllReadyH.nil
        go_simp
        go_at_call 26
        refine (HRD.out _).mono ?_
        rintro e wt55 ⟨rfl, hb⟩
        have HB55 := Lib.hid (HB54.out.trans (hb.mono HB54.out.size))
        have HY55 := Lib.hid (HY54.out.below hb (ylt HY54.out))
        have HX55 := Lib.hid (HX54.out.below hb (ylt HX54.out))
        clear hb
        go_wp2_with fail
        refine hK.out _ _ (HS.out _ HB55.out) (fun hHeld => ?_)
        clear hK K hHeld
        try simp only [Act.put, List.setIfInBounds_toArray, List.set_cons_zero, List.set_cons_succ]
        refine wpAnyH_ready (rs := [4]) (by decide +kernel) (by simp) ?_
        refine AllReadyH.cons rfl (fun K hK => ?_) AllReadyH.nil
        go_simp
        go_at_call 45
        refine (HBK.out _).mono ?_
        rintro e wt56 ⟨rfl, hb⟩
        have HB56 := Lib.hid (HB55.out.trans (hb.mono HB55.out.size))
        have HY56 := Lib.hid (HY55.out.below hb (ylt HY55.out))
        have HX56 := Lib.hid (HX55.out.below hb (ylt HX55.out))
        clear hb
        go_wp2_with fail
        refine hK.out _ _ (HS.out _ HB56.out) (fun hHeld => ?_)
        clear hK K hHeld
        try simp only [Act.put, List.setIfInBounds_toArray, List.set_cons_zero, List.set_cons_succ]
        refine wpAnyH_ready (rs := [7]) (by decide +kernel) (by simp) ?_
        refine AllReadyH.cons rfl (fun K hK => ?_) AllReadyH.nil
        rw [if_pos (by kernel_rfl)]
        refine wp_store_row (o := ⟨none, .store _ (.tmp 7) _, _, _, _, _⟩) 71 _ _ rfl ((wb44).heap.size) (yvs T) rfl rfl 71 (yvs Z) (show (wt56).heap[(wb44).heap.size]? = _ from HX56.out) IT.out ET.out (yvs_one _) ?_
        refine hK.out _ _ (HS.out _ (ybelow_row HB56.out HNX54.out (yvs T))) (fun hHeld => ?_)
        clear hK K hHeld
        simp only [Act.put]
        refine wpAnyH_ready (rs := [8]) (by decide +kernel) (by simp) ?_
        refine AllReadyH.cons rfl (fun K hK => ?_) AllReadyH.nil
        rw [if_pos (by kernel_rfl)]
        refine wp_store_row (o := ⟨none, .store _ (.tmp 8) _, _, _, _, _⟩) 37 _ _ rfl ((W3.drew).heap.size) (yvs U) rfl rfl 37 (yvs Z2) (show (((wt56).setRow ((wb44).heap.size) (yvs T))).heap[(W3.drew).heap.size]? = _ from ((setRow_other _ _ _ _ NEYX54.out).trans HY56.out)) IU.out EU.out (yvs_one _) ?_
        refine hK.out _ _ (HS.out _ (ybelow_row (ybelow_row HB56.out HNX54.out (yvs T)) HNY44.out (yvs U))) (fun hHeld => ?_)
        clear hK K hHeld
        simp only [Act.put]
        refine wpAnyH_done (by decide +kernel) ?_ _
        refine NoPanic.normal ?_
        go_wp2_with fail
        go_meet
        exact ⟨(wb44).heap.size, (W3.drew).heap.size, rfl, rfl, ((setRow_other _ _ _ _ (Ne.symm NEYX54.out)).trans (setRow_heap _ _ _ (yvs T) _ _ HX56.out)), (setRow_heap _ _ _ (yvs U) _ _ ((setRow_other _ _ _ _ NEYX54.out).trans HY56.out)), (ybelow_row (ybelow_row HB56.out HNX54.out (yvs T)) HNY44.out (yvs U)), HNX54.out, HNY44.out⟩
  case rest =>
    obtain ⟨PR, PU, rfl, rfl, hX, hY, hbc, hlx, hly⟩ := hcut
    have HS0 := Lib.hid (show RO w wc PR PU b T U from by
      obtain ⟨e2, e3, e4, e5⟩ := HW3.out
      exact ⟨e2.below hbc (ylt e2), e3.below hbc (ylt e3), hX, hY, e4.trans (hbc.mono (by omega)), by omega, by omega, ylt hX, ylt hY⟩)
    clear hX hY hbc hlx hly hz hz2 HW3 HS
    go_wp2_with fail
    go_loopw [9] (fun v9 wr => ∃ n : Nat, n ≤ 14 ∧ v9 = .int .i64 (n : Nat) ∧ RO w wr PR PU (opN T b n) T U) (fun v _ => (intOf v).toNat)
    case atStart => exact ⟨14, by omega, rfl, HS0.out⟩
    case round =>
      clear HS0
      obtain ⟨n, h14, rfl, hS⟩ := hrel
      by_cases hgt : 0 < n
      · have hbl : (opN T b n).length = 16 := by unfold opN; split; exact HBL.out; exact openN_length _ _ _
        obtain ⟨B, hB⟩ : ∃ B, opN T b n = B := ⟨_, rfl⟩
        rw [hB] at hS hbl
        obtain ⟨K0, hK0⟩ : ∃ y, rkeyL T n = y := ⟨_, rfl⟩
        have hkl : K0.length = 16 := by rw [← hK0]; exact rkeyL_length T HTL.out n (by omega)
        have HRK := Lib.hid (show ∀ W x, RO w W PR PU x T U → W.rangeAt PR (n * 16) (yvs K0).toList from fun W x h => by rw [← hK0]; exact h.range n)
        have SKL := Lib.hid (show (Try.prog.info? 54).map (·.size) = some (yvs K0).toList.length by rw [← hK0]; exact size_rk16 T HTL.out n (by omega))
        have IBL := Lib.hid (show (Try.prog.info? 54).map (·.size) = some (yvs B).toList.length by rw [Array.length_toList]; exact size_b16 B hbl)
        obtain ⟨V, hV⟩ : ∃ y, sumB B K0 = y := ⟨_, rfl⟩
        have hvl : V.length = 16 := by rw [← hV]; exact sumB_length _ _ 16 hbl hkl
        have HSU := Lib.hid (show ∀ w, Calls Try.prog 40 #[.agg (yvs B), .agg (yvs K0)] w fun e w' => e = .returned (.agg (yvs V)) ∧ Below w.heap.size w w' from fun w => by rw [← hV]; exact rsumb_any B K0 w hbl hkl)
        have IV := Lib.hid (size_b16 V hvl)
        have EV := Lib.hid (show (yvs (zeroY 16)).size = (yvs V).size by rw [yvs_size, yvs_size, hvl]; simp [zeroY])
        have HBB := Lib.hid hB
        have HVV := Lib.hid hV
        have HKK := Lib.hid hK0
        have HCL := Lib.hid (And.intro hbl hvl)
        have HS := Lib.hid hS
        have HN := Lib.hid (And.intro hgt h14)
        have HSS := Lib.hid (show ∀ W', Below wr.heap.size wr W' → W'.rangeAt (w.heap.size + 1 + 1) 0 (yvs B).toList ∧ W'.rangeAt PR (n * 16) (yvs K0).toList from fun W' h => ⟨(HS.out.below h).blk.all, HRK.out _ _ (HS.out.below h)⟩)
        have nI : (n : Int) < 15 := by omega
        have n0 : (0 : Int) < (n : Int) := by omega
        clear h14 hgt hS hbl hB hK0 hkl hV hvl
        go_upto_region 5 with fail
        go_cut [10] from 18 to 55 (fun v10 wc => ∃ X, v10 = .pointer (some ⟨X, 0, none⟩) ∧ PR < X ∧ PU < X ∧ ArrY wc X 54 V ∧ RO w wc PR PU B T U)
        case first =>
          try simp only [Act.put]
          refine wp_region_noPanic ?_
          refine wp_region_held_drew (S := fun w' => w'.rangeAt (w.heap.size + 1 + 1) 0 (yvs B).toList ∧ w'.rangeAt PR (n * 16) (yvs K0).toList) (by kernel_rfl) (HSS.out _ (Below.refl _ wr).drew) (fun hHeld => ?_)
          refine wpAnyH_take (i := 0) (oi := ⟨some 22, _, _, _, _, _⟩) rfl (by kernel_rfl) (by decide +kernel) (by decide +kernel) (fun _ _ _ h => h) (yieldsIf_load_mid (by rfl) _ _ rfl (w.heap.size + 1 + 1) (0) rfl (yvs B).toList _ (fun w' h => h.1) Try.underlying54 rfl IBL.out) (by assumption) ?_
          try simp only [Act.put, List.setIfInBounds_toArray, List.set_cons_zero, List.set_cons_succ, Array.toArray_toList]
          refine wpAnyH_take (i := 1) (oi := ⟨some 23, _, _, _, _, _⟩) (v := ?_) rfl (by kernel_rfl) (by decide +kernel) (by decide +kernel) (fun _ _ _ h => h) (Or.inl ⟨by rfl, ?_⟩) (by assumption) ?_
          rotate_left 1
          · (intro w' hSw; go_simp; try with_reducible rfl)
          try simp only [Act.put, List.setIfInBounds_toArray, List.set_cons_zero, List.set_cons_succ]
          refine wpAnyH_take (i := 2) (oi := ⟨some 24, _, _, _, _, _⟩) (v := ?_) rfl (by kernel_rfl) (by decide +kernel) (by decide +kernel) (fun _ _ _ h => h) (Or.inl ⟨by rfl, ?_⟩) (by assumption) ?_
          rotate_left 1
          · (intro w' hSw; go_simp; try with_reducible rfl)
          try simp only [Act.put, List.setIfInBounds_toArray, List.set_cons_zero, List.set_cons_succ]
          refine wpAnyH_take (i := 3) (oi := ⟨some 25, _, _, _, _, _⟩) rfl (by kernel_rfl) (by decide +kernel) (by decide +kernel) (fun _ _ _ h => h) (yieldsIf_load_mid (by rfl) _ _ rfl (PR) (n * 16) rfl (yvs K0).toList _ (fun w' h => h.2) Try.underlying54 rfl SKL.out) (by assumption) ?_
          try simp only [Act.put, List.setIfInBounds_toArray, List.set_cons_zero, List.set_cons_succ, Array.toArray_toList]
          clear hHeld
          have HB0 := Lib.hid (Below.refl wr.heap.size wr).drew
          refine wpAnyH_ready (rs := [4, 5]) (by decide +kernel) (by simp) ?_
          refine AllReadyH.cons rfl (fun K hK => ?_) (AllReadyH.cons rfl (fun K hK => ?_) AllReadyH.nil)
          · go_simp
            go_at_call 40
            refine (HSU.out _).mono ?_
            rintro e wt1 ⟨rfl, hb⟩
            have HB1 := Lib.hid (HB0.out.trans (hb.mono HB0.out.size))
            clear hb
            go_wp2_with fail
            refine hK.out _ _ (HSS.out _ HB1.out) (fun hHeld => ?_)
            clear hK K hHeld
            try simp only [Act.put, List.setIfInBounds_toArray, List.set_cons_zero, List.set_cons_succ]
            refine wpAnyH_ready (rs := [5]) (by decide +kernel) (by simp) ?_
            refine AllReadyH.cons rfl (fun K hK => ?_) AllReadyH.nil
            go_simp
            have hal := HB1.out.alloc HB1.out.size (.cells (yvs (zeroY 16)) 54)
            have hxl := heap_alloc_new (wt1) (.cells (yvs (zeroY 16)) 54)
            have hst := (Below.refl (wt1).heap.size (wt1)).alloc (Nat.le_refl _) (.cells (yvs (zeroY 16)) 54)
            refine hK.out _ _ (HSS.out _ hal) (fun hHeld => ?_)
            clear hK K hHeld
            try simp only [Act.put, List.setIfInBounds_toArray, List.set_cons_zero, List.set_cons_succ]
            refine (show ∀ wb2 : World, wb2 = (wt1).alloc (.cells (yvs (zeroY 16)) 54) → _ from ?_) _ rfl
            intro wb2 ew
            rw [← ew] at hal hxl hst
            have HB2 := Lib.hid hal
            have HX2 := Lib.hid (show ArrY wb2 (wt1).heap.size 54 (zeroY 16) from hxl)
            have HNX2 := Lib.hid HB1.out.size
            clear ew hal hxl hst
            refine wpAnyH_ready (rs := [6]) (by decide +kernel) (by simp) ?_
            refine AllReadyH.cons rfl (fun K hK => ?_) AllReadyH.nil
            rw [if_pos (by kernel_rfl)]
            refine wp_store_row (o := ⟨none, .store _ (.tmp 10) _, _, _, _, _⟩) 54 _ _ rfl ((wt1).heap.size) (yvs V) rfl rfl 54 (yvs (zeroY 16)) (show (wb2).heap[(wt1).heap.size]? = _ from HX2.out) IV.out EV.out (yvs_one _) ?_
            refine hK.out _ _ (HSS.out _ (ybelow_row HB2.out HNX2.out (yvs V))) (fun hHeld => ?_)
            clear hK K hHeld
            simp only [Act.put]
            refine wpAnyH_done (by decide +kernel) ?_ _
            refine NoPanic.normal ?_
            go_wp2_with fail
            go_meet
            exact ⟨(wt1).heap.size, rfl, Nat.lt_of_lt_of_le HS.out.hi HNX2.out, Nat.lt_of_lt_of_le HS.out.hi2 HNX2.out, (setRow_heap _ _ _ (yvs V) _ _ HX2.out), HS.out.below (ybelow_row HB2.out HNX2.out (yvs V))⟩
          · go_simp
            have hal := HB0.out.alloc HB0.out.size (.cells (yvs (zeroY 16)) 54)
            have hxl := heap_alloc_new (wr.drew) (.cells (yvs (zeroY 16)) 54)
            have hst := (Below.refl (wr.drew).heap.size (wr.drew)).alloc (Nat.le_refl _) (.cells (yvs (zeroY 16)) 54)
            refine hK.out _ _ (HSS.out _ hal) (fun hHeld => ?_)
            clear hK K hHeld
            try simp only [Act.put, List.setIfInBounds_toArray, List.set_cons_zero, List.set_cons_succ]
            refine (show ∀ wb4 : World, wb4 = (wr.drew).alloc (.cells (yvs (zeroY 16)) 54) → _ from ?_) _ rfl
            intro wb4 ew
            rw [← ew] at hal hxl hst
            have HB4 := Lib.hid hal
            have HX4 := Lib.hid (show ArrY wb4 (wr.drew).heap.size 54 (zeroY 16) from hxl)
            have HNX4 := Lib.hid HB0.out.size
            clear ew hal hxl hst
            refine wpAnyH_ready (rs := [4]) (by decide +kernel) (by simp) ?_
            refine AllReadyH.cons rfl (fun K hK => ?_) AllReadyH.nil
            go_simp
            go_at_call 40
            refine (HSU.out _).mono ?_
            rintro e wt5 ⟨rfl, hb⟩
            have HB5 := Lib.hid (HB4.out.trans (hb.mono HB4.out.size))
            have HX5 := Lib.hid (HX4.out.below hb (ylt HX4.out))
            clear hb
            go_wp2_with fail
            refine hK.out _ _ (HSS.out _ HB5.out) (fun hHeld => ?_)
            clear hK K hHeld
            try simp only [Act.put, List.setIfInBounds_toArray, List.set_cons_zero, List.set_cons_succ]
            refine wpAnyH_ready (rs := [6]) (by decide +kernel) (by simp) ?_
            refine AllReadyH.cons rfl (fun K hK => ?_) AllReadyH.nil
            rw [if_pos (by kernel_rfl)]
            refine wp_store_row (o := ⟨none, .store _ (.tmp 10) _, _, _, _, _⟩) 54 _ _ rfl ((wr.drew).heap.size) (yvs V) rfl rfl 54 (yvs (zeroY 16)) (show (wt5).heap[(wr.drew).heap.size]? = _ from HX5.out) IV.out EV.out (yvs_one _) ?_
            refine hK.out _ _ (HSS.out _ (ybelow_row HB5.out HNX4.out (yvs V))) (fun hHeld => ?_)
            clear hK K hHeld
            simp only [Act.put]
            refine wpAnyH_done (by decide +kernel) ?_ _
            refine NoPanic.normal ?_
            go_wp2_with fail
            go_meet
            exact ⟨(wr.drew).heap.size, rfl, Nat.lt_of_lt_of_le HS.out.hi HNX4.out, Nat.lt_of_lt_of_le HS.out.hi2 HNX4.out, (setRow_heap _ _ _ (yvs V) _ _ HX5.out), HS.out.below (ybelow_row HB5.out HNX4.out (yvs V))⟩
        case rest =>
          obtain ⟨X, rfl, hx1, hx2, hX, hS⟩ := hcut
          clear HS HSS HSU HRK SKL IBL EV
          have H5 := Lib.hid (And.intro hx1 hx2)
          obtain ⟨V2, hV2⟩ : ∃ y, (if n < 14 then unmixB V else V) = y := ⟨_, rfl⟩
          have hvl2 : V2.length = 16 := by rw [← hV2]; split; exact unmixB_length _; exact HCL.out.2
          have HV2 := Lib.hid hV2
          have HVL2 := Lib.hid hvl2
          have HS := Lib.hid (And.intro hS hX)
          clear hx1 hx2 hX hS hV2 hvl2
          go_upto_if 28 with fail
          go_cut [] from 18 to 55 (fun wc => ArrY wc X 54 V2 ∧ RO w wc PR PU B T U)
          case first =>
            by_cases h14 : n < 14
            · have n14 : (n : Int) < 14 := by omega
              have HCO := Lib.hid (show ∀ w, Calls Try.prog 41 #[.agg (yvs V), .agg #[.int .u8 14, .int .u8 11, .int .u8 13, .int .u8 9]] w fun e w' => e = .returned (.agg (yvs V2)) ∧ Below w.heap.size w w' from fun w => by
                have h := rcolumns_any V [14, 11, 13, 9] w HCL.out.2 rfl
                have h2 := HV2.out
                rw [if_pos h14] at h2
                rw [colB_open V HCL.out.2, h2] at h
                exact h)
              have IV2 := Lib.hid (size_b16 V2 HVL2.out)
              have EV2 := Lib.hid (show (yvs V).size = (yvs V2).size by rw [yvs_size, yvs_size, HCL.out.2, HVL2.out])
              have HXH := Lib.hid (show wc.heap[X]? = some (.cells (yvs V) 54 (0, 0)) from HS.out.2)
              clear h14
              go_wp2_with (first
                | (with_reducible refine wpList_load_row (o := ⟨some 29, _, _, _, _, _⟩) rfl 54 _ rfl X rfl 54 (yvs V) (0, 0) _ HXH.out Try.underlying54 rfl IV.out ?_))
              refine (HCO.out _).mono ?_
              rintro e w5 ⟨rfl, hb5⟩
              have HS5 := Lib.hid (And.intro (HS.out.1.below hb5) (HS.out.2.below hb5 (ylt HS.out.2)))
              have HXH5 := Lib.hid (show w5.heap[X]? = some (.cells (yvs V) 54 (0, 0)) from HS5.out.2)
              clear hb5
              go_wp2_with (first
                | (with_reducible refine wpList_store_row (o := ⟨none, .store _ (.tmp 10) _, _, _, _, _⟩) rfl 54 _ _ rfl X (yvs V2) rfl rfl 54 _ HXH5.out IV2.out EV2.out (yvs_one _) ?_))
              go_meet
              case rel => exact ⟨setRow_heap _ _ _ _ _ _ HXH5.out, HS5.out.1.other H5.out.1 H5.out.2 (ybelow_row (Below.refl X w5) (Nat.le_refl _) _)⟩
            · have n14 : (14 : Int) ≤ (n : Int) := by omega
              have hv : V2 = V := by rw [← HV2.out, if_neg h14]
              subst hv
              clear h14
              go_wp2_with fail
              go_meet
              case rel => exact ⟨HS.out.2, HS.out.1⟩
          case rest =>
            obtain ⟨hX, hS⟩ := hcut
            clear HS IV
            have HS := Lib.hid (And.intro hS hX)
            clear hS hX
            go_wp2_with fail
            go_loopw [11] (fun v11 wr => ∃ c : Nat, c ≤ 4 ∧ v11 = .int .i64 (c : Nat) ∧ RO w wr PR PU (setF org (fun p => ubox (V2.getD p 0)) (4 * c) B) T U ∧ ArrY wr X 54 V2) (fun v _ => 4 - (intOf v).toNat)
            case atStart => exact ⟨0, by omega, rfl, HS.out.1, HS.out.2⟩
            case round =>
              clear HS
              obtain ⟨c, hc, rfl, hS, hX⟩ := hrel
              by_cases hlt : c < 4
              · have HC4 := Lib.hid hlt
                have HS := Lib.hid (And.intro hS hX)
                have cI : (c : Int) < 4 := by omega
                have c0 : (0 : Int) ≤ (c : Int) := by omega
                clear hc hlt hS hX
                go_wp2_with fail
                go_loopw [12] (fun v12 wr => ∃ r : Nat, r ≤ 4 ∧ v12 = .int .i64 (r : Nat) ∧ RO w wr PR PU (setF org (fun p => ubox (V2.getD p 0)) (4 * c + r) B) T U ∧ ArrY wr X 54 V2) (fun v _ => 4 - (intOf v).toNat)
                case atStart => exact ⟨0, by omega, rfl, HS.out.1, HS.out.2⟩
                case round =>
                  clear HS
                  obtain ⟨r, hr, rfl, hS, hX⟩ := hrel
                  by_cases hlt : r < 4
                  · have hc4 := HC4.out
                    obtain ⟨m, hm, hm2⟩ : ∃ m : Nat, ((c : Int) + (r : Int)) % 4 = (m : Int) ∧ (c + r) % 4 = m := ⟨(c + r) % 4, by omega, rfl⟩
                    have hor : org (4 * c + r) = 4 * m + r := by unfold org; omega
                    have cx := hX.cell (k := 4 * c + r) (by rw [HVL2.out]; omega)
                    have HTC := Lib.hid (show ∀ y : BitVec 8, wr.cell? ⟨PU, y.toNat, none⟩ = some (.int .u8 (yv (ubox y))) from fun y => by
                      have h := hS.ubx.cell (k := y.toNat) (by rw [HUX.out.1]; exact y.isLt)
                      rwa [HUX.out.2 y] at h)
                    have HST := Lib.hid (show setF org (fun p => ubox (V2.getD p 0)) (4 * c + (r + 1)) B = (setF org (fun p => ubox (V2.getD p 0)) (4 * c + r) B).set (4 * m + r) (ubox (V2.getD (4 * c + r) 0)) by rw [← hor]; rfl)
                    have ci := hS.blk.cell (k := 4 * m + r) (by rw [setF_length, HCL.out.1]; omega)
                    have fi := hS.blk.free (4 * m + r)
                    generalize hM2 : setF org (fun p => ubox (V2.getD p 0)) (4 * c + (r + 1)) B = M2 at *
                    have HM2 := Lib.hid hM2
                    clear hM2
                    generalize setF org (fun p => ubox (V2.getD p 0)) (4 * c + r) B = M at *
                    generalize M.getD (4 * m + r) 0 = old at *
                    generalize V2.getD (4 * c + r) 0 = y at *
                    have ty := HTC.out y
                    have ny := yv_toNat y
                    have ly := yv_pos y
                    have uy := yv_lt y
                    have HS := Lib.hid (And.intro hS hX)
                    have HR4 := Lib.hid hlt
                    have rI : (r : Int) < 4 := by omega
                    have r0 : (0 : Int) ≤ (r : Int) := by omega
                    have mI : (m : Int) < 4 := by omega
                    have m0 : (0 : Int) ≤ (m : Int) := by omega
                    have e6 : (4 * (c : Int) + (r : Int)).toNat = 4 * c + r := by omega
                    have e7 : (4 * (m : Int) + (r : Int)).toNat = 4 * m + r := by omega
                    clear hr hlt hS hX hm2 hor hc4 HTC
                    go_wp2_with fail
                    go_roundw
                    case rel => exact ⟨r + 1, by have := HR4.out; omega, by go_num, by rw [HM2.out, HST.out]; exact HS.out.1.put (4 * m + r) _, HS.out.2.other _ _ (show X ≠ w.heap.size + 1 + 1 by have := H5.out.1; have := HS.out.1.lo; omega)⟩
                    case measure => simp [intOf]; omega
                  · have HR := Lib.hid (show r = 4 by omega)
                    have hge : (4 : Int) ≤ (r : Int) := by omega
                    have HS := Lib.hid (And.intro hS hX)
                    clear hr hlt hS hX
                    go_wp2_with fail
                    go_roundw
                    case rel => exact ⟨c + 1, by have := HC4.out; omega, by go_num, by have h := HS.out.1; rw [HR.out] at h; exact h, HS.out.2⟩
                    case measure => simp [intOf]; have := HC4.out; omega
              · have hge : (4 : Int) ≤ (c : Int) := by omega
                have hS16 : RO w wr PR PU (unboxB (unturnB V2)) T U := by
                  rw [show c = 4 by omega, show 4 * 4 = 16 from rfl, unturn_over V2 B HVL2.out HCL.out.1] at hS
                  exact hS
                have hnx : unboxB (unturnB V2) = opN T b (n - 1) := by
                  have hn := HN.out
                  rw [← HV2.out, ← HVV.out, ← HBB.out, ← HKK.out]
                  unfold opN
                  rw [if_neg (by omega : ¬ n - 1 = 14)]
                  by_cases h : n = 14
                  · subst h; rfl
                  · rw [if_neg h, if_pos (by omega), show 13 - (n - 1) = 13 - n + 1 by omega, openN, show 13 - (13 - n) = n by omega]
                rw [hnx] at hS16
                have HSN := Lib.hid hS16
                clear hc hlt hS hX hS16 hnx
                go_wp2_with fail
                go_roundw
                case rel => exact ⟨n - 1, by have := HN.out; omega, by have := HN.out; go_num, HSN.out⟩
                case measure => simp [intOf]; have := HN.out; omega
      · have hn0 : n = 0 := by omega
        have hge : (n : Int) ≤ 0 := by omega
        have hat : opN T b n = openN T b 13 := by rw [hn0]; rfl
        rw [hat] at hS
        obtain ⟨B, hB⟩ : ∃ B, openN T b 13 = B := ⟨_, rfl⟩
        have hbl : B.length = 16 := by rw [← hB]; exact openN_length _ _ _
        rw [hB] at hS
        have hfl := openB_length T b HTL.out
        have hF0 : openB T b = sumB B (rkeyL T 0) := by rw [← hB]; rfl
        obtain ⟨F, hF⟩ : ∃ y, openB T b = y := ⟨_, rfl⟩
        rw [hF] at hfl hF0
        have HF := Lib.hid hF0
        have HFF := Lib.hid hF
        have HS := Lib.hid hS
        have IB := Lib.hid (size_b16 B hbl)
        have SK0 := Lib.hid (size_rk16 T HTL.out 0 (by omega))
        have hK0 := Lib.hid (show wr.rangeAt PR 0 (yvs (rkeyL T 0)).toList from by have := HS.out.range 0; rwa [Nat.zero_mul] at this)
        have HBH := Lib.hid (show wr.heap[w.heap.size + 1 + 1]? = some (.cells (yvs B) 54 (0, 0)) from HS.out.blk)
        have HSU := Lib.hid (show ∀ w, Calls Try.prog 40 #[.agg (yvs B), .agg (yvs (rkeyL T 0))] w fun e w' => e = .returned (.agg (yvs F)) ∧ Below w.heap.size w w' from fun w => by rw [HF.out]; exact rsumb_any B _ w hbl (rkeyL_length T HTL.out 0 (by omega)))
        have SH := Lib.hid (size_b16 F hfl)
        have SE := Lib.hid (show (yvs (zeroY 16)).size = (yvs F).size by rw [yvs_size, yvs_size, hfl]; simp [zeroY])
        clear hgt h14 hS hn0 hat hfl hbl hB hF0 hF
        go_wp2_with (first
          | (with_reducible refine wpList_load_row (o := ⟨some 56, _, _, _, _, _⟩) rfl 54 _ rfl (w.heap.size + 1 + 1) rfl 54 (yvs B) (0, 0) _ HBH.out Try.underlying54 rfl IB.out ?_)
          | (with_reducible refine wpList_load_mid (op := ⟨some 58, _, _, _, _, _⟩) rfl 54 _ rfl PR 0 rfl (yvs (rkeyL T 0)).toList _ hK0.out Try.underlying54 rfl SK0.out ?_))
        refine (HSU.out _).mono ?_
        rintro e w5 ⟨rfl, hb5⟩
        have HR1 := Lib.hid (show w5.heap[w.heap.size + 1 + 1 + 1]? = some (.cells (yvs (zeroY 16)) 54 (0, 0)) from (HS.out.below hb5).ret)
        have HB2 := Lib.hid (HS.out.below hb5).bel
        clear hb5
        go_wp2_with (first
          | (with_reducible refine wpList_store_row (o := ⟨none, .store _ (.tmp 6) _, _, _, _, _⟩) rfl 54 _ _ rfl (w.heap.size + 1 + 1 + 1) (yvs F) rfl rfl 54 (yvs (zeroY 16)) HR1.out SH.out SE.out (yvs_one _) ?_))
        refine bodyPost_ret (v := .agg (yvs F)) (results_cell_row Try.results29 _ _ (w.heap.size + 1 + 1 + 1) 54 (yvs F) (0, 0) _ rfl (setRow_heap _ (w.heap.size + 1 + 1 + 1) _ (yvs F) _ _ HR1.out) Try.underlying54 rfl SH.out) rfl ⟨by rw [HFF.out], ?_⟩
        exact ybelow_row HB2.out (by omega) _
end Go.Proofs.Ytajfooefofafmaa
