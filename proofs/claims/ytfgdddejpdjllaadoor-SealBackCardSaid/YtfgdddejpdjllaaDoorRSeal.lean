/-
  The reference's Seal.
-/
import Derived.Test.YtfgdddejpdjllaaDoorRKeys
import Derived.Test.YtfgdddejpdjllaaDoorColEq
import Derived.Test.YtfgdddejpdjllaaDoorAes0
namespace Go.Proofs.YtfgdddejpdjllaaDoor
set_option maxRecDepth 4000
open Go.RowKit

theorem yfour (w : World) (A B C D : Obj) : ((((w.alloc A).alloc B).alloc C).alloc D).heap[w.heap.size]? = some A ∧ ((((w.alloc A).alloc B).alloc C).alloc D).heap[w.heap.size + 1]? = some B ∧
    ((((w.alloc A).alloc B).alloc C).alloc D).heap[w.heap.size + 1 + 1]? = some C ∧ ((((w.alloc A).alloc B).alloc C).alloc D).heap[w.heap.size + 1 + 1 + 1]? = some D ∧ ((((w.alloc A).alloc B).alloc C).alloc D).heap.size = w.heap.size + 4 ∧ Below w.heap.size w ((((w.alloc A).alloc B).alloc C).alloc D) := by
  obtain ⟨h0, h1, h2, hz, hb⟩ := ythree w A B C
  have hst := (Below.refl (((w.alloc A).alloc B).alloc C).heap.size (((w.alloc A).alloc B).alloc C)).alloc (Nat.le_refl _) D
  have hn := heap_alloc_new (((w.alloc A).alloc B).alloc C) D
  rw [hz] at hn hst
  exact ⟨(hst.block _ (by omega)).trans h0, (hst.block _ (by omega)).trans h1, (hst.block _ (by omega)).trans h2, hn, by simp, hb.trans (hst.mono (by omega))⟩
/-- What lies in memory while the reference seals, or opens. -/
structure RW (w W : World) (PR : Nat) (x T S : List (BitVec 8)) : Prop where
  tab : ArrY W w.heap.size 38 S
  blk : ArrY W (w.heap.size + 1 + 1) 70 x
  ret : ArrY W (w.heap.size + 1 + 1 + 1) 70 (zeroY 16)
  rds : ArrY W PR 137 T
  bel : Below w.heap.size w W
  lo : w.heap.size + 1 + 1 + 1 < PR
  hi : PR < W.heap.size
theorem RW.below {w W W' : World} {PR : Nat} {x T S : List (BitVec 8)} (h : RW w W PR x T S) (hb : Below W.heap.size W W') : RW w W' PR x T S :=
  ⟨h.tab.below hb (ylt h.tab), h.blk.below hb (ylt h.blk), h.ret.below hb (ylt h.ret), h.rds.below hb h.hi, h.bel.trans (hb.mono (Nat.le_of_lt (ylt h.tab))), h.lo, Nat.lt_of_lt_of_le h.hi hb.size⟩
theorem RW.store {w W : World} {PR : Nat} {x T S : List (BitVec 8)} (h : RW w W PR x T S) (y : List (BitVec 8)) : RW w (W.setRow (w.heap.size + 1 + 1) (yvs y)) PR y T S :=
  ⟨(setRow_other W _ _ _ (by omega)).trans h.tab, setRow_heap W _ _ (yvs y) _ _ h.blk, (setRow_other W _ _ _ (by omega)).trans h.ret, (setRow_other W _ _ _ (by have := h.lo; omega)).trans h.rds, ybelow_row h.bel (by omega) _, h.lo, by simpa using h.hi⟩
theorem RW.other {w W W' : World} {PR : Nat} {x T S : List (BitVec 8)} (h : RW w W PR x T S) {X : Nat} (hX : PR < X) (hb : Below X W W') : RW w W' PR x T S :=
  ⟨h.tab.below hb (by have := h.lo; omega), h.blk.below hb (by have := h.lo; omega), h.ret.below hb (by have := h.lo; omega), h.rds.below hb hX, h.bel.trans (hb.mono (by have := h.lo; omega)), h.lo, Nat.lt_of_lt_of_le h.hi hb.size⟩
theorem RW.range {w W : World} {PR : Nat} {x T S : List (BitVec 8)} (h : RW w W PR x T S) (i : Nat) : W.rangeAt PR (i * 16) (yvs (rkeyL T i)).toList := by
  rw [Nat.mul_comm]; exact h.rds.range (16 * i) 16
theorem size_rk16 (T : List (BitVec 8)) (h : T.length = 240) (i : Nat) (hi : i < 15) : (Tryd.prog.info? 70).map (·.size) = some (yvs (rkeyL T i)).toList.length := by rw [Array.length_toList]; exact size_b16 _ (rkeyL_length T h i hi)
theorem turn_box (b : List (BitVec 8)) (hb : b.length = 16) : (List.range 16).map (fun p => sbox (b.getD (org p) 0)) = turnB (boxB b) := by
  apply List.map_congr_left
  intro p _
  have : org p < b.length := by rw [hb]; unfold org; omega
  simp [boxB, List.getD, this]
theorem size_k26 (l : List (BitVec 8)) (h : l.length = 32) : (Tryd.prog.info? 24).map (·.size) = some (yvs l).size := by rw [show (Tryd.prog.info? 24).map (·.size) = some 32 by kernel_rfl, yvs_size, h]
/-- Which block stands there ahead of round n. -/
def atN (T b : List (BitVec 8)) (n : Nat) : List (BitVec 8) := if n = 15 then sealB T b else sealN T b (n - 1)

set_option maxRecDepth 100000 in
set_option maxHeartbeats 6400000 in
theorem rseal_any (k b : List (BitVec 8)) (w : World) (hk : k.length = 32) (hb : b.length = 16) :
    Calls Tryd.prog 63 #[.agg (yvs boxesL), .agg (yvs k), .agg (yvs b)] w fun e w' => e = .returned (.agg (yvs (sealB (keysL k) b))) ∧ Below w.heap.size w w' := by
  have HKL := Lib.hid hk
  have HBL := Lib.hid hb
  have SK := Lib.hid (size_k26 k hk)
  have SB := Lib.hid (size_b16 b hb)
  have ST := Lib.hid (size_t256 boxesL boxes_length)
  have HRD := Lib.hid (fun w => rrounds_any k w hk)
  have hz := zero_r15
  have zl : (zeroY 240).length = 240 := by simp [zeroY]
  have HTL := Lib.hid (keysL_length k hk)
  have HBX := Lib.hid (show boxesL.length = 256 ∧ ∀ b : BitVec 8, boxesL.getD b.toNat 0 = sbox b from ⟨boxes_length, fun _ => rfl⟩)
  generalize keysL k = T at *
  generalize boxesL = S at *
  generalize zeroY 240 = Z at *
  have ZL := Lib.hid zl
  have SR := Lib.hid (size_r15 T HTL.out)
  clear hk hb zl
  go_enter Tryd.func63, Tryd.ntmps63
  go_wp2_with (first
    | (with_reducible refine wpList_load_row (o := ⟨some 12, _, _, _, _, _⟩) rfl 38 _ rfl w.heap.size rfl 38 (yvs S) (0, 0) _ (yfour w _ _ _ _).1 Tryd.underlying38 rfl ST.out ?_)
    | (with_reducible refine wpList_load_row (o := ⟨some 13, _, _, _, _, _⟩) rfl 24 _ rfl (w.heap.size + 1) rfl 24 (yvs k) (0, 0) _ (yfour w _ _ _ _).2.1 Tryd.underlying24 rfl SK.out ?_))
  obtain ⟨h0, _, h1, h2, hsz, hbel⟩ := yfour w (.cells (yvs S) 38) (.cells (yvs k) 24) (.cells (yvs b) 70) (.cells (yvs (zeroY 16)) 70)
  refine (HRD.out _).mono ?_
  rintro e w1 ⟨rfl, hb1⟩
  replace hb1 : Below (w.heap.size + 4) ((((w.alloc (.cells (yvs S) 38)).alloc (.cells (yvs k) 24)).alloc (.cells (yvs b) 70)).alloc (.cells (yvs (zeroY 16)) 70)) w1 := by rw [← hsz]; exact hb1
  have hz1 : w.heap.size + 4 ≤ w1.heap.size := by rw [← hsz]; exact hb1.size
  have h0' := (hb1.block _ (by omega)).trans h0
  have h1' := (hb1.block _ (by omega)).trans h1
  have h2' := (hb1.block _ (by omega)).trans h2
  have hB1 := hbel.trans (hb1.mono (by omega))
  have H1 := Lib.hid (And.intro hz1 (And.intro h0' (And.intro h1' (And.intro h2' hB1))))
  clear h0 h1 h2 hsz hbel hb1 hz1 h0' h1' h2' hB1
  go_upto_region 2 with (first
    | (with_reducible refine wpList_store_row (o := ⟨none, .store _ (.tmp 7) _, _, _, _, _⟩) rfl 137 _ _ rfl w1.heap.size (yvs T) rfl rfl 137 _ (heap_alloc_new w1 _) SR.out ?c1 (yvs_one _) ?_))
  case c1 => rw [yvs_size, yvs_size, HTL.out, ZL.out]
  clear hz
  generalize hW0 : World.setRow _ w1.heap.size _ = W0
  have hRW : RW w W0 w1.heap.size b T S := by
    obtain ⟨e1, e2, e3⟩ := ygen_row (w := w1) (old := yvs Z) (cs := yvs T) (T := 137)
    obtain ⟨z1, f0, f1, f2, g1⟩ := H1.out
    rw [← hW0]
    exact ⟨(e3.block _ (by omega)).trans f0, (e3.block _ (by omega)).trans f1, (e3.block _ (by omega)).trans f2, e1, g1.trans (e3.mono (by omega)), by omega, Nat.lt_of_lt_of_eq (Nat.lt_succ_self _) e2.symm⟩
  have HS := Lib.hid hRW
  clear hW0 hRW H1
  generalize w1.heap.size = PR at *
  have hK0 := Lib.hid (show W0.rangeAt PR 0 (yvs (rkeyL T 0)).toList from by have := HS.out.range 0; rwa [Nat.zero_mul] at this)
  have SK0 := Lib.hid (size_rk16 T HTL.out 0 (by omega))
  have hB0 := Lib.hid (show W0.heap[w.heap.size + 1 + 1]? = some (.cells (yvs b) 70 (0, 0)) from HS.out.blk)
  go_wp2_with (first
    | (with_reducible refine wpList_load_row (o := ⟨some 15, _, _, _, _, _⟩) rfl 70 _ rfl (w.heap.size + 1 + 1) rfl 70 (yvs b) (0, 0) _ hB0.out Tryd.underlying70 rfl SB.out ?_)
    | (with_reducible refine wpList_load_mid (op := ⟨some 17, _, _, _, _, _⟩) rfl 70 _ rfl PR 0 rfl (yvs (rkeyL T 0)).toList _ hK0.out Tryd.underlying70 rfl SK0.out ?_))
  refine (rsumb_any b (rkeyL T 0) _ HBL.out (rkeyL_length T HTL.out 0 (by omega))).mono ?_
  rintro e w2 ⟨rfl, hb2⟩
  have HS2 := Lib.hid (HS.out.below hb2)
  have hl0 := sealN_length T b HTL.out HBL.out 0 (by omega)
  have S0 := Lib.hid (size_b16 (sealN T b 0) hl0)
  have SE0 := Lib.hid (show (yvs b).size = (yvs (sealN T b 0)).size by rw [yvs_size, yvs_size, hl0, HBL.out])
  have hB2 := Lib.hid (show w2.heap[w.heap.size + 1 + 1]? = some (.cells (yvs b) 70 (0, 0)) from HS2.out.blk)
  clear hb2 hl0
  go_upto_region 3 with (first
    | (with_reducible refine wpList_store_row (o := ⟨none, .store _ (.tmp 5) _, _, _, _, _⟩) rfl 70 _ _ rfl (w.heap.size + 1 + 1) (yvs (sealN T b 0)) rfl rfl 70 _ hB2.out S0.out SE0.out (yvs_one _) ?_))
  generalize hW3 : World.setRow _ (w.heap.size + 1 + 1) _ = W3
  have HS3 := Lib.hid (show RW w W3 PR (sealN T b 0) T S by rw [← hW3]; exact HS2.out.store _)
  clear hW3 HS HS2 hB2 hB0 hK0
  go_wp2_with fail
  go_loopw [8] (fun v8 wr => ∃ n : Nat, 1 ≤ n ∧ n ≤ 15 ∧ v8 = .int .i64 (n : Nat) ∧ RW w wr PR (atN T b n) T S) (fun v _ => 15 - (intOf v).toNat)
  case atStart => exact ⟨1, by omega, by omega, rfl, HS3.out⟩
  case round =>
    clear HS3
    obtain ⟨n, h1, h15, rfl, hS⟩ := hrel
    by_cases hlt : n < 15
    · have hcur : atN T b n = sealN T b (n - 1) := if_neg (by omega)
      rw [hcur] at hS
      have hcl := sealN_length T b HTL.out HBL.out (n - 1) (by omega)
      obtain ⟨B, hB⟩ : ∃ B, sealN T b (n - 1) = B := ⟨_, rfl⟩
      rw [hB] at hS hcl
      have HBN := Lib.hid hB
      have HCL := Lib.hid hcl
      have HN := Lib.hid (And.intro h1 hlt)
      have HS := Lib.hid hS
      have nI : (n : Int) < 15 := by omega
      have n0 : (1 : Int) ≤ (n : Int) := by omega
      clear h1 h15 hlt hS hcur hB hcl
      go_upto_region 7 with fail
      generalize hW5 : World.alloc wr _ = W5
      have h5 : RW w W5 PR B T S ∧ ArrY W5 wr.heap.size 70 (zeroY 16) ∧ PR < wr.heap.size := by
        have hst := (Below.refl wr.heap.size wr).alloc (Nat.le_refl _) (.cells (yvs (zeroY 16)) 70)
        rw [← hW5]
        exact ⟨HS.out.below hst, heap_alloc_new wr _, HS.out.hi⟩
      have H5 := Lib.hid h5
      clear hW5 h5 HS
      generalize wr.heap.size = X at *
      go_wp2_with fail
      go_loopw [10] (fun v10 wr => ∃ c : Nat, c ≤ 4 ∧ v10 = .int .i64 (c : Nat) ∧ RW w wr PR B T S ∧ ArrY wr X 70 (setF id (fun p => sbox (B.getD (org p) 0)) (4 * c) (zeroY 16))) (fun v _ => 4 - (intOf v).toNat)
      case atStart => exact ⟨0, by omega, rfl, H5.out.1, H5.out.2.1⟩
      case round =>
        obtain ⟨c, hc, rfl, hS, hX⟩ := hrel
        by_cases hlt : c < 4
        · have HC4 := Lib.hid hlt
          have HS := Lib.hid (And.intro hS hX)
          have cI : (c : Int) < 4 := by omega
          have c0 : (0 : Int) ≤ (c : Int) := by omega
          clear hc hlt hS hX
          go_wp2_with fail
          go_loopw [11] (fun v11 wr => ∃ r : Nat, r ≤ 4 ∧ v11 = .int .i64 (r : Nat) ∧ RW w wr PR B T S ∧ ArrY wr X 70 (setF id (fun p => sbox (B.getD (org p) 0)) (4 * c + r) (zeroY 16))) (fun v _ => 4 - (intOf v).toNat)
          case atStart => exact ⟨0, by omega, rfl, HS.out.1, HS.out.2⟩
          case round =>
            clear HS
            obtain ⟨r, hr, rfl, hS, hX⟩ := hrel
            by_cases hlt : r < 4
            · have hc4 := HC4.out
              obtain ⟨m, hm, hm2⟩ : ∃ m : Nat, ((c : Int) + (r : Int)) % 4 = (m : Int) ∧ (c + r) % 4 = m := ⟨(c + r) % 4, by omega, rfl⟩
              have hor : org (4 * c + r) = 4 * m + r := by unfold org; omega
              have cb := hS.blk.cell (k := 4 * m + r) (by rw [HCL.out]; omega)
              have HTC := Lib.hid (show ∀ y : BitVec 8, wr.cell? ⟨w.heap.size, y.toNat, none⟩ = some (.int .u8 (yv (sbox y))) from fun y => by
                have h := hS.tab.cell (k := y.toNat) (by rw [HBX.out.1]; exact y.isLt)
                rwa [HBX.out.2 y] at h)
              have HST := Lib.hid (show setF id (fun p => sbox (B.getD (org p) 0)) (4 * c + (r + 1)) (zeroY 16) = (setF id (fun p => sbox (B.getD (org p) 0)) (4 * c + r) (zeroY 16)).set (4 * c + r) (sbox (B.getD (4 * m + r) 0)) by rw [← hor]; rfl)
              have ci := hX.cell (k := 4 * c + r) (by rw [setF_length]; show 4 * c + r < 16; omega)
              have fi := hX.free (4 * c + r)
              generalize hM2 : setF id (fun p => sbox (B.getD (org p) 0)) (4 * c + (r + 1)) (zeroY 16) = M2 at *
              have HM2 := Lib.hid hM2
              clear hM2
              generalize setF id (fun p => sbox (B.getD (org p) 0)) (4 * c + r) (zeroY 16) = M at *
              generalize M.getD (4 * c + r) 0 = old at *
              generalize B.getD (4 * m + r) 0 = y at *
              have ty := HTC.out y
              have ny := yv_toNat y
              have ly := yv_pos y
              have uy := yv_lt y
              have HS := Lib.hid (And.intro hS hX)
              have HR4 := Lib.hid hlt
              have rI : (r : Int) < 4 := by omega
              have r0 : (0 : Int) ≤ (r : Int) := by omega
              have mI : (m : Int) < 4 := by omega
              have m0 : (0 : Int) ≤ (m : Int) := by omega
              have e6 : (4 * (c : Int) + (r : Int)).toNat = 4 * c + r := by omega
              have e7 : (4 * (m : Int) + (r : Int)).toNat = 4 * m + r := by omega
              clear hr hlt hS hX hm2 hor hc4 HTC
              go_wp2_with fail
              go_roundw
              case rel => exact ⟨r + 1, by have := HR4.out; omega, by go_num, HS.out.1.other H5.out.2.2 ((Below.refl X wr).setCell (p := ⟨X, 4 * c + r, none⟩) (Nat.le_refl _) _), by rw [HM2.out, HST.out]; exact HS.out.2.set (4 * c + r) _⟩
              case measure => simp [intOf]; omega
            · have HR := Lib.hid (show r = 4 by omega)
              have hge : (4 : Int) ≤ (r : Int) := by omega
              have HS := Lib.hid (And.intro hS hX)
              clear hr hlt hS hX
              go_wp2_with fail
              go_roundw
              case rel => exact ⟨c + 1, by have := HC4.out; omega, by go_num, HS.out.1, by have h := HS.out.2; rw [HR.out] at h; exact h⟩
              case measure => simp [intOf]; have := HC4.out; omega
        · have hge : (4 : Int) ≤ (c : Int) := by omega
          have hX16 : ArrY wr X 70 (turnB (boxB B)) := by
            rw [show c = 4 by omega, show 4 * 4 = 16 from rfl, setF_map, turn_box B HCL.out] at hX
            exact hX
          have HS := Lib.hid (And.intro hS hX16)
          clear hc hlt hS hX hX16
          obtain ⟨K0, hK0⟩ : ∃ y, rkeyL T n = y := ⟨_, rfl⟩
          have hkl : K0.length = 16 := by rw [← hK0]; exact rkeyL_length T HTL.out n (by have := HN.out; omega)
          have HRK := Lib.hid (show ∀ W x, RW w W PR x T S → W.rangeAt PR (n * 16) (yvs K0).toList from fun W x h => by rw [← hK0]; exact h.range n)
          have SKL := Lib.hid (show (Tryd.prog.info? 70).map (·.size) = some (yvs K0).toList.length by rw [← hK0]; exact size_rk16 T HTL.out n (by have := HN.out; omega))
          have HKK := Lib.hid hK0
          have HKL2 := Lib.hid hkl
          have hvl := turnB_length (boxB B)
          obtain ⟨V, hV⟩ : ∃ y, turnB (boxB B) = y := ⟨_, rfl⟩
          rw [hV] at HS hvl
          have HVV := Lib.hid hV
          have HVL := Lib.hid hvl
          clear hK0 hkl hV hvl
          by_cases h14 : n < 14
          · have n14 : (n : Int) < 14 := by omega
            have hml := mixB_length V
            obtain ⟨V2, hV2⟩ : ∃ y, mixB V = y := ⟨_, rfl⟩
            rw [hV2] at hml
            have HCO := Lib.hid (show ∀ w, Calls Tryd.prog 84 #[.agg (yvs V), .agg #[.int .u8 2, .int .u8 3, .int .u8 1, .int .u8 1]] w fun e w' => e = .returned (.agg (yvs V2)) ∧ Below w.heap.size w w' from fun w => by
              have h := rcolumns_any V [2, 3, 1, 1] w HVL.out rfl
              rw [colB_seal V HVL.out, hV2] at h
              exact h)
            have IV := Lib.hid (size_b16 V HVL.out)
            have IV2 := Lib.hid (size_b16 V2 hml)
            have EV2 := Lib.hid (show (yvs V).size = (yvs V2).size by rw [yvs_size, yvs_size, HVL.out, hml])
            have HV2 := Lib.hid hV2
            have HML2 := Lib.hid hml
            have HXH := Lib.hid (show wr.heap[X]? = some (.cells (yvs V) 70 (0, 0)) from HS.out.2)
            clear h14 hml hV2
            go_wp2_with (first
              | (with_reducible refine wpList_load_row (o := ⟨some 49, _, _, _, _, _⟩) rfl 70 _ rfl X rfl 70 (yvs V) (0, 0) _ HXH.out Tryd.underlying70 rfl IV.out ?_))
            refine (HCO.out _).mono ?_
            rintro e w5 ⟨rfl, hb5⟩
            have HS5 := Lib.hid (And.intro (HS.out.1.below hb5) (HS.out.2.below hb5 (ylt HS.out.2)))
            have HXH5 := Lib.hid (show w5.heap[X]? = some (.cells (yvs V) 70 (0, 0)) from HS5.out.2)
            clear hb5
            go_upto_region 16 with (first
              | (with_reducible refine wpList_store_row (o := ⟨none, .store _ (.tmp 9) _, _, _, _, _⟩) rfl 70 _ _ rfl X (yvs V2) rfl rfl 70 _ HXH5.out IV2.out EV2.out (yvs_one _) ?_))
            generalize hW6 : World.setRow _ X _ = W6
            have h6 : RW w W6 PR B T S ∧ ArrY W6 X 70 V2 := by
              rw [← hW6]
              exact ⟨HS5.out.1.other H5.out.2.2 (ybelow_row (Below.refl X w5) (Nat.le_refl _) _), setRow_heap _ _ _ _ _ _ HXH5.out⟩
            have H6 := Lib.hid h6
            clear hW6 h6 HS HS5 HXH HXH5
            obtain ⟨NX, hNX⟩ : ∃ y, sumB V2 K0 = y := ⟨_, rfl⟩
            have hnl : NX.length = 16 := by rw [← hNX]; exact sumB_length _ _ 16 HML2.out HKL2.out
            have HSU := Lib.hid (show ∀ w, Calls Tryd.prog 83 #[.agg (yvs V2), .agg (yvs K0)] w fun e w' => e = .returned (.agg (yvs NX)) ∧ Below w.heap.size w w' from fun w => by rw [← hNX]; exact rsumb_any V2 K0 w HML2.out HKL2.out)
            have INX := Lib.hid (size_b16 NX hnl)
            have ENX := Lib.hid (show (yvs B).size = (yvs NX).size by rw [yvs_size, yvs_size, HCL.out, hnl])
            have IVL := Lib.hid (show (Tryd.prog.info? 70).map (·.size) = some (yvs V2).toList.length by rw [Array.length_toList]; exact IV2.out)
            have HNX := Lib.hid (show NX = atN T b (n + 1) by
              have hn := HN.out
              rw [atN, if_neg (by have := n14; omega), ← hNX, ← HV2.out, ← HVV.out, ← HBN.out, ← HKK.out]
              obtain ⟨m, rfl⟩ : ∃ m, n = m + 1 := ⟨n - 1, by omega⟩
              rfl)
            clear hNX hnl
            have HSS := Lib.hid (show ∀ W', Below W6.heap.size W6 W' → W'.rangeAt X 0 (yvs V2).toList ∧ W'.rangeAt PR (n * 16) (yvs K0).toList from fun W' h => ⟨(H6.out.2.below h (ylt H6.out.2)).all, HRK.out _ _ (H6.out.1.below h)⟩)
            try simp only [Act.put]
            refine wp_region_noPanic ?_
            refine wp_region_held_drew (S := fun w' => w'.rangeAt X 0 (yvs V2).toList ∧ w'.rangeAt PR (n * 16) (yvs K0).toList) (by kernel_rfl) (HSS.out _ (Below.refl _ W6).drew) (fun hHeld => ?_)
            refine wpAnyH_take (i := 0) (oi := ⟨some 52, _, _, _, _, _⟩) rfl (by kernel_rfl) (by decide +kernel) (by decide +kernel) (fun _ _ _ h => h) (yieldsIf_load_mid (by rfl) _ _ rfl (X) (0) rfl (yvs (V2)).toList _ (fun w' h => h.1) Tryd.underlying70 rfl IVL.out) (by assumption) ?_
            try simp only [Act.put, List.setIfInBounds_toArray, List.set_cons_zero, List.set_cons_succ, Array.toArray_toList]
            refine wpAnyH_take (i := 1) (oi := ⟨some 53, _, _, _, _, _⟩) (v := ?_) rfl (by kernel_rfl) (by decide +kernel) (by decide +kernel) (fun _ _ _ h => h) (Or.inl ⟨by rfl, ?_⟩) (by assumption) ?_
            rotate_left 1
            · (intro w' hSw; go_simp; try with_reducible rfl)
            try simp only [Act.put, List.setIfInBounds_toArray, List.set_cons_zero, List.set_cons_succ]
            refine wpAnyH_take (i := 2) (oi := ⟨some 54, _, _, _, _, _⟩) (v := ?_) rfl (by kernel_rfl) (by decide +kernel) (by decide +kernel) (fun _ _ _ h => h) (Or.inl ⟨by rfl, ?_⟩) (by assumption) ?_
            rotate_left 1
            · (intro w' hSw; go_simp; try with_reducible rfl)
            try simp only [Act.put, List.setIfInBounds_toArray, List.set_cons_zero, List.set_cons_succ]
            refine wpAnyH_take (i := 3) (oi := ⟨some 55, _, _, _, _, _⟩) rfl (by kernel_rfl) (by decide +kernel) (by decide +kernel) (fun _ _ _ h => h) (yieldsIf_load_mid (by rfl) _ _ rfl (PR) (n * 16) rfl (yvs (K0)).toList _ (fun w' h => h.2) Tryd.underlying70 rfl SKL.out) (by assumption) ?_
            try simp only [Act.put, List.setIfInBounds_toArray, List.set_cons_zero, List.set_cons_succ, Array.toArray_toList]
            clear hHeld
            refine wpAnyH_ready (rs := [4]) (by decide +kernel) (by simp) ?_
            refine AllReadyH.cons rfl (fun K hK => ?_) AllReadyH.nil
            go_simp
            go_at_call 83
            refine (HSU.out _).mono ?_
            rintro e w7 ⟨rfl, hb⟩
            have hb7 : Below W6.heap.size W6 w7 := (Below.refl _ W6).drew.trans hb
            have Q5 := Lib.hid (H6.out.1.below hb7)
            have QS := Lib.hid (HSS.out _ hb7)
            have QX := Lib.hid (H6.out.2.below hb7 (ylt H6.out.2))
            clear hb hb7
            go_wp2_with fail
            refine hK.out _ _ QS.out (fun hHeld => ?_)
            clear hK K hHeld
            try simp only [Act.put, List.setIfInBounds_toArray, List.set_cons_zero, List.set_cons_succ]
            refine wpAnyH_ready (rs := [5]) (by decide +kernel) (by simp) ?_
            refine AllReadyH.cons rfl (fun K hK => ?_) AllReadyH.nil
            rw [if_pos (by kernel_rfl)]
            refine wp_store_row (o := ⟨none, .store _ (.tmp 5) _, _, _, _, _⟩) 70 _ _ rfl (w.heap.size + 1 + 1) (yvs NX) rfl rfl 70 _ Q5.out.blk INX.out ENX.out (yvs_one _) ?_
            refine hK.out _ _ ⟨ArrY.all (t := 70) ((setRow_other _ _ _ _ (by have := H5.out.2.2; have := Q5.out.lo; omega)).trans QX.out), HRK.out _ _ (Q5.out.store _)⟩ (fun hHeld => ?_)
            clear hK K hHeld
            simp only [Act.put]
            refine wpAnyH_done (by decide +kernel) ?_ _
            refine NoPanic.normal ?_
            go_wp2_with fail
            go_roundw
            case rel => exact ⟨n + 1, by omega, by have := HN.out; omega, by go_num, by rw [← HNX.out]; exact Q5.out.store _⟩
            case measure => simp [intOf]; have := HN.out; omega
          · have n14 : (14 : Int) ≤ (n : Int) := by omega
            have HN14 := Lib.hid (show n = 14 by have := HN.out; omega)
            have H6 := Lib.hid HS.out
            obtain ⟨NX, hNX⟩ : ∃ y, sumB V K0 = y := ⟨_, rfl⟩
            have hnl : NX.length = 16 := by rw [← hNX]; exact sumB_length _ _ 16 HVL.out HKL2.out
            have HSU := Lib.hid (show ∀ w, Calls Tryd.prog 83 #[.agg (yvs V), .agg (yvs K0)] w fun e w' => e = .returned (.agg (yvs NX)) ∧ Below w.heap.size w w' from fun w => by rw [← hNX]; exact rsumb_any V K0 w HVL.out HKL2.out)
            have INX := Lib.hid (size_b16 NX hnl)
            have ENX := Lib.hid (show (yvs B).size = (yvs NX).size by rw [yvs_size, yvs_size, HCL.out, hnl])
            have IVL := Lib.hid (show (Tryd.prog.info? 70).map (·.size) = some (yvs V).toList.length by rw [Array.length_toList]; exact size_b16 V HVL.out)
            have HNX := Lib.hid (show NX = atN T b (n + 1) by
              rw [atN, if_pos (by have := HN14.out; omega), sealB, ← hNX, ← HVV.out, ← HBN.out, ← HKK.out, HN14.out])
            clear hNX hnl h14 HS
            go_wp2_with fail
            have HSS := Lib.hid (show ∀ W', Below wr.heap.size wr W' → W'.rangeAt X 0 (yvs V).toList ∧ W'.rangeAt PR (n * 16) (yvs K0).toList from fun W' h => ⟨(H6.out.2.below h (ylt H6.out.2)).all, HRK.out _ _ (H6.out.1.below h)⟩)
            try simp only [Act.put]
            refine wp_region_noPanic ?_
            refine wp_region_held_drew (S := fun w' => w'.rangeAt X 0 (yvs V).toList ∧ w'.rangeAt PR (n * 16) (yvs K0).toList) (by kernel_rfl) (HSS.out _ (Below.refl _ wr).drew) (fun hHeld => ?_)
            refine wpAnyH_take (i := 0) (oi := ⟨some 52, _, _, _, _, _⟩) rfl (by kernel_rfl) (by decide +kernel) (by decide +kernel) (fun _ _ _ h => h) (yieldsIf_load_mid (by rfl) _ _ rfl (X) (0) rfl (yvs (V)).toList _ (fun w' h => h.1) Tryd.underlying70 rfl IVL.out) (by assumption) ?_
            try simp only [Act.put, List.setIfInBounds_toArray, List.set_cons_zero, List.set_cons_succ, Array.toArray_toList]
            refine wpAnyH_take (i := 1) (oi := ⟨some 53, _, _, _, _, _⟩) (v := ?_) rfl (by kernel_rfl) (by decide +kernel) (by decide +kernel) (fun _ _ _ h => h) (Or.inl ⟨by rfl, ?_⟩) (by assumption) ?_
            rotate_left 1
            · (intro w' hSw; go_simp; try with_reducible rfl)
            try simp only [Act.put, List.setIfInBounds_toArray, List.set_cons_zero, List.set_cons_succ]
            refine wpAnyH_take (i := 2) (oi := ⟨some 54, _, _, _, _, _⟩) (v := ?_) rfl (by kernel_rfl) (by decide +kernel) (by decide +kernel) (fun _ _ _ h => h) (Or.inl ⟨by rfl, ?_⟩) (by assumption) ?_
            rotate_left 1
            · (intro w' hSw; go_simp; try with_reducible rfl)
            try simp only [Act.put, List.setIfInBounds_toArray, List.set_cons_zero, List.set_cons_succ]
            refine wpAnyH_take (i := 3) (oi := ⟨some 55, _, _, _, _, _⟩) rfl (by kernel_rfl) (by decide +kernel) (by decide +kernel) (fun _ _ _ h => h) (yieldsIf_load_mid (by rfl) _ _ rfl (PR) (n * 16) rfl (yvs (K0)).toList _ (fun w' h => h.2) Tryd.underlying70 rfl SKL.out) (by assumption) ?_
            try simp only [Act.put, List.setIfInBounds_toArray, List.set_cons_zero, List.set_cons_succ, Array.toArray_toList]
            clear hHeld
            refine wpAnyH_ready (rs := [4]) (by decide +kernel) (by simp) ?_
            refine AllReadyH.cons rfl (fun K hK => ?_) AllReadyH.nil
            go_simp
            go_at_call 83
            refine (HSU.out _).mono ?_
            rintro e w7 ⟨rfl, hb⟩
            have hb7 : Below wr.heap.size wr w7 := (Below.refl _ wr).drew.trans hb
            have Q5 := Lib.hid (H6.out.1.below hb7)
            have QS := Lib.hid (HSS.out _ hb7)
            have QX := Lib.hid (H6.out.2.below hb7 (ylt H6.out.2))
            clear hb hb7
            go_wp2_with fail
            refine hK.out _ _ QS.out (fun hHeld => ?_)
            clear hK K hHeld
            try simp only [Act.put, List.setIfInBounds_toArray, List.set_cons_zero, List.set_cons_succ]
            refine wpAnyH_ready (rs := [5]) (by decide +kernel) (by simp) ?_
            refine AllReadyH.cons rfl (fun K hK => ?_) AllReadyH.nil
            rw [if_pos (by kernel_rfl)]
            refine wp_store_row (o := ⟨none, .store _ (.tmp 5) _, _, _, _, _⟩) 70 _ _ rfl (w.heap.size + 1 + 1) (yvs NX) rfl rfl 70 _ Q5.out.blk INX.out ENX.out (yvs_one _) ?_
            refine hK.out _ _ ⟨ArrY.all (t := 70) ((setRow_other _ _ _ _ (by have := H5.out.2.2; have := Q5.out.lo; omega)).trans QX.out), HRK.out _ _ (Q5.out.store _)⟩ (fun hHeld => ?_)
            clear hK K hHeld
            simp only [Act.put]
            refine wpAnyH_done (by decide +kernel) ?_ _
            refine NoPanic.normal ?_
            go_wp2_with fail
            go_roundw
            case rel => exact ⟨n + 1, by omega, by have := HN.out; omega, by go_num, by rw [← HNX.out]; exact Q5.out.store _⟩
            case measure => simp [intOf]; have := HN.out; omega
    · have hn15 : n = 15 := by omega
      have hge : (15 : Int) ≤ (n : Int) := by omega
      rw [hn15] at hS
      have hfl := sealB_length T b HTL.out
      have hat : atN T b 15 = sealB T b := if_pos rfl
      rw [hat] at hS
      generalize hF : sealB T b = F at *
      have HF := Lib.hid hF
      have HA := Lib.hid (show wr.heap[w.heap.size + 1 + 1]? = some (.cells (yvs F) 70 (0, 0)) from hS.blk)
      have HR1 := Lib.hid (show wr.heap[w.heap.size + 1 + 1 + 1]? = some (.cells (yvs (zeroY 16)) 70 (0, 0)) from hS.ret)
      have SH := Lib.hid (size_b16 F hfl)
      have SE := Lib.hid (show (yvs (zeroY 16)).size = (yvs F).size by rw [yvs_size, yvs_size, hfl]; simp [zeroY])
      have HB2 := Lib.hid hS.bel
      clear hlt h1 h15 hS hn15 hfl hat hF
      go_wp2_with (first
        | (with_reducible refine wpList_load_row (o := ⟨some 57, _, _, _, _, _⟩) rfl 70 _ rfl (w.heap.size + 1 + 1) rfl 70 (yvs F) (0, 0) _ HA.out Tryd.underlying70 rfl SH.out ?_)
        | (with_reducible refine wpList_store_row (o := ⟨none, .store _ (.tmp 6) _, _, _, _, _⟩) rfl 70 _ _ rfl (w.heap.size + 1 + 1 + 1) (yvs F) rfl rfl 70 (yvs (zeroY 16)) HR1.out SH.out SE.out (yvs_one _) ?_))
      refine bodyPost_ret (v := .agg (yvs F)) (results_cell_row Tryd.results63 _ _ (w.heap.size + 1 + 1 + 1) 70 (yvs F) (0, 0) _ rfl (setRow_heap _ (w.heap.size + 1 + 1 + 1) _ (yvs F) _ _ HR1.out) Tryd.underlying70 rfl SH.out) rfl ⟨by rw [HF.out], ?_⟩
      exact ybelow_row HB2.out (by omega) _
end Go.Proofs.YtfgdddejpdjllaaDoor
