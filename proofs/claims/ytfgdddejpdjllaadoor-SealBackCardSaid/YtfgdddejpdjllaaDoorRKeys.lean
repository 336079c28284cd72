/-
  The reference's Rounds: a key's round keys.
-/
import Derived.Test.YtfgdddejpdjllaaDoorRCol
import Derived.Test.YtfgdddejpdjllaaDoorAes0
import Derived.StillTailTactics
import Derived.Deep.CutRange
namespace Go.Proofs.YtfgdddejpdjllaaDoor
set_option maxRecDepth 4000
open Go.RowKit

theorem zero_w60 (W : World) : (zeroValue 148).run Tryd.prog W = .ok (.agg (yvs (zeroY 240))) W := by kernel_rfl
theorem zero_r15 (W : World) : (zeroValue 137).run Tryd.prog W = .ok (.agg (yvs (zeroY 240))) W := by kernel_rfl
theorem info_r15 : (Tryd.prog.info? 137).map (·.size) = some 240 := by kernel_rfl
theorem size_r15 (l : List (BitVec 8)) (h : l.length = 240) : (Tryd.prog.info? 137).map (·.size) = some (yvs l).size := by rw [info_r15, yvs_size, h]
theorem slice_k26 (g i : Nat) (hi : i < 8) (W : World) : (Instr.sliceAt 24 (.pointer (some ⟨g, 0, none⟩)) (some (.int .i64 (4 * (i : Int)))) (some (.int .i64 (4 * (i : Int) + 4))) none).run Tryd.prog W = .ok (.slice (some ⟨g, i * 4, none⟩) 4 (32 - i * 4)) W := by
  obtain ⟨i0, hi0, hs⟩ := Option.map_eq_some_iff.1 yone
  have b1 := ybound_ok (i * 4 + 4) 32 .sliceAlen (by omega) W
  have b2 := ybound_ok (i * 4) (i * 4 + 4) .sliceB (by omega) W
  rw [show ((i * 4 + 4 : Nat) : Int) = 4 * (i : Int) + 4 by omega] at b1
  rw [show ((i * 4 : Nat) : Int) = 4 * (i : Int) by omega] at b2
  have h2 : ¬ 32 = i * 4 := by omega
  simp [Instr.sliceAt, run_underlying Tryd.underlying24, Instr.sureAddr, Instr.sliceBounds, sizeOf, typeInfo, hi0, hs, Addr.add_mid, b1, b2, h2]
theorem slice_w49 (g o : Nat) (W : World) : (Instr.sliceAt 111 (.pointer (some ⟨g, o, none⟩)) none none none).run Tryd.prog W = .ok (.slice (some ⟨g, o, none⟩) 4 4) W := by
  obtain ⟨i0, hi0, _⟩ := Option.map_eq_some_iff.1 yone
  simp [Instr.sliceAt, run_underlying Tryd.underlying111, Instr.sureAddr, Instr.sliceBounds, sizeOf, typeInfo, hi0, Addr.add_mid]
theorem slice_r27 (g d r : Nat) (hr : r < 16) (W : World) : (Instr.sliceAt 70 (.pointer (some ⟨g, d * 16, none⟩)) (some (.int .i64 (r : Int))) none none).run Tryd.prog W = .ok (.slice (some ⟨g, d * 16 + r, none⟩) (16 - r) (16 - r)) W := by
  obtain ⟨i0, hi0, hs⟩ := Option.map_eq_some_iff.1 yone
  have b := ybound_ok r 16 .sliceB (by omega) W
  have h2 : ¬ 16 = r := by omega
  simp [Instr.sliceAt, run_underlying Tryd.underlying70, Instr.sureAddr, Instr.sliceBounds, sizeOf, typeInfo, hi0, hs, Addr.add_mid, b, h2]
theorem ArrY.drewd {w : World} {g t : Nat} {l : List (BitVec 8)} (h : ArrY w g t l) : ArrY w.drew g t l := h
theorem put4_nil (x0 x1 x2 x3 a b c d : BitVec 8) : put4 [x0, x1, x2, x3] 0 a b c d = [a, b, c, d] := rfl
theorem pw_next : ∀ m, m < 7 → gm (pw m) 2 = pw (m + 1) := by decide +kernel
theorem size_w49 (l : List (BitVec 8)) (h : l.length = 4) : (Tryd.prog.info? 111).map (·.size) = some (yvs l).size := by rw [show (Tryd.prog.info? 111).map (·.size) = some 4 by kernel_rfl, yvs_size, h]
/-- What a copy of four bytes wants. -/
theorem copy4 {w : World} {g t : Nat} {L : List (BitVec 8)} (h : ArrY w g t L) (o : Nat) (ho : o + 4 ≤ L.length) :
    ∃ ys : List (BitVec 8), ys.length = 4 ∧ (∀ j, j < 4 → ys.getD j 0 = L.getD (o + j) 0) ∧ (∀ W : World, W.heap[g]? = w.heap[g]? → ∀ j v, (yvs ys).toList[j]? = some v → W.cell? ((⟨g, o, none⟩ : Addr).add j) = some v) ∧ (yvs ys).toList.length = 4 ∧ (∀ v ∈ (yvs ys).toList, v.oneCell' = true) := by
  refine ⟨(L.drop o).take 4, by simp; omega, fun j hj => ?_, fun W hW j v hv => ?_, by rw [Array.length_toList, yvs_size]; simp; omega, fun v hv => Array.all_eq_true_iff_forall_mem.1 (yvs_one _) v (by simpa using hv)⟩
  · have : o + j < L.length := by omega
    simp [List.getD, hj, this]
  · rw [Addr.add_mid]
    have h2 : ArrY W g t L := hW.trans h
    exact h2.range o 4 j v hv

/-- Behind the conditional the word in block X is what word i is summed of. -/
def Stepped (x0 x1 x2 x3 : BitVec 8) (i P0 X : Nat) (M : List (BitVec 8)) (W1 : World) (v7 : Value) (wx : World) : Prop :=
  v7 = .int .u8 (yv (pw ((i + 1 - 1) / 8))) ∧ ∃ s0 s1 s2 s3, stepW [x0, x1, x2, x3] i = [s0, s1, s2, s3] ∧ ArrY wx (P0 + 1 + 1 + 1) 148 M ∧ ArrY wx X 111 [s0, s1, s2, s3] ∧ Below (P0 + 1 + 1 + 1) W1 wx

set_option maxRecDepth 100000 in
set_option maxHeartbeats 6400000 in
theorem rrounds_any (k : List (BitVec 8)) (w : World) (hk : k.length = 32) :
    Calls Tryd.prog 82 #[.agg (yvs boxesL), .agg (yvs k)] w fun e w' => e = .returned (.agg (yvs (keysL k))) ∧ Below w.heap.size w w' := by
  have HKL := Lib.hid hk
  have hz := zero_w60
  have hz2 := zero_r15
  have zl : (zeroY 240).length = 240 := by simp [zeroY]
  obtain ⟨T, hT⟩ : ∃ T, keysL k = T := ⟨_, rfl⟩
  have HTL := Lib.hid (show T.length = 240 by rw [← hT]; exact keysL_length k hk)
  have HTK := Lib.hid (show ∀ j, j < 32 → T.getD j 0 = k.getD j 0 by rw [← hT]; exact keys_key k hk)
  have HTS := Lib.hid (show ∀ i j, 8 ≤ i → i < 60 → j < 4 → T.getD (4 * i + j) 0 = (stepW (tw T (i - 1)) i).getD j 0 ^^^ T.getD (4 * (i - 8) + j) 0 by rw [← hT]; exact keys_step k hk)
  rw [hT]
  have HBX := Lib.hid (show boxesL.length = 256 ∧ ∀ b : BitVec 8, boxesL.getD b.toNat 0 = sbox b from ⟨boxes_length, fun _ => rfl⟩)
  generalize boxesL = S at *
  generalize zeroY 240 = Z at *
  have ZL := Lib.hid zl
  clear hk hT zl
  go_enter Tryd.func82, Tryd.ntmps82
  go_upto_region 2 with fail
  obtain ⟨h0, h1, h2, hsz, hbel⟩ := ythree w (.cells (yvs S) 38) (.cells (yvs k) 24) (.cells (yvs Z) 137)
  have hX0 : ArrY _ w.heap.size 38 S := h0
  have hG0 : ArrY _ (w.heap.size + 1) 24 k := h1
  have hR0 : ArrY _ (w.heap.size + 1 + 1) 137 Z := h2
  generalize hW1 : World.alloc (World.alloc (World.alloc (World.alloc w _) _) _) _ = W1
  have h4 : ArrY W1 w.heap.size 38 S ∧ ArrY W1 (w.heap.size + 1) 24 k ∧ ArrY W1 (w.heap.size + 1 + 1) 137 Z ∧ ArrY W1 (w.heap.size + 1 + 1 + 1) 148 Z ∧ Below w.heap.size w W1 := by
    rw [← hW1]
    have hst := (Below.refl (((w.alloc (.cells (yvs S) 38)).alloc (.cells (yvs k) 24)).alloc (.cells (yvs Z) 137)).heap.size (((w.alloc (.cells (yvs S) 38)).alloc (.cells (yvs k) 24)).alloc (.cells (yvs Z) 137))).alloc (Nat.le_refl _) (.cells (yvs Z) 148)
    have hn := heap_alloc_new (((w.alloc (.cells (yvs S) 38)).alloc (.cells (yvs k) 24)).alloc (.cells (yvs Z) 137)) (.cells (yvs Z) 148)
    rw [hsz] at hn hst
    exact ⟨hX0.below hst (by omega), hG0.below hst (by omega), hR0.below hst (by omega), hn, hbel.trans (hst.mono (by omega))⟩
  obtain ⟨hX, hG, hR, hM, hB⟩ := h4
  have HX := Lib.hid (And.intro hX (And.intro hG hR))
  have HM := Lib.hid hM
  have HBW := Lib.hid hB
  clear hW1 h0 h1 h2 hsz hbel hX0 hG0 hR0 hX hG hR hM hB hz
  generalize hP0 : w.heap.size = P0 at *
  have HP0 := Lib.hid hP0
  clear hP0
  go_wp2_with fail
  go_loopw [6] (fun v6 wr => ∃ (i : Nat) (M : List (BitVec 8)), i ≤ 8 ∧ v6 = .int .i64 (i : Nat) ∧ M.length = 240 ∧ (∀ j, j < 4 * i → M.getD j 0 = T.getD j 0) ∧ ArrY wr (P0 + 1 + 1 + 1) 148 M ∧ Below (P0 + 1 + 1 + 1) W1 wr) (fun v _ => 8 - (intOf v).toNat)
  case atStart => exact ⟨0, Z, by omega, rfl, ZL.out, fun j hj => by omega, HM.out, Below.refl _ _⟩
  case round =>
    obtain ⟨i, M, hi, rfl, hML, hMT, hA, hb⟩ := hrel
    by_cases hlt : i < 8
    · have hG := HX.out.2.1.below hb (show P0 + 1 < P0 + 1 + 1 + 1 by omega)
      obtain ⟨ys, hyl, hyk, hysrc, hylen, hyone⟩ := copy4 hG (i * 4) (by rw [HKL.out]; omega)
      have HYT := Lib.hid (show ∀ j, j < 4 → ys.getD j 0 = T.getD (i * 4 + j) 0 from fun j hj => by rw [hyk j hj, HTK.out _ (by omega)])
      have HRG := Lib.hid (hysrc wr.drew rfl)
      have HCP := Lib.hid (show (yvs ys).toList.length = Nat.min 4 4 ∧ i * 4 + (yvs ys).toList.length ≤ (yvs M).toList.length ∧ ∀ v ∈ (yvs ys).toList, v.oneCell' = true from ⟨hylen, by rw [hylen, Array.length_toList, yvs_size, hML]; omega, hyone⟩)
      have HYL := Lib.hid hyl
      have hsl := slice_k26 (P0 + 1) i hlt
      have hsw := slice_w49 (P0 + 1 + 1 + 1) (i * 4)
      have HML := Lib.hid hML
      have HMT := Lib.hid hMT
      have HA := Lib.hid hA
      have HA0 := Lib.hid (show wr.drew.heap[P0 + 1 + 1 + 1]? = some (.cells (yvs M).toList.toArray 148 (0, 0)) from hA)
      have HB2 := Lib.hid hb
      have HLT := Lib.hid hlt
      have iI : (i : Int) < 8 := by omega
      have iI2 : (i : Int) < 60 := by omega
      have i0 : (0 : Int) ≤ (i : Int) := by omega
      have e1 : IntKind.i64.wrap (4 * (i : Int)) = 4 * (i : Int) := IntWalk.i64_in _ (by omega)
      have e2 : IntKind.i64.wrap (4 * (i : Int) + 4) = 4 * (i : Int) + 4 := IntWalk.i64_in _ (by omega)
      clear hi hlt hML hMT hA hb hG hyl hyk hysrc hylen hyone
      go_wp2_with fail
      go_region_held3 (fun _ => True) (exact trivial)
        ((refine ystep_copy rfl (.tmp 19) (.tmp 25) 22 22 (by rfl) 5 Tryd.underlying22 yone (P0 + 1 + 1 + 1) (i * 4) 4 4 ⟨P0 + 1, i * 4, none⟩ 4 (32 - i * 4) (by rfl) (by rfl) (yvs M).toList 148 HA0.out (yvs ys).toList HCP.out.1 HRG.out HCP.out.2.1 HCP.out.2.2 ?_))
      rw [yvs_putL]
      go_wp2_with fail
      go_roundw
      case rel =>
        have hY := HYL.out
        have hL := HML.out
        have hI := HLT.out
        obtain ⟨y0, y1, y2, y3, e4⟩ := four4 ys hY
        have ep : putL M (i * 4) ys = put4 M (i * 4) y0 y1 y2 y3 := by rw [e4, put4_putL _ _ _ _ _ _ (by omega)]
        refine ⟨i + 1, putL M (i * 4) ys, by omega, by go_num, by rw [ep, put4_length]; exact hL, ?_, setRow_heap wr.drew (P0 + 1 + 1 + 1) _ _ _ (0, 0) HA.out, ybelow_row HB2.out.drew (Nat.le_refl _) _⟩
        intro j hj
        rw [ep]
        by_cases h : j < 4 * i
        · rw [put4_below _ _ _ _ _ _ _ (by omega)]; exact HMT.out j h
        · obtain ⟨t, rfl⟩ : ∃ t, j = i * 4 + t := ⟨j - i * 4, by omega⟩
          rw [put4_at _ _ _ _ _ _ _ (by omega) (by omega), ← e4]
          exact HYT.out t (by omega)
      case measure => simp [intOf]; omega
    · have hge : (8 : Int) ≤ (i : Int) := by omega
      have HI8 := Lib.hid (show i = 8 by omega)
      have HML := Lib.hid hML
      have HMT := Lib.hid hMT
      have HA := Lib.hid hA
      have HB2 := Lib.hid hb
      clear hML hMT hA hb hlt hi
      go_wp2_with fail
      clear hge
      go_loopw [7, 8] (fun v7 v8 wr => ∃ (i : Nat) (M : List (BitVec 8)), 8 ≤ i ∧ i ≤ 60 ∧ v8 = .int .i64 (i : Nat) ∧ v7 = .int .u8 (yv (pw ((i - 1) / 8))) ∧ M.length = 240 ∧ (∀ j, j < 4 * i → M.getD j 0 = T.getD j 0) ∧ ArrY wr (P0 + 1 + 1 + 1) 148 M ∧ Below (P0 + 1 + 1 + 1) W1 wr) (fun _ v _ => 60 - (intOf v).toNat)
      case atStart => exact ⟨8, M, by omega, by omega, rfl, rfl, HML.out, by have := HMT.out; rwa [HI8.out] at this, HA.out, HB2.out⟩
      case round =>
        clear HI8 HML HMT HA HB2
        obtain ⟨i, M, h8, h60, rfl, rfl, hML, hMT, hA, hb⟩ := hrel
        by_cases hlt : i < 60
        · obtain ⟨p, ep, hp⟩ : ∃ p : Nat, IntKind.i64.wrap ((i : Int) - 1) = (p : Int) ∧ i = p + 1 := ⟨i - 1, by rw [IntWalk.i64_in _ (by omega)]; omega, by omega⟩
          obtain ⟨q, eq, hq⟩ : ∃ q : Nat, IntKind.i64.wrap ((i : Int) - 8) = (q : Int) ∧ i = q + 8 := ⟨i - 8, by rw [IntWalk.i64_in _ (by omega)]; omega, by omega⟩
          have c0 := hA.cell (k := p * 4) (by rw [hML]; omega)
          have c1 := hA.cell (k := p * 4 + 1) (by rw [hML]; omega)
          have c2 := hA.cell (k := p * 4 + 2) (by rw [hML]; omega)
          have c3 := hA.cell (k := p * 4 + 3) (by rw [hML]; omega)
          rw [hMT _ (by omega)] at c0 c1 c2 c3
          have HTN := Lib.hid (show ∀ j, j < 4 → T.getD (i * 4 + j) 0 = T.getD (q * 4 + j) 0 ^^^ (stepW [T.getD (p * 4) 0, T.getD (p * 4 + 1) 0, T.getD (p * 4 + 2) 0, T.getD (p * 4 + 3) 0] i).getD j 0 by
            intro j hj
            rw [show i * 4 = 4 * i by omega, HTS.out i j h8 hlt hj, show i - 1 = p by omega, show i - 8 = q by omega, show 4 * q = q * 4 by omega]
            unfold tw
            rw [show 4 * p = p * 4 by omega, BitVec.xor_comm])
          have HQ := Lib.hid (And.intro hp (And.intro hq (And.intro h8 hlt)))
          have pI : (p : Int) < 60 := by omega
          have p0 : (0 : Int) ≤ (p : Int) := by omega
          have qI : (q : Int) < 60 := by omega
          have q0 : (0 : Int) ≤ (q : Int) := by omega
          have iI : (i : Int) < 60 := by omega
          have i0 : (0 : Int) ≤ (i : Int) := by omega
          have HML := Lib.hid hML
          have HMT := Lib.hid hMT
          have HA := Lib.hid hA
          have HB2 := Lib.hid hb
          have HMP := Lib.hid (show (i - 1) / 8 = p / 8 by omega)
          rw [HMP.out]
          generalize T.getD (p * 4) 0 = x0 at *
          generalize T.getD (p * 4 + 1) 0 = x1 at *
          generalize T.getD (p * 4 + 2) 0 = x2 at *
          generalize T.getD (p * 4 + 3) 0 = x3 at *
          clear hML hMT hA hb hlt h8 h60 hp hq
          go_upto_region 11 with fail
          generalize hW2 : World.alloc wr _ = W2
          have h2 : ArrY W2 wr.heap.size 111 [x0, x1, x2, x3] ∧ ArrY W2 (P0 + 1 + 1 + 1) 148 M ∧ Below (P0 + 1 + 1 + 1) W1 W2 ∧ P0 + 1 + 1 + 1 < wr.heap.size := by
            have hs := (Below.refl wr.heap.size wr).alloc (Nat.le_refl _) (.cells #[.int .u8 (yv x0), .int .u8 (yv x1), .int .u8 (yv x2), .int .u8 (yv x3)] 111)
            rw [← hW2]
            exact ⟨heap_alloc_new wr _, HA.out.below hs (ylt HA.out), HB2.out.trans (hs.mono (Nat.le_of_lt (ylt HA.out))), ylt HA.out⟩
          obtain ⟨hxx, hww, hbb, hxb⟩ := h2
          have HXB := Lib.hid hxb
          have HW := Lib.hid (And.intro hww (And.intro hxx hbb))
          have HTC := Lib.hid (show ∀ b : BitVec 8, W2.cell? ⟨P0, b.toNat, none⟩ = some (.int .u8 (yv (sbox b))) from fun b => by
            have h := (HX.out.1.below hbb (show P0 < P0 + 1 + 1 + 1 by omega)).cell (k := b.toNat) (by rw [HBX.out.1]; exact b.isLt)
            rwa [HBX.out.2 b] at h)
          clear hW2 hxx hww hbb hxb c0 c1 c2 c3 HA HB2
          generalize wr.heap.size = X at *
          have tmod8 : (i : Int).tmod 8 = (i : Int) % 8 := Int.tmod_eq_emod_of_nonneg (by omega)
          go_upto_if 37 with fail
          go_cut [7] from 27 to 96 (fun v7 wx => Stepped x0 x1 x2 x3 i P0 X M W1 v7 wx)
          case first =>
            clear HTN HML HMT HMP
            by_cases m0 : i % 8 = 0
            · have n0 : (i : Int) % 8 = 0 := by omega
              have hm7 : p / 8 < 7 := by have := HQ.out; omega
              have HTM := Lib.hid (show ∀ w, Calls Tryd.prog 28 #[.int .u8 (yv (pw (p / 8))), .int .u8 2] w fun e w' => e = .returned (.int .u8 (yv (pw (p / 8 + 1)))) ∧ Below w.heap.size w w' from fun w => by
                have h := rtimes_any (pw (p / 8)) 2 w
                rw [pw_next _ hm7] at h
                exact h)
              have HPOW := Lib.hid (show Value.int .u8 (yv (pw (p / 8 + 1))) = .int .u8 (yv (pw ((i + 1 - 1) / 8))) by rw [show (i + 1 - 1) / 8 = p / 8 + 1 by have := HQ.out; omega])
              have HSW := Lib.hid (show stepW [x0, x1, x2, x3] i = [sbox x1 ^^^ pw (p / 8), sbox x2, sbox x3, sbox x0] by
                unfold stepW
                rw [if_pos m0, show i / 8 - 1 = p / 8 by have := HQ.out; omega]; rfl)
              have n0b : ((i : Int) % 8 == 0) = true := by simp [n0]
              have hxx := HW.out.2.1
              have c0 : W2.cell? ⟨X, 0, none⟩ = some (.int .u8 (yv x0)) := hxx.cell (k := 0) (show 0 < 4 by decide)
              have c1 : W2.cell? ⟨X, 1, none⟩ = some (.int .u8 (yv x1)) := hxx.cell (k := 1) (show 1 < 4 by decide)
              have c2 : W2.cell? ⟨X, 2, none⟩ = some (.int .u8 (yv x2)) := hxx.cell (k := 2) (show 2 < 4 by decide)
              have c3 : W2.cell? ⟨X, 3, none⟩ = some (.int .u8 (yv x3)) := hxx.cell (k := 3) (show 3 < 4 by decide)
              clear hxx
              have nx0 := yv_toNat x0
              have lx0 := yv_pos x0
              have ux0b := yv_lt x0
              have tx0 : W2.cell? ⟨P0, x0.toNat, none⟩ = some (.int .u8 (yv (sbox x0))) := HTC.out x0
              have nx1 := yv_toNat x1
              have lx1 := yv_pos x1
              have ux1b := yv_lt x1
              have tx1 : W2.cell? ⟨P0, x1.toNat, none⟩ = some (.int .u8 (yv (sbox x1))) := HTC.out x1
              have nx2 := yv_toNat x2
              have lx2 := yv_pos x2
              have ux2b := yv_lt x2
              have tx2 : W2.cell? ⟨P0, x2.toNat, none⟩ = some (.int .u8 (yv (sbox x2))) := HTC.out x2
              have nx3 := yv_toNat x3
              have lx3 := yv_pos x3
              have ux3b := yv_lt x3
              have tx3 : W2.cell? ⟨P0, x3.toNat, none⟩ = some (.int .u8 (yv (sbox x3))) := HTC.out x3
              have hx := yv_xor (sbox x1) (pw (p / 8))
              generalize pw (p / 8 + 1) = w2p at *
              generalize pw (p / 8) = wp at *
              have HHX := Lib.hid (show W2.drew.heap[X]? = some (.cells (yvs [x0, x1, x2, x3]) 111 (0, 0)) from HW.out.2.1)
              have SHX := Lib.hid (size_w49 [sbox x1 ^^^ wp, sbox x2, sbox x3, sbox x0] rfl)
              clear m0 hm7 n0 tmod8
              go_wp2_with fail
              clear n0b
              go_still_tail 19, (by kernel_rfl)
              refine wpList_store_row (w := W2.drew) (o := ⟨none, .store _ (.tmp 9) _, _, _, _, _⟩) rfl 111 _ _ rfl X (yvs [sbox x1 ^^^ wp, sbox x2, sbox x3, sbox x0]) rfl rfl 111 (yvs [x0, x1, x2, x3]) HHX.out SHX.out rfl (yvs_one _) ?_
              go_upto_region 13 with fail
              generalize hW3 : World.setRow _ X _ = W3
              have h3 : ArrY W3 (P0 + 1 + 1 + 1) 148 M ∧ ArrY W3 X 111 [sbox x1 ^^^ wp, sbox x2, sbox x3, sbox x0] ∧ Below (P0 + 1 + 1 + 1) W1 W3 := by
                rw [← hW3]
                exact ⟨(setRow_other _ _ _ _ (Nat.ne_of_lt HXB.out)).trans HW.out.1, setRow_heap _ _ _ _ _ _ HHX.out, ybelow_row HW.out.2.2.drew (Nat.le_of_lt HXB.out) _⟩
              have H3 := Lib.hid h3
              clear hW3 h3 hx c0 c1 c2 c3 nx0 lx0 ux0b tx0 nx1 lx1 ux1b tx1 nx2 lx2 ux2b tx2 nx3 lx3 ux3b tx3
              go_wp2_with fail
              refine (HTM.out _).mono ?_
              rintro e w4 ⟨rfl, hb4⟩
              have HI := Lib.hid (show ArrY w4 (P0 + 1 + 1 + 1) 148 M ∧ ArrY w4 X 111 [sbox x1 ^^^ wp, sbox x2, sbox x3, sbox x0] ∧ Below (P0 + 1 + 1 + 1) W1 w4 from
                ⟨H3.out.1.below hb4 (ylt H3.out.1), H3.out.2.1.below hb4 (ylt H3.out.2.1), H3.out.2.2.trans (hb4.mono (Nat.le_of_lt (ylt H3.out.1)))⟩)
              clear hb4 H3 HTM
              go_wp2_with fail
              go_meet
              case rel => exact ⟨HPOW.out, _, _, _, _, HSW.out, HI.out⟩
            · have n0 : ¬ (i : Int) % 8 = 0 := by omega
              have n0b : ((i : Int) % 8 == 0) = false := by simp [n0]
              have HPOW := Lib.hid (show Value.int .u8 (yv (pw (p / 8))) = .int .u8 (yv (pw ((i + 1 - 1) / 8))) by rw [show (i + 1 - 1) / 8 = p / 8 by have := HQ.out; omega])
              generalize pw (p / 8) = wp at *
              by_cases m4 : i % 8 = 4
              · have n4 : (i : Int) % 8 = 4 := by omega
                have n4b : ((i : Int) % 8 == 4) = true := by simp [n4]
                have HSW := Lib.hid (show stepW [x0, x1, x2, x3] i = [sbox x0, sbox x1, sbox x2, sbox x3] by unfold stepW; rw [if_neg m0, if_pos m4]; rfl)
                have hxx := HW.out.2.1
                have c0 : W2.cell? ⟨X, 0, none⟩ = some (.int .u8 (yv x0)) := hxx.cell (k := 0) (show 0 < 4 by decide)
                have c1 : W2.cell? ⟨X, 1, none⟩ = some (.int .u8 (yv x1)) := hxx.cell (k := 1) (show 1 < 4 by decide)
                have c2 : W2.cell? ⟨X, 2, none⟩ = some (.int .u8 (yv x2)) := hxx.cell (k := 2) (show 2 < 4 by decide)
                have c3 : W2.cell? ⟨X, 3, none⟩ = some (.int .u8 (yv x3)) := hxx.cell (k := 3) (show 3 < 4 by decide)
                clear hxx
                have nx0 := yv_toNat x0
                have lx0 := yv_pos x0
                have ux0b := yv_lt x0
                have tx0 : W2.cell? ⟨P0, x0.toNat, none⟩ = some (.int .u8 (yv (sbox x0))) := HTC.out x0
                have nx1 := yv_toNat x1
                have lx1 := yv_pos x1
                have ux1b := yv_lt x1
                have tx1 : W2.cell? ⟨P0, x1.toNat, none⟩ = some (.int .u8 (yv (sbox x1))) := HTC.out x1
                have nx2 := yv_toNat x2
                have lx2 := yv_pos x2
                have ux2b := yv_lt x2
                have tx2 : W2.cell? ⟨P0, x2.toNat, none⟩ = some (.int .u8 (yv (sbox x2))) := HTC.out x2
                have nx3 := yv_toNat x3
                have lx3 := yv_pos x3
                have ux3b := yv_lt x3
                have tx3 : W2.cell? ⟨P0, x3.toNat, none⟩ = some (.int .u8 (yv (sbox x3))) := HTC.out x3
                have HHX := Lib.hid (show W2.drew.heap[X]? = some (.cells (yvs [x0, x1, x2, x3]) 111 (0, 0)) from HW.out.2.1)
                have SHX := Lib.hid (size_w49 [sbox x0, sbox x1, sbox x2, sbox x3] rfl)
                clear m0 n0 n4 m4
                go_wp2_with fail
                clear n0b n4b tmod8
                go_still_tail 17, (by kernel_rfl)
                refine wpList_store_row (w := W2.drew) (o := ⟨none, .store _ (.tmp 9) _, _, _, _, _⟩) rfl 111 _ _ rfl X (yvs [sbox x0, sbox x1, sbox x2, sbox x3]) rfl rfl 111 (yvs [x0, x1, x2, x3]) HHX.out SHX.out rfl (yvs_one _) ?_
                go_wp2_with fail
                go_meet
                case rel => exact ⟨HPOW.out, _, _, _, _, HSW.out, (setRow_other _ _ _ _ (Nat.ne_of_lt HXB.out)).trans HW.out.1, setRow_heap _ _ _ _ _ _ HHX.out, ybelow_row HW.out.2.2.drew (Nat.le_of_lt HXB.out) _⟩
              · have n4 : ¬ (i : Int) % 8 = 4 := by omega
                have n4b : ((i : Int) % 8 == 4) = false := by simp [n4]
                have HSW := Lib.hid (show stepW [x0, x1, x2, x3] i = [x0, x1, x2, x3] by unfold stepW; rw [if_neg m0, if_neg m4]; rfl)
                clear m0 n0 n4 m4
                go_wp2_with fail
                go_meet
                case rel => exact ⟨HPOW.out, _, _, _, _, HSW.out, HW.out⟩
          case rest =>
            clear tmod8
            obtain ⟨hv7, s0, s1, s2, s3, hst, hI⟩ := hcut
            obtain ⟨wn, hwn⟩ : ∃ y, pw ((i + 1 - 1) / 8) = y := ⟨_, rfl⟩
            rw [hwn] at hv7
            subst hv7
            rw [hst] at HTN
            have HPOW := Lib.hid (show Value.int .u8 (yv wn) = .int .u8 (yv (pw ((i + 1 - 1) / 8))) by rw [hwn])
            have HI := Lib.hid hI
            clear hst hI HW HTC hwn
            go_wp2_with fail
            go_loopw [79] (fun v79 wr => ∃ j : Nat, j ≤ 4 ∧ v79 = .int .i64 (j : Nat) ∧ ArrY wr (P0 + 1 + 1 + 1) 148 (setF (fun t => i * 4 + t) (fun t => T.getD (i * 4 + t) 0) j M) ∧ ArrY wr X 111 [s0, s1, s2, s3] ∧ Below (P0 + 1 + 1 + 1) W1 wr) (fun v _ => 4 - (intOf v).toNat)
            case atStart => exact ⟨0, by omega, rfl, HI.out.1, HI.out.2.1, HI.out.2.2⟩
            case round =>
              obtain ⟨j, hj, rfl, hA, hXX, hb⟩ := hrel
              by_cases hlt : j < 4
              · have hL := HML.out
                have hQ := HQ.out
                have cq := hA.cell (k := q * 4 + j) (by rw [setF_length]; omega)
                rw [setF_other _ _ _ _ _ j (fun t ht => by omega), HMT.out _ (by omega)] at cq
                have cs := hXX.cell (k := j) (by simpa using hlt)
                have ci := hA.cell (k := i * 4 + j) (by rw [setF_length]; omega)
                have fi := hA.free (i * 4 + j)
                have hT := HTN.out j hlt
                have HSF := Lib.hid (show setF (fun t => i * 4 + t) (fun t => T.getD (i * 4 + t) 0) (j + 1) M = (setF (fun t => i * 4 + t) (fun t => T.getD (i * 4 + t) 0) j M).set (i * 4 + j) (T.getD (i * 4 + j) 0) from rfl)
                have hx := yv_xor (T.getD (q * 4 + j) 0) ([s0, s1, s2, s3].getD j 0)
                rw [← hT] at hx
                have HA3 := Lib.hid hA
                have HX3 := Lib.hid hXX
                have HB4 := Lib.hid hb
                have HLT := Lib.hid hlt
                have jI : (j : Int) < 4 := by omega
                have j0 : (0 : Int) ≤ (j : Int) := by omega
                generalize (setF (fun t => i * 4 + t) (fun t => T.getD (i * 4 + t) 0) j M).getD (i * 4 + j) 0 = old at *
                generalize [s0, s1, s2, s3].getD j 0 = s at *
                generalize T.getD (q * 4 + j) 0 = b at *
                generalize T.getD (i * 4 + j) 0 = y at *
                clear hL hQ hA hb hlt hj hT hXX
                go_wp2_with fail
                go_region
                go_wp2_with fail
                go_roundw
                case rel =>
                  exact ⟨j + 1, by have := HLT.out; omega, by go_num, by rw [HSF.out]; exact ArrY.set (w := wr) HA3.out (i * 4 + j) _, ArrY.other (w := wr) HX3.out _ _ (show X ≠ P0 + 1 + 1 + 1 by have := HXB.out; omega), (HB4.out.setCell (p := ⟨P0 + 1 + 1 + 1, i * 4 + j, none⟩) (Nat.le_refl _) _).drew⟩
                case measure => simp [intOf]; omega
              · have HJ := Lib.hid (show j = 4 by omega)
                have HA3 := Lib.hid hA
                have HB4 := Lib.hid hb
                have hge : (4 : Int) ≤ (j : Int) := by omega
                clear hA hb hlt hj hXX
                go_wp2_with fail
                go_roundw
                case rel =>
                  have h3 := HA3.out
                  rw [HJ.out] at h3
                  refine ⟨i + 1, _, by have := HQ.out; omega, by have := HQ.out; omega, by go_num, HPOW.out, by rw [setF_length]; exact HML.out, ?_, h3, HB4.out⟩
                  intro t ht
                  have hL := HML.out
                  have hQ := HQ.out
                  by_cases h : t < 4 * i
                  · rw [setF_other _ _ _ _ _ 4 (fun r hr => by omega)]; exact HMT.out t h
                  · obtain ⟨r, rfl⟩ : ∃ r, t = i * 4 + r := ⟨t - i * 4, by omega⟩
                    exact setF_at4 (i * 4) (fun t => T.getD t 0) _ r 4 (by omega) (by omega)
                case measure => simp [intOf]; have := HQ.out; omega
        · have HI60 := Lib.hid (show i = 60 by omega)
          have hge : (60 : Int) ≤ (i : Int) := by omega
          have hMeq : M = T := by
            apply List.ext_getElem (by rw [hML, HTL.out])
            intro j h1 h2
            have := hMT j (by omega)
            simpa [List.getD, h1, h2] using this
          have hAT : ArrY wr (P0 + 1 + 1 + 1) 148 T := by rw [← hMeq]; exact hA
          generalize pw ((i - 1) / 8) = wp at *
          have HW := Lib.hid (And.intro hAT hb)
          clear hlt h8 h60 hML hMT hA hb hMeq hAT
          go_upto_region 22 with fail
          generalize hW2 : World.alloc wr _ = W2
          have h2 : ArrY W2 wr.heap.size 137 Z ∧ ArrY W2 (P0 + 1 + 1 + 1) 148 T ∧ Below (P0 + 1 + 1 + 1) W1 W2 ∧ P0 + 1 + 1 + 1 < wr.heap.size := by
            have hs := (Below.refl wr.heap.size wr).alloc (Nat.le_refl _) (.cells (yvs Z) 137)
            rw [← hW2]
            exact ⟨heap_alloc_new wr _, HW.out.1.below hs (ylt HW.out.1), HW.out.2.trans (hs.mono (Nat.le_of_lt (ylt HW.out.1))), ylt HW.out.1⟩
          have H2 := Lib.hid h2
          clear hW2 h2 HW hz2
          generalize wr.heap.size = O at *
          go_wp2_with fail
          clear hge
          go_loopw [97] (fun v97 wr => ∃ (i : Nat) (R : List (BitVec 8)), i ≤ 60 ∧ v97 = .int .i64 (i : Nat) ∧ R.length = 240 ∧ (∀ j, j < 4 * i → R.getD j 0 = T.getD j 0) ∧ ArrY wr O 137 R ∧ Below O W2 wr) (fun v _ => 60 - (intOf v).toNat)
          case atStart => exact ⟨0, Z, by omega, rfl, ZL.out, fun j hj => by omega, H2.out.1, Below.refl _ _⟩
          case round =>
            obtain ⟨i, R, hi, rfl, hRL, hRT, hA, hb⟩ := hrel
            by_cases hlt : i < 60
            · obtain ⟨d, hd, hd2⟩ : ∃ d : Nat, (i : Int) / 4 = (d : Int) ∧ i / 4 = d := ⟨i / 4, by omega, rfl⟩
              obtain ⟨r, hr, hr2⟩ : ∃ r : Nat, 4 * ((i : Int) % 4) = (r : Int) ∧ 4 * (i % 4) = r := ⟨4 * (i % 4), by omega, rfl⟩
              have eo : d * 16 + r = i * 4 := by omega
              have hG := H2.out.2.1.below hb H2.out.2.2.2
              obtain ⟨ys, hyl, hyk, hysrc, hylen, hyone⟩ := copy4 hG (i * 4) (by rw [HTL.out]; omega)
              have HYT := Lib.hid hyk
              have HRG := Lib.hid (hysrc wr.drew rfl)
              have HCP := Lib.hid (show (yvs ys).toList.length = Nat.min 4 (16 - r) ∧ i * 4 + (yvs ys).toList.length ≤ (yvs R).toList.length ∧ ∀ v ∈ (yvs ys).toList, v.oneCell' = true from ⟨by rw [hylen]; exact (Nat.min_eq_left (by omega)).symm, by rw [hylen, Array.length_toList, yvs_size, hRL]; omega, hyone⟩)
              have HYL := Lib.hid hyl
              have hsl := slice_r27 O d r (by omega)
              rw [eo] at hsl
              have hsw := slice_w49 (P0 + 1 + 1 + 1) (i * 4)
              have HRL := Lib.hid hRL
              have HRT := Lib.hid hRT
              have HA := Lib.hid hA
              have HA0 := Lib.hid (show wr.drew.heap[O]? = some (.cells (yvs R).toList.toArray 137 (0, 0)) from hA)
              have HB2 := Lib.hid hb
              have HLT := Lib.hid hlt
              have iI : (i : Int) < 60 := by omega
              have i0 : (0 : Int) ≤ (i : Int) := by omega
              have dI : (d : Int) < 15 := by omega
              have d0 : (0 : Int) ≤ (d : Int) := by omega
              have rI : (r : Int) < 16 := by omega
              have r0 : (0 : Int) ≤ (r : Int) := by omega
              have e0 : (i : Int).tdiv 4 = (d : Int) := by rw [Int.tdiv_eq_ediv_of_nonneg (by omega)]; exact hd
              have e1 : (i : Int).tmod 4 = (i : Int) % 4 := Int.tmod_eq_emod_of_nonneg (by omega)
              have e2 : IntKind.i64.wrap (4 * ((i : Int) % 4)) = (r : Int) := by rw [hr]; exact IntWalk.i64_in _ (by omega)
              have e3 : IntKind.i64.wrap (r : Int) = (r : Int) := IntWalk.i64_in _ (by omega)
              have e4 : IntKind.i64.wrap (d : Int) = (d : Int) := IntWalk.i64_in _ (by omega)
              clear hi hlt hRL hRT hA hb hG hyl hyk hysrc hylen hyone hd2 hr2 eo
              go_wp2_with fail
              go_region_held3 (fun _ => True) (exact trivial)
                ((refine ystep_copy rfl (.tmp 106) (.tmp 109) 22 22 (by rfl) 5 Tryd.underlying22 yone O (i * 4) (16 - r) (16 - r) ⟨P0 + 1 + 1 + 1, i * 4, none⟩ 4 4 (by rfl) (by rfl) (yvs R).toList 137 HA0.out (yvs ys).toList HCP.out.1 HRG.out HCP.out.2.1 HCP.out.2.2 ?_))
              rw [yvs_putL]
              go_wp2_with fail
              go_roundw
              case rel =>
                have hY := HYL.out
                have hL := HRL.out
                have hI := HLT.out
                obtain ⟨y0, y1, y2, y3, e4⟩ := four4 ys hY
                have ep : putL R (i * 4) ys = put4 R (i * 4) y0 y1 y2 y3 := by rw [e4, put4_putL _ _ _ _ _ _ (by omega)]
                refine ⟨i + 1, putL R (i * 4) ys, by omega, by go_num, by rw [ep, put4_length]; exact hL, ?_, setRow_heap wr.drew O _ _ _ (0, 0) HA.out, ybelow_row HB2.out.drew (Nat.le_refl _) _⟩
                intro j hj
                rw [ep]
                by_cases h : j < 4 * i
                · rw [put4_below _ _ _ _ _ _ _ (by omega)]; exact HRT.out j h
                · obtain ⟨t, rfl⟩ : ∃ t, j = i * 4 + t := ⟨j - i * 4, by omega⟩
                  rw [put4_at _ _ _ _ _ _ _ (by omega) (by omega), ← e4]
                  exact HYT.out t (by omega)
              case measure => simp [intOf]; omega
            · have hge : (60 : Int) ≤ (i : Int) := by omega
              have hReq : R = T := by
                apply List.ext_getElem (by rw [hRL, HTL.out])
                intro j h1 h2
                have := hRT j (by omega)
                simpa [List.getD, h1, h2] using this
              have HA := Lib.hid (show wr.heap[O]? = some (.cells (yvs T) 137 (0, 0)) by rw [← hReq]; exact hA)
              have HR1 := Lib.hid (show wr.heap[P0 + 1 + 1]? = some (.cells (yvs Z) 137 (0, 0)) from (HX.out.2.2.below H2.out.2.2.1 (by omega)).below hb (by have := H2.out.2.2.2; omega))
              have SH := Lib.hid (size_r15 T HTL.out)
              have SE := Lib.hid (show (yvs Z).size = (yvs T).size by rw [yvs_size, yvs_size, HTL.out, ZL.out])
              have HB2 := Lib.hid (HBW.out.trans ((H2.out.2.2.1.trans (hb.mono (Nat.le_of_lt H2.out.2.2.2))).mono (show P0 ≤ P0 + 1 + 1 + 1 by omega)))
              clear hlt hA hb hRL hRT hReq hi H2
              go_wp2_with (first
                | (with_reducible refine wpList_load_row (o := ⟨some 112, _, _, _, _, _⟩) rfl 137 _ rfl O rfl 137 (yvs T) (0, 0) _ HA.out Tryd.underlying137 rfl SH.out ?_)
                | (with_reducible refine wpList_store_row (o := ⟨none, .store _ (.tmp 4) _, _, _, _, _⟩) rfl 137 _ _ rfl (P0 + 1 + 1) (yvs T) rfl rfl 137 (yvs Z) HR1.out SH.out SE.out (yvs_one _) ?_))
              refine bodyPost_ret (v := .agg (yvs T)) (results_cell_row Tryd.results82 _ _ (P0 + 1 + 1) 137 (yvs T) (0, 0) _ rfl (setRow_heap _ (P0 + 1 + 1) _ (yvs T) _ _ HR1.out) Tryd.underlying137 rfl SH.out) rfl ⟨rfl, ?_⟩
              rw [HP0.out]
              exact ybelow_row HB2.out (by omega) _
end Go.Proofs.YtfgdddejpdjllaaDoor
