/-
  ctr's Stream.
-/
import Derived.Test.YtajfooefofafmaaCMade
namespace Go.Proofs.Ytajfooefofafmaa
open Go.RowKit

set_option maxRecDepth 100000 in
set_option maxHeartbeats 1600000 in
theorem stream_bad (k n : List (BitVec 8)) (f s : Int) (w : World) (hf : f ≤ 9223372036854775807) (hs : s ≤ 9223372036854775807) (hbad : f < 0 ∨ 65536 < f ∨ s < 0 ∨ 65536 < s) :
    Calls Try.prog 13 #[.agg (yvs k), .agg (yvs n), .int .i64 f, .int .i64 s] w fun e w' => e = .returned (.tuple #[.slice none 0 0, .int .i64 2]) ∧ Below w.heap.size w w' := by
  have HB := Lib.hid (ytwo w (.cells (yvs k) 28) (.cells (yvs n) 30)).2.2.2
  by_cases h1 : f < 0
  · clear hbad
    go_enter Try.func13, Try.ntmps13
    go_wp2_with fail
    go_ret2
    exact ⟨rfl, HB.out⟩
  by_cases h2 : 65536 < f
  · clear hbad
    go_enter Try.func13, Try.ntmps13
    go_wp2_with fail
    go_ret2
    exact ⟨rfl, HB.out⟩
  by_cases h3 : s < 0
  · clear hbad
    go_enter Try.func13, Try.ntmps13
    go_wp2_with fail
    go_ret2
    exact ⟨rfl, HB.out⟩
  have h4 : 65536 < s := by omega
  clear hbad
  go_enter Try.func13, Try.ntmps13
  go_wp2_with fail
  go_ret2
  exact ⟨rfl, HB.out⟩

theorem slice_from (g d n : Nat) (h : d < n) (W : World) : (Instr.slice 32 (.slice (some ⟨g, 0, none⟩) n n) (some (.int .i64 (d : Int))) none none).run Try.prog W = .ok (.slice (some ⟨g, d, none⟩) (n - d) (n - d)) W := by
  obtain ⟨i0, hi0, hs⟩ := Option.map_eq_some_iff.1 yone
  have b := ybound_ok d n .sliceB (by omega) W
  have h2 : ¬ n = d := by omega
  simp [Instr.slice, run_underlying Try.underlying32, Instr.sliceBounds, sizeOf, typeInfo, hi0, hs, Addr.add_mid, b, h2]
theorem slice_block (g r : Nat) (hr : r < 16) (W : World) : (Instr.sliceAt 55 (.pointer (some ⟨g, 0, none⟩)) (some (.int .i64 (r : Int))) none none).run Try.prog W = .ok (.slice (some ⟨g, r, none⟩) (16 - r) (16 - r)) W := by
  have h := slice_round g 0 r hr W
  simpa using h
theorem info_byte : (Try.prog.info? 5).map (fun i => (i.zero, i.size, i.bytes)) = some (some (.int .u8 0), 1, 1) := by kernel_rfl
theorem make_bytes (n : Nat) (h : n ≤ 100000000) (w : World) : (Instr.makeSlice 32 (.int .i64 (n : Int)) (.int .i64 (n : Int))).run Try.prog w = .ok (.slice (some ⟨w.heap.size, 0, none⟩) n n) (w.alloc (.cells (yvs (zeroY n)) 5)) := by
  rw [run_make_row' 32 5 (.int .u8 0) 1 Try.underlying32 info_byte rfl .i64 .i64 n (by omega) (by omega) w, made_zero]
theorem min_facts (a b c : Nat) (h : Nat.min a b = c) (ha : 0 < a) (hb : 0 < b) : c ≤ a ∧ c ≤ b ∧ 0 < c := by
  subst h; exact ⟨Nat.min_le_left _ _, Nat.min_le_right _ _, Nat.lt_min.2 ⟨ha, hb⟩⟩
theorem putL_at {M ys : List (BitVec 8)} {o j : Nat} (h : o + ys.length ≤ M.length) (hj : j < ys.length) : (putL M o ys).getD (o + j) 0 = ys.getD j 0 := by
  have h1 : o ≤ M.length := by omega
  simp only [putL, List.getD]
  rw [List.append_assoc, List.getElem?_append_right (by simp; omega), List.getElem?_append_left (by simp; omega)]
  simp [Nat.min_eq_left h1]
theorem putL_before {M ys : List (BitVec 8)} {o j : Nat} (h : o ≤ M.length) (hj : j < o) : (putL M o ys).getD j 0 = M.getD j 0 := by
  simp only [putL, List.getD]
  rw [List.append_assoc, List.getElem?_append_left (by simp; omega)]
  simp [hj]

set_option maxRecDepth 100000 in
set_option maxHeartbeats 800000 in
theorem stream_ok (k n : List (BitVec 8)) (f s : Nat) (w : World) (hk : k.length = 32) (hn : n.length = 12) (hf : f ≤ 65536) (hs : s ≤ 65536) :
    Calls Try.prog 13 #[.agg (yvs k), .agg (yvs n), .int .i64 (f : Int), .int .i64 (s : Int)] w fun e w' => e = .returned (.tuple #[.slice (some ⟨w.heap.size + 1 + 1, 0, none⟩) s s, .int .i64 0]) ∧ ArrY w' (w.heap.size + 1 + 1) 5 (strL (keysL k) n f s) ∧ Below w.heap.size w w' := by
  have HKL := Lib.hid hk
  have HNL := Lib.hid hn
  have SK := Lib.hid (size_key k hk)
  have SN := Lib.hid (size_nonce n hn)
  have hmk := make_bytes s (by omega)
  have fI : (f : Int) ≤ 65536 := by omega
  have sI : (s : Int) ≤ 65536 := by omega
  have d1 : decide ((f : Int) < 0) = false := by simp
  have d2 : decide ((65536 : Int) < (f : Int)) = false := by simp; omega
  have d3 : decide ((s : Int) < 0) = false := by simp
  have d4 : decide ((65536 : Int) < (s : Int)) = false := by simp; omega
  have HFS := Lib.hid (And.intro hf hs)
  clear hk hn hf hs
  go_enter Try.func13, Try.ntmps13
  go_upto_region 4 with fail
  clear hmk d1 d2 d3 d4
  have h3 := ythree w (.cells (yvs k) 28) (.cells (yvs n) 30) (.cells (yvs (zeroY s)) 5)
  generalize hW0 : World.alloc (World.alloc (World.alloc w _) _) _ = W0
  have h0 : ArrY W0 w.heap.size 28 k ∧ ArrY W0 (w.heap.size + 1) 30 n ∧ ArrY W0 (w.heap.size + 1 + 1) 5 (zeroY s) ∧ Below w.heap.size w W0 := by
    rw [← hW0]; exact ⟨h3.1, h3.2.1, h3.2.2.1, h3.2.2.2.2⟩
  have H0 := Lib.hid h0
  clear h3 hW0 h0
  obtain ⟨T, hT⟩ : ∃ y, keysL k = y := ⟨_, rfl⟩
  have hTL : T.length = 240 := by rw [← hT]; exact keysL_length k HKL.out
  have HC := Lib.hid (show ∀ (x : Nat) (w : World), x < 4294967296 → Calls Try.prog 31 #[.agg (yvs k), .agg (yvs n), .int .i64 (x : Int)] w fun e w' => e = .returned (.agg (yvs (sealB T (n ++ beY 4 x)))) ∧ Below w.heap.size w w' from fun (x : Nat) (w : World) hx => by rw [← hT]; exact blockOf_any k n x w HKL.out HNL.out hx)
  have HTK := Lib.hid hT
  have HTL := Lib.hid hTL
  clear hT hTL
  generalize hP0 : w.heap.size = P0 at *
  have HP0 := Lib.hid hP0
  clear hP0
  go_wp2_with fail
  go_loopw [11] (fun v11 wr => ∃ (d : Nat) (R : List (BitVec 8)), d ≤ s ∧ v11 = .int .i64 (d : Nat) ∧ R.length = s ∧ (∀ j, j < d → R.getD j 0 = strB T n (f + j)) ∧ ArrY wr (P0 + 1 + 1) 5 R ∧ Below (P0 + 1 + 1) W0 wr) (fun v _ => s - (intOf v).toNat)
  case atStart => exact ⟨0, zeroY s, by omega, rfl, by simp [zeroY], fun j hj => by omega, H0.out.2.2.1, Below.refl _ _⟩
  case round =>
    obtain ⟨d, R, hd, rfl, hRL, hRT, hA, hb⟩ := hrel
    by_cases hlt : d < s
    · obtain ⟨p, hp, hp2⟩ : ∃ p : Nat, (f : Int) + (d : Int) = (p : Int) ∧ f + d = p := ⟨f + d, by omega, rfl⟩
      obtain ⟨q, hq, hq2⟩ : ∃ q : Nat, (p : Int) / 16 = (q : Int) ∧ p / 16 = q := ⟨p / 16, by omega, rfl⟩
      obtain ⟨r, hr, hr2⟩ : ∃ r : Nat, (p : Int) % 16 = (r : Int) ∧ p % 16 = r := ⟨p % 16, by omega, rfl⟩
      have hfs := HFS.out
      have HC1 := Lib.hid (fun w => HC.out q w (by omega))
      have hbl := sealB_length T (n ++ beY 4 q) HTL.out
      have HSB := Lib.hid (show ∀ j, j < 16 - r → (sealB T (n ++ beY 4 q)).getD (r + j) 0 = strB T n (p + j) from fun j hj => by
        unfold strB
        rw [show (p + j) / 16 = q by omega, show (p + j) % 16 = r + j by omega])
      generalize sealB T (n ++ beY 4 q) = B at *
      have HBL := Lib.hid hbl
      have SB := Lib.hid (size_block B hbl)
      have EB := Lib.hid (show (yvs (zeroY 16)).size = (yvs B).size by rw [yvs_size, yvs_size, hbl]; simp [zeroY])
      have HK := Lib.hid (show wr.heap[P0]? = some (.cells (yvs k) 28 (0, 0)) from H0.out.1.below hb (by omega))
      have HN := Lib.hid (show wr.heap[P0 + 1]? = some (.cells (yvs n) 30 (0, 0)) from H0.out.2.1.below hb (by omega))
      have HP := Lib.hid (And.intro hp2 (And.intro hq2 (And.intro hr2 hlt)))
      have HRL := Lib.hid hRL
      have HRT := Lib.hid hRT
      have HA := Lib.hid hA
      have HB2 := Lib.hid hb
      have dI : (d : Int) < (s : Int) := by omega
      have pI : (p : Int) ≤ 131072 := by omega
      have p0 : (0 : Int) ≤ (p : Int) := by omega
      clear hd hlt hRL hRT hA hb hp2 hq2 hr2 hfs hbl
      go_wp2_with (first
        | (with_reducible refine wpList_load_row (o := ⟨some 36, _, _, _, _, _⟩) rfl 28 _ rfl P0 rfl 28 (yvs k) (0, 0) _ HK.out Try.underlying28 rfl SK.out ?_)
        | (with_reducible refine wpList_load_row (o := ⟨some 37, _, _, _, _, _⟩) rfl 30 _ rfl (P0 + 1) rfl 30 (yvs n) (0, 0) _ HN.out Try.underlying30 rfl SN.out ?_))
      refine (HC1.out _).mono ?_
      rintro e w4 ⟨rfl, hb4⟩
      have H4 := Lib.hid (show ArrY w4 (P0 + 1 + 1) 5 R ∧ Below (P0 + 1 + 1) W0 w4 from ⟨HA.out.below hb4 (zlt HA.out), HB2.out.trans (hb4.mono (Nat.le_of_lt (zlt HA.out)))⟩)
      clear hb4 HK HN HA HB2 HC1
      go_upto_region 8 with (first
        | (with_reducible refine wpList_store_row (o := ⟨none, .store _ (.tmp 13) _, _, _, _, _⟩) rfl 55 _ _ rfl w4.heap.size (yvs B) rfl rfl 55 (yvs (zeroY 16)) (heap_alloc_new w4 _) SB.out EB.out (yvs_one _) ?_))
      generalize hW5 : World.setRow _ w4.heap.size _ = W5
      have h5 : ArrY W5 (P0 + 1 + 1) 5 R ∧ ArrY W5 w4.heap.size 55 B ∧ Below (P0 + 1 + 1) W0 W5 ∧ P0 + 1 + 1 < w4.heap.size := by
        obtain ⟨e1, e2, e3⟩ := ygen_row (w := w4) (old := yvs (zeroY 16)) (cs := yvs B) (T := 55)
        rw [← hW5]
        exact ⟨H4.out.1.below e3 (zlt H4.out.1), e1, H4.out.2.trans (e3.mono (Nat.le_of_lt (zlt H4.out.1))), zlt H4.out.1⟩
      have H5 := Lib.hid h5
      clear hW5 h5 H4
      generalize w4.heap.size = X at *
      obtain ⟨c, hc⟩ : ∃ c, Nat.min (16 - r) (s - d) = c := ⟨_, rfl⟩
      have hpq := HP.out
      have hc1 : c ≤ 16 - r ∧ c ≤ s - d ∧ 0 < c := min_facts _ _ _ hc (by omega) (by omega)
      have hbl := HBL.out
      obtain ⟨ys, hys⟩ : ∃ ys, (B.drop r).take c = ys := ⟨_, rfl⟩
      have hyl : ys.length = c := by rw [← hys]; simp [hbl]; omega
      have HYT := Lib.hid (show ∀ j, j < c → ys.getD j 0 = strB T n (p + j) from fun j hj => by
        rw [← HSB.out j (by omega), ← hys]
        have : r + j < B.length := by omega
        simp [List.getD, hj, this])
      have hrg := H5.out.2.1.range r c
      rw [hys] at hrg
      have HRG := Lib.hid (show ∀ j v, (yvs ys).toList[j]? = some v → W5.drew.cell? ((⟨X, r, none⟩ : Addr).add j) = some v from fun j v hv => by rw [Addr.add_mid]; exact hrg j v hv)
      have hcl : (yvs ys).toList.length = c := by rw [Array.length_toList, yvs_size, hyl]
      have HCP := Lib.hid (show (yvs ys).toList.length = Nat.min (16 - r) (s - d) ∧ d + (yvs ys).toList.length ≤ (yvs R).toList.length ∧ ∀ v ∈ (yvs ys).toList, v.oneCell' = true from
        ⟨by rw [hcl, hc], by rw [hcl, Array.length_toList, yvs_size, HRL.out]; omega, fun v hv => Array.all_eq_true_iff_forall_mem.1 (yvs_one ys) v (by simpa using hv)⟩)
      have HA0 := Lib.hid (show W5.drew.heap[P0 + 1 + 1]? = some (.cells (yvs R).toList.toArray 5 (0, 0)) from H5.out.1)
      have hsl := slice_from (P0 + 1 + 1) d s (by omega)
      have hsb := slice_block X r (by omega)
      have HY := Lib.hid (And.intro hyl hc1)
      have HCL := Lib.hid hcl
      have hwm : (p : Int).tmod 16 = (r : Int) := by rw [Int.tmod_eq_emod_of_nonneg (by omega)]; exact hr
      have rI : (r : Int) < 16 := by omega
      have r0 : (0 : Int) ≤ (r : Int) := by omega
      have HWS := Lib.hid (show IntKind.i64.wrap ((d : Int) + ((yvs ys).size : Int)) = ((d + c : Nat) : Int) by rw [yvs_size, hyl, IntWalk.i64_in _ (by omega)]; omega)
      clear hpq hc hc1 hbl hys hyl hrg hcl hq hp
      go_region_held3 (fun _ => True) (exact trivial)
        ((refine ystep_copy rfl (.tmp 44) (.tmp 47) 32 32 (by rfl) 5 Try.underlying32 yone (P0 + 1 + 1) d (s - d) (s - d) ⟨X, r, none⟩ (16 - r) (16 - r) (by rfl) (by rfl) (yvs R).toList 5 HA0.out (yvs ys).toList HCP.out.1 HRG.out HCP.out.2.1 HCP.out.2.2 ?_))
      rw [yvs_putL, HWS.out]
      clear hsl hsb hwm hr
      go_wp2_with fail
      go_roundw
      case rel =>
        have hY := HY.out
        have hL := HRL.out
        have hP := HP.out
        refine ⟨d + c, putL R d ys, by omega, rfl, by rw [putL_length _ _ _ (by omega)]; exact hL, ?_, setRow_heap W5.drew (P0 + 1 + 1) _ _ _ (0, 0) HA0.out, ybelow_row H5.out.2.2.1.drew (Nat.le_refl _) _⟩
        intro j hj
        by_cases h : j < d
        · rw [putL_before (by omega) h]; exact HRT.out j h
        · obtain ⟨t, rfl⟩ : ∃ t, j = d + t := ⟨j - d, by omega⟩
          rw [show f + (d + t) = p + t by omega, putL_at (by omega) (by omega), HYT.out t (by omega)]
      case measure =>
        have hY := HY.out
        have hP := HP.out
        simp [intOf]; omega
    · obtain rfl : d = s := by omega
      have hReq : R = strL T n f d := by
        apply List.ext_getElem (by rw [hRL, strL_length])
        intro j h1 h2
        have h := hRT j (by omega)
        rw [← strL_at T n f d j (by omega)] at h
        simpa [List.getD, h1, h2] using h
      rw [hReq] at hA
      have HA := Lib.hid hA
      have HB2 := Lib.hid (H0.out.2.2.2.trans (hb.mono (show P0 ≤ P0 + 1 + 1 by omega)))
      clear hRL hRT hA hb hReq hd hlt
      go_wp2_with fail
      go_ret2
      exact ⟨by rw [HP0.out]; rfl, by rw [HP0.out, HTK.out]; exact HA.out, by rw [HP0.out]; exact HB2.out⟩
end Go.Proofs.Ytajfooefofafmaa
