/-
  ctr's Made, and the stream's block of a number.
-/
import Derived.Test.YtajfooefofafmaaCLay
namespace Go.Proofs.Ytajfooefofafmaa
open Go.RowKit

theorem size_nonce (l : List (BitVec 8)) (h : l.length = 12) : (Try.prog.info? 30).map (·.size) = some (yvs l).size := by rw [show (Try.prog.info? 30).map (·.size) = some 12 by kernel_rfl, yvs_size, h]
theorem two_be (a c : Nat) : putL (putL (zeroY 12) 0 (beY 8 a)) 8 (beY 4 c) = beY 8 a ++ beY 4 c := by
  have h8 := beY_length 8 a
  have h4 := beY_length 4 c
  have e : putL (zeroY 12) 0 (beY 8 a) = beY 8 a ++ [0, 0, 0, 0] := by
    simp [putL, h8, zeroY]
  rw [e]
  simp [putL, h8, h4]
set_option maxRecDepth 100000 in
set_option maxHeartbeats 1600000 in
theorem made_any (a c : Nat) (w : World) (hc : c < 4294967296) :
    Calls Try.prog 12 #[.int .u64 (a : Int), .int .u32 (c : Int)] w fun e w' => e = .returned (.agg (yvs (beY 8 a ++ beY 4 c))) ∧ Below w.heap.size w w' := by
  have HT := Lib.hid (two_be a c)
  have HL := Lib.hid (show (beY 8 a ++ beY 4 c).length = 12 by simp [beY_length])
  have cI : (c : Int) < 4294967296 := by omega
  clear hc
  go_enter Try.func12, Try.ntmps12
  go_upto_region 2 with fail
  have htwo := ytwo w (.cells (yvs (zeroY 12)) 30) (.cells (yvs (zeroY 12)) 30)
  generalize hW0 : World.alloc (World.alloc w _) _ = W0
  have h0 : ArrY W0 w.heap.size 30 (zeroY 12) ∧ ArrY W0 (w.heap.size + 1) 30 (zeroY 12) ∧ Below w.heap.size w W0 := by
    rw [← hW0]; exact ⟨htwo.1, htwo.2.1, htwo.2.2.2⟩
  have H0 := Lib.hid h0
  clear htwo hW0 h0
  go_wp2_with fail
  refine (lay_any W0 (w.heap.size + 1) 30 0 8 12 a (zeroY 12) H0.out.2.1 (by simp [zeroY]) (by omega)).mono ?_
  rintro e w1 ⟨rfl, h1, o1⟩
  have H1 := Lib.hid (show ArrY w1 w.heap.size 30 (zeroY 12) ∧ ArrY w1 (w.heap.size + 1) 30 (putL (zeroY 12) 0 (beY 8 a)) ∧ Below w.heap.size w w1 from ⟨o1.arr H0.out.1 (by omega), h1, H0.out.2.2.trans (o1.bel _ (by omega))⟩)
  clear h1 o1 H0
  go_wp2_with fail
  refine (lay_any w1 (w.heap.size + 1) 30 8 4 4 c _ H1.out.2.1 (by rw [putL_length _ _ _ (by simp [beY_length, zeroY])]; simp [zeroY]) (by omega)).mono ?_
  rintro e w2 ⟨rfl, h2, o2⟩
  rw [HT.out] at h2
  have H2 := Lib.hid (show w2.heap[w.heap.size]? = some (.cells (yvs (zeroY 12)) 30 (0, 0)) ∧ w2.heap[w.heap.size + 1]? = some (.cells (yvs (beY 8 a ++ beY 4 c)) 30 (0, 0)) ∧ Below w.heap.size w w2 from ⟨o2.arr H1.out.1 (by omega), h2, H1.out.2.2.trans (o2.bel _ (by omega))⟩)
  have SH := Lib.hid (size_nonce _ HL.out)
  have SE := Lib.hid (show (yvs (zeroY 12)).size = (yvs (beY 8 a ++ beY 4 c)).size by rw [yvs_size, yvs_size, HL.out]; simp [zeroY])
  clear h2 o2 H1
  obtain ⟨N, hN⟩ : ∃ y, beY 8 a ++ beY 4 c = y := ⟨_, rfl⟩
  rw [hN] at H2 SH SE
  have HN := Lib.hid hN
  clear hN
  go_wp2_with (first
    | (with_reducible refine wpList_load_row (o := ⟨some 13, _, _, _, _, _⟩) rfl 30 _ rfl (w.heap.size + 1) rfl 30 (yvs N) (0, 0) _ H2.out.2.1 Try.underlying30 rfl SH.out ?_)
    | (with_reducible refine wpList_store_row (o := ⟨none, .store _ (.tmp 4) _, _, _, _, _⟩) rfl 30 _ _ rfl w.heap.size (yvs N) rfl rfl 30 (yvs (zeroY 12)) H2.out.1 SH.out SE.out (yvs_one _) ?_))
  refine bodyPost_ret (v := .agg (yvs N)) (results_cell_row Try.results12 _ _ w.heap.size 30 (yvs N) (0, 0) _ rfl (setRow_heap _ w.heap.size _ (yvs N) _ _ H2.out.1) Try.underlying30 rfl SH.out) rfl ⟨by rw [HN.out], ?_⟩
  exact ybelow_row H2.out.2.2 (Nat.le_refl _) _

theorem slice_n12 (g : Nat) (W : World) : (Instr.sliceAt 30 (.pointer (some ⟨g, 0, none⟩)) none none none).run Try.prog W = .ok (.slice (some ⟨g, 0, none⟩) 12 12) W := by
  obtain ⟨i0, hi0, _⟩ := Option.map_eq_some_iff.1 yone
  simp [Instr.sliceAt, run_underlying Try.underlying30, Instr.sureAddr, Instr.sliceBounds, sizeOf, typeInfo, hi0, Addr.add_mid]
theorem slice_b16 (g : Nat) (W : World) : (Instr.sliceAt 55 (.pointer (some ⟨g, 0, none⟩)) none none none).run Try.prog W = .ok (.slice (some ⟨g, 0, none⟩) 16 16) W := by
  obtain ⟨i0, hi0, _⟩ := Option.map_eq_some_iff.1 yone
  simp [Instr.sliceAt, run_underlying Try.underlying55, Instr.sureAddr, Instr.sliceBounds, sizeOf, typeInfo, hi0, Addr.add_mid]
theorem block_put (n : List (BitVec 8)) (hn : n.length = 12) (x : Nat) : putL (putL (zeroY 16) 0 n) 12 (beY 4 x) = n ++ beY 4 x := by
  have h4 := beY_length 4 x
  have e : putL (zeroY 16) 0 n = n ++ [0, 0, 0, 0] := by
    simp [putL, hn, zeroY]
  rw [e]
  simp [putL, hn, h4]
set_option maxRecDepth 100000 in
set_option maxHeartbeats 1600000 in
theorem blockOf_any (k n : List (BitVec 8)) (x : Nat) (w : World) (hk : k.length = 32) (hn : n.length = 12) (hx : x < 4294967296) :
    Calls Try.prog 31 #[.agg (yvs k), .agg (yvs n), .int .i64 (x : Int)] w fun e w' => e = .returned (.agg (yvs (sealB (keysL k) (n ++ beY 4 x)))) ∧ Below w.heap.size w w' := by
  have HT := Lib.hid (block_put n hn x)
  have HNL := Lib.hid hn
  have SK := Lib.hid (size_key k hk)
  have hbl : (n ++ beY 4 x).length = 16 := by simp [beY_length, hn]
  have HSE := Lib.hid (fun w => seal_any k (n ++ beY 4 x) w hk hbl)
  have SB := Lib.hid (size_block _ hbl)
  have hfl := sealB_length (keysL k) (n ++ beY 4 x) (keysL_length k hk)
  have xI : (x : Int) < 4294967296 := by omega
  obtain ⟨F, hF⟩ : ∃ y, sealB (keysL k) (n ++ beY 4 x) = y := ⟨_, rfl⟩
  rw [hF] at hfl HSE
  have HF := Lib.hid hF
  have SH := Lib.hid (size_block F hfl)
  have SE := Lib.hid (show (yvs (zeroY 16)).size = (yvs F).size by rw [yvs_size, yvs_size, hfl]; simp [zeroY])
  have hs1 := slice_b16 (w.heap.size + 1 + 1 + 1)
  have hs2 := slice_n12 (w.heap.size + 1)
  clear hk hn hx hbl hfl hF
  go_enter Try.func31, Try.ntmps31
  go_upto_region 2 with fail
  have h4 := zfour w (.cells (yvs k) 28) (.cells (yvs n) 30) (.cells (yvs (zeroY 16)) 55) (.cells (yvs (zeroY 16)) 55)
  generalize hW0 : World.alloc (World.alloc (World.alloc (World.alloc w _) _) _) _ = W0
  have h0 : ArrY W0 w.heap.size 28 k ∧ ArrY W0 (w.heap.size + 1) 30 n ∧ ArrY W0 (w.heap.size + 1 + 1) 55 (zeroY 16) ∧ ArrY W0 (w.heap.size + 1 + 1 + 1) 55 (zeroY 16) ∧ Below w.heap.size w W0 := by
    rw [← hW0]; exact ⟨h4.1, h4.2.1, h4.2.2.1, h4.2.2.2.1, h4.2.2.2.2.2⟩
  have H0 := Lib.hid h0
  have HA0 := Lib.hid (show W0.drew.heap[w.heap.size + 1 + 1 + 1]? = some (.cells (yvs (zeroY 16)).toList.toArray 55 (0, 0)) from h0.2.2.2.1)
  have HRG := Lib.hid (show ∀ j v, (yvs n).toList[j]? = some v → W0.drew.cell? ((⟨w.heap.size + 1, 0, none⟩ : Addr).add j) = some v from fun j v hv => by rw [Addr.add_mid]; exact h0.2.1.all j v hv)
  have HCP := Lib.hid (show (yvs n).toList.length = Nat.min 12 16 ∧ 0 + (yvs n).toList.length ≤ (yvs (zeroY 16)).toList.length ∧ ∀ v ∈ (yvs n).toList, v.oneCell' = true from
    ⟨by rw [Array.length_toList, yvs_size, HNL.out]; rfl, by rw [Array.length_toList, Array.length_toList, yvs_size, yvs_size, HNL.out]; simp [zeroY], fun v hv => Array.all_eq_true_iff_forall_mem.1 (yvs_one n) v (by simpa using hv)⟩)
  clear h4 hW0 h0
  go_region_held3 (fun _ => True) (exact trivial)
    ((refine ystep_copy rfl (.tmp 8) (.tmp 9) 32 32 (by rfl) 5 Try.underlying32 yone (w.heap.size + 1 + 1 + 1) 0 16 16 ⟨w.heap.size + 1, 0, none⟩ 12 12 (by rfl) (by rfl) (yvs (zeroY 16)).toList 55 HA0.out (yvs n).toList HCP.out.1 HRG.out HCP.out.2.1 HCP.out.2.2 ?_))
  rw [yvs_putL]
  clear hs1 hs2
  go_upto_region 3 with fail
  generalize hW1 : World.setRow _ (w.heap.size + 1 + 1 + 1) _ = W1
  have h1 : ArrY W1 w.heap.size 28 k ∧ ArrY W1 (w.heap.size + 1 + 1) 55 (zeroY 16) ∧ ArrY W1 (w.heap.size + 1 + 1 + 1) 55 (putL (zeroY 16) 0 n) ∧ Below w.heap.size w W1 := by
    rw [← hW1]
    exact ⟨(setRow_other _ _ _ _ (by omega)).trans H0.out.1, (setRow_other _ _ _ _ (by omega)).trans H0.out.2.2.1, setRow_heap _ _ _ _ _ _ HA0.out, ybelow_row H0.out.2.2.2.2.drew (by omega) _⟩
  have H1 := Lib.hid h1
  clear hW1 h1 H0 HA0 HRG HCP
  go_wp2_with fail
  refine (lay_any W1 (w.heap.size + 1 + 1 + 1) 55 12 4 4 x _ H1.out.2.2.1 (by rw [putL_length _ _ _ (by simp [zeroY, HNL.out])]; simp [zeroY]) (by omega)).mono ?_
  rintro e w2 ⟨rfl, h2, o2⟩
  rw [HT.out] at h2
  have H2 := Lib.hid (show w2.heap[w.heap.size]? = some (.cells (yvs k) 28 (0, 0)) ∧ ArrY w2 (w.heap.size + 1 + 1) 55 (zeroY 16) ∧ w2.heap[w.heap.size + 1 + 1 + 1]? = some (.cells (yvs (n ++ beY 4 x)) 55 (0, 0)) ∧ Below w.heap.size w w2 from
    ⟨o2.arr H1.out.1 (by omega), o2.arr H1.out.2.1 (by omega), h2, H1.out.2.2.2.trans (o2.bel _ (by omega))⟩)
  clear h2 o2 H1
  go_wp2_with (first
    | (with_reducible refine wpList_load_row (o := ⟨some 15, _, _, _, _, _⟩) rfl 28 _ rfl w.heap.size rfl 28 (yvs k) (0, 0) _ H2.out.1 Try.underlying28 rfl SK.out ?_)
    | (with_reducible refine wpList_load_row (o := ⟨some 16, _, _, _, _, _⟩) rfl 55 _ rfl (w.heap.size + 1 + 1 + 1) rfl 55 (yvs (n ++ beY 4 x)) (0, 0) _ H2.out.2.2.1 Try.underlying55 rfl SB.out ?_))
  refine (HSE.out _).mono ?_
  rintro e w3 ⟨rfl, hb3⟩
  have H3 := Lib.hid (show w3.heap[w.heap.size + 1 + 1]? = some (.cells (yvs (zeroY 16)) 55 (0, 0)) ∧ Below w.heap.size w w3 from ⟨H2.out.2.1.below hb3 (zlt H2.out.2.1), H2.out.2.2.2.trans (hb3.mono H2.out.2.2.2.size)⟩)
  clear hb3 H2
  go_wp2_with (first
    | (with_reducible refine wpList_store_row (o := ⟨none, .store _ (.tmp 6) _, _, _, _, _⟩) rfl 55 _ _ rfl (w.heap.size + 1 + 1) (yvs F) rfl rfl 55 (yvs (zeroY 16)) H3.out.1 SH.out SE.out (yvs_one _) ?_))
  refine bodyPost_ret (v := .agg (yvs F)) (results_cell_row Try.results31 _ _ (w.heap.size + 1 + 1) 55 (yvs F) (0, 0) _ rfl (setRow_heap _ (w.heap.size + 1 + 1) _ (yvs F) _ _ H3.out.1) Try.underlying55 rfl SH.out) rfl ⟨by rw [HF.out], ?_⟩
  exact ybelow_row H3.out.2 (by omega) _
end Go.Proofs.Ytajfooefofafmaa
