/-
  The reference of layer 5: Made, Stream, Crypt.
-/
import Derived.Test.YtfgdddejpdjllaaDoorCRef
import Derived.StillTailTactics
namespace Go.Proofs.YtfgdddejpdjllaaDoor
set_option maxRecDepth 4000
open Go.RowKit

theorem own_below5 {B n k : Nat} {e : TypeId} {v : Value} {xs : List Value} {w w' : World} (h : w.ownsRow B e k v n xs) (hb : Below w.heap.size w w') : w'.ownsRow B e k v n xs :=
  h.kept (row := none) ⟨hb.os, hb.tape, hb.output, hb.size, fun j hj _ => hb.block j hj⟩ (by by_cases q : v.ownBlock = none; exact .inl q; exact .inr q)
theorem size_c12 (l : List (BitVec 8)) (h : l.length = 12) : (Tryd.prog.info? 64).map (·.size) = some (yvs l).size := size_n12 l h

set_option maxRecDepth 100000 in
set_option maxHeartbeats 1600000 in
theorem rmade_any5 (a c : Nat) (w : World) (ha : a < 18446744073709551616) (hc : c < 4294967296) :
    Calls Tryd.prog 32 #[.int .u64 (a : Int), .int .u32 (c : Int)] w fun e w' => e = .returned (.agg (yvs (beY 8 a ++ beY 4 c))) ∧ Below w.heap.size w w' := by
  have hc1 := fun w => rbytes_any5 a 8 w (by omega) (by omega)
  have hc2 := fun w => rbytes_any5 c 4 w (by omega) (by omega)
  have l8 := beY_length 8 a
  have l4 := beY_length 4 c
  obtain ⟨N, hN⟩ : ∃ y, beY 8 a ++ beY 4 c = y := ⟨_, rfl⟩
  rw [hN]
  generalize beY 8 a = A8 at *
  generalize beY 4 c = C4 at *
  have hl : N.length = 12 := by rw [← hN]; simp [l8, l4]
  have HC1 := Lib.hid hc1
  have HC2 := Lib.hid hc2
  have HLA := Lib.hid (And.intro l8 (And.intro l4 hN))
  have HL := Lib.hid hl
  have HCP := Lib.hid (show (yvs N).toList.length = Nat.min 12 12 ∧ 0 + (yvs N).toList.length ≤ (yvs (zeroY 12)).toList.length ∧ ∀ v ∈ (yvs N).toList, v.oneCell' = true from
    ⟨by rw [Array.length_toList, yvs_size, hl]; rfl, by rw [Array.length_toList, Array.length_toList, yvs_size, yvs_size, hl]; simp [zeroY], fun v hv => Array.all_eq_true_iff_forall_mem.1 (yvs_one _) v (by simpa using hv)⟩)
  have HT := Lib.hid (show putL (zeroY 12) 0 N = N by simp [putL, hl, zeroY])
  have SH := Lib.hid (size_n12 _ hl)
  have SE := Lib.hid (show (yvs (zeroY 12)).size = (yvs N).size by rw [yvs_size, yvs_size, hl]; simp [zeroY])
  clear hc1 hc2 l8 l4 hN hl
  have hs6 := slice_u12 (w.heap.size + 1)
  have cI : (c : Int) < 4294967296 := by omega
  clear ha hc
  go_enter Tryd.func32, Tryd.ntmps32
  go_upto_region 2 with fail
  have htwo := ytwo w (.cells (yvs (zeroY 12)) 64) (.cells (yvs (zeroY 12)) 64)
  generalize hW0 : World.alloc (World.alloc w _) _ = W0
  have h0 : ArrY W0 w.heap.size 64 (zeroY 12) ∧ ArrY W0 (w.heap.size + 1) 64 (zeroY 12) ∧ Below w.heap.size w W0 := by
    rw [← hW0]; exact ⟨htwo.1, htwo.2.1, htwo.2.2.2⟩
  have H0 := Lib.hid h0
  clear htwo hW0 h0
  try simp only [Act.put]
  refine wp_region_noPanic ?_
  refine wp_region_held_drew (S := fun _ => True) (by kernel_rfl) trivial (fun hHeld => ?_)
  refine wpAnyH_take (i := 0) (oi := ⟨some 6, _, _, _, _, _⟩) (v := ?_) rfl (by kernel_rfl) (by decide +kernel) (by decide +kernel) (fun _ _ _ h => h) (Or.inl ⟨by rfl, ?_⟩) (by assumption) ?_
  rotate_left 1
  · (intro w' hSw; go_simp; try with_reducible rfl)
  try simp only [Act.put, List.setIfInBounds_toArray, List.set_cons_zero, List.set_cons_succ]
  refine wpAnyH_take (i := 1) (oi := ⟨some 7, _, _, _, _, _⟩) (v := ?_) rfl (by kernel_rfl) (by decide +kernel) (by decide +kernel) (fun _ _ _ h => h) (Or.inl ⟨by rfl, ?_⟩) (by assumption) ?_
  rotate_left 1
  · (intro w' hSw; go_simp; try with_reducible rfl)
  try simp only [Act.put, List.setIfInBounds_toArray, List.set_cons_zero, List.set_cons_succ]
  refine wpAnyH_take (i := 3) (oi := ⟨some 9, _, _, _, _, _⟩) (v := ?_) rfl (by kernel_rfl) (by decide +kernel) (by decide +kernel) (fun _ _ _ h => h) (Or.inl ⟨by rfl, ?_⟩) (by assumption) ?_
  rotate_left 1
  · (intro w' hSw; go_simp; try with_reducible rfl)
  try simp only [Act.put, List.setIfInBounds_toArray, List.set_cons_zero, List.set_cons_succ]
  have hwc : IntKind.u64.wrap (c : Int) = (c : Int) := by rw [IntKind.wrap_u64]; omega
  refine wpAnyH_take (i := 4) (oi := ⟨some 10, _, _, _, _, _⟩) (v := ?_) rfl (by kernel_rfl) (by decide +kernel) (by decide +kernel) (fun _ _ _ h => h) (Or.inl ⟨by rfl, ?_⟩) (by assumption) ?_
  rotate_left 1
  · (intro w' hSw; go_simp; try with_reducible rfl)
  try simp only [Act.put, List.setIfInBounds_toArray, List.set_cons_zero, List.set_cons_succ]
  clear hwc
  refine wpAnyH_ready (rs := [2]) (by decide +kernel) (by simp) ?_
  refine AllReadyH.cons rfl (fun K hK => ?_) AllReadyH.nil
  go_simp
  go_at_call 49
  refine (HC1.out _).mono ?_
  rintro e w3 ⟨rfl, hA3, hb3⟩
  have HA3 := Lib.hid (show ArrY w3 W0.heap.size 5 A8 ∧ Below W0.heap.size W0 w3 from ⟨hA3, (Below.refl _ W0).drew.trans hb3⟩)
  clear hA3 hb3 hHeld
  go_wp2_with fail
  refine hK.out _ _ trivial (fun hHeld => ?_)
  clear hK K
  try simp only [Act.put, List.setIfInBounds_toArray, List.set_cons_zero, List.set_cons_succ]
  refine wpAnyH_ready (rs := [5]) (by decide +kernel) (by simp) ?_
  refine AllReadyH.cons rfl (fun K hK => ?_) AllReadyH.nil
  go_simp
  go_at_call 49
  refine (HC2.out _).mono ?_
  rintro e w4 ⟨rfl, hA4, hb4⟩
  have HA4 := Lib.hid (show ArrY w4 W0.heap.size 5 A8 ∧ ArrY w4 w3.heap.size 5 C4 ∧ Below W0.heap.size W0 w4 from ⟨HA3.out.1.below hb4 (zlt HA3.out.1), hA4, HA3.out.2.trans (hb4.mono HA3.out.2.size)⟩)
  clear hA4 hb4 hHeld
  go_wp2_with fail
  refine hK.out _ _ trivial (fun hHeld => ?_)
  clear hK K
  try simp only [Act.put, List.setIfInBounds_toArray, List.set_cons_zero, List.set_cons_succ]
  clear hHeld
  obtain ⟨v5, w5, hr5, ho5, hg5⟩ := run_append_Y w4 W0.heap.size 8 (.slice (some ⟨W0.heap.size, 0, none⟩) 8 8) (.slice (some ⟨w3.heap.size, 0, none⟩) 4 4) _ (C4.map yv) (own_of_arr5 HA4.out.1 (Nat.le_refl _) HLA.out.1 (by unfold maxLen; omega)) (BS.of_arr0 (n := 4) (cap := 4) HA4.out.2.1 HLA.out.2.1) (by rw [List.length_map, HLA.out.2.1]; omega) HA4.out.2.2.size
  refine wpAnyH_ready (rs := [6]) (by decide +kernel) (by simp) ?_
  refine AllReadyH.cons rfl (fun K hK => ?_) AllReadyH.nil
  rw [if_pos (by kernel_rfl)]
  refine wp_append_Y (o := ⟨some 12, _, _, _, _, _⟩) (.tmp 8) (.tmp 11) 22 22 rfl _ _ _ _ rfl rfl hr5 ?_
  refine hK.out _ _ trivial (fun hHeld => ?_)
  clear hK K
  try simp only [Act.put, List.setIfInBounds_toArray, List.set_cons_zero, List.set_cons_succ]
  have hlen : 8 + (C4.map yv).length = 12 := by rw [List.length_map, HLA.out.2.1]
  rw [hlen, ← List.map_append, ← List.map_append, HLA.out.2.2] at ho5
  obtain ⟨a5, cap5, rfl, h5, _, B5⟩ := own_bytes ho5 HL.out
  obtain ⟨ad, rfl, hsrc⟩ := bs_src B5 (by rw [HL.out]; omega)
  have hb5 := (show Below W0.heap.size W0 w4 from HA4.out.2.2).grown hg5 HA4.out.2.2.size (by intro k hk; simp [Value.ownBlock] at hk; omega)
  have HD := Lib.hid (show w5.heap[w.heap.size + 1]? = some (.cells (yvs (zeroY 12)).toList.toArray 64 (0, 0)) from (H0.out.2.1).below hb5 (zlt H0.out.2.1))
  have HR5 := Lib.hid (show ArrY w5 w.heap.size 64 (zeroY 12) ∧ Below w.heap.size w w5 from ⟨H0.out.1.below hb5 (zlt H0.out.1), H0.out.2.2.trans (hb5.mono H0.out.2.2.size)⟩)
  have HSRC := Lib.hid hsrc
  clear hHeld hr5 ho5 hg5 B5 hb5 hsrc hlen
  refine wpAnyH_ready (rs := [7]) (by decide +kernel) (by simp) ?_
  refine AllReadyH.cons rfl (fun K hK => ?_) AllReadyH.nil
  refine ystep_copy (o := ⟨some 13, _, _, _, _, _⟩) rfl (.tmp 6) (.tmp 12) 22 22 (by rfl) 5 Tryd.underlying22 yone (w.heap.size + 1) 0 12 12 ad 12 cap5 (by rfl) (by rfl) (yvs (zeroY 12)).toList 64 HD.out (yvs N).toList HCP.out.1 HSRC.out HCP.out.2.1 HCP.out.2.2 ?_
  rw [yvs_putL]
  refine hK.out _ _ trivial (fun hHeld => ?_)
  clear hK K
  try simp only [Act.put, List.setIfInBounds_toArray, List.set_cons_zero, List.set_cons_succ]
  clear hHeld
  refine wpAnyH_done (by decide +kernel) ?_ _
  refine NoPanic.normal ?_
  clear hs6 cI
  rw [HT.out]
  go_upto_region 3 with fail
  generalize hW6 : World.setRow _ (w.heap.size + 1) _ = W6
  have h6 : W6.heap[w.heap.size]? = some (.cells (yvs (zeroY 12)) 64 (0, 0)) ∧ W6.heap[w.heap.size + 1]? = some (.cells (yvs N) 64 (0, 0)) ∧ Below w.heap.size w W6 := by
    rw [← hW6]
    exact ⟨(setRow_other _ _ _ _ (by omega)).trans HR5.out.1, setRow_heap _ _ _ _ _ _ HD.out, ybelow_row HR5.out.2 (by omega) _⟩
  have H6 := Lib.hid h6
  clear hW6 h6 HD HR5
  go_wp2_with (first
    | (with_reducible refine wpList_load_row (o := ⟨some 14, _, _, _, _, _⟩) rfl 64 _ rfl (w.heap.size + 1) rfl 64 (yvs N) (0, 0) _ H6.out.2.1 Tryd.underlying64 rfl SH.out ?_)
    | (with_reducible refine wpList_store_row (o := ⟨none, .store _ (.tmp 4) _, _, _, _, _⟩) rfl 64 _ _ rfl w.heap.size (yvs N) rfl rfl 64 (yvs (zeroY 12)) H6.out.1 SH.out SE.out (yvs_one _) ?_))
  refine bodyPost_ret (v := .agg (yvs N)) (results_cell_row Tryd.results32 _ _ w.heap.size 64 (yvs N) (0, 0) _ rfl (setRow_heap _ w.heap.size _ (yvs N) _ _ H6.out.1) Tryd.underlying64 rfl SH.out) rfl ⟨rfl, ?_⟩
  exact ybelow_row H6.out.2.2 (Nat.le_refl _) _

theorem slice_c16 (g : Nat) (W : World) : (Instr.sliceAt 70 (.pointer (some ⟨g, 0, none⟩)) none none none).run Tryd.prog W = .ok (.slice (some ⟨g, 0, none⟩) 16 16) W := by
  obtain ⟨i0, hi0, _⟩ := Option.map_eq_some_iff.1 yone
  simp [Instr.sliceAt, run_underlying Tryd.underlying70, Instr.sureAddr, Instr.sliceBounds, sizeOf, typeInfo, hi0, Addr.add_mid]
theorem slice_c4 (g : Nat) (W : World) : (Instr.sliceAt 70 (.pointer (some ⟨g, 0, none⟩)) (some (.int .i64 12)) none none).run Tryd.prog W = .ok (.slice (some ⟨g, 12, none⟩) 4 4) W := by
  obtain ⟨i0, hi0, hs⟩ := Option.map_eq_some_iff.1 yone
  have b : (Instr.sliceBound (.int .i64 12) 16 .sliceB).run Tryd.prog W = .ok 12 W := ybound_ok 12 16 .sliceB (by omega) W
  simp [Instr.sliceAt, run_underlying Tryd.underlying70, Instr.sureAddr, Instr.sliceBounds, sizeOf, typeInfo, hi0, hs, Addr.add_mid, b]
theorem strL_more (T n : List (BitVec 8)) (hT : T.length = 240) (q c : Nat) : strL T n (16 * q) (16 * c) ++ sealB T (n ++ beY 4 (q + c)) = strL T n (16 * q) (16 * (c + 1)) := by
  have h1 := strL_drop T n (16 * q) (16 * c) 16
  have h2 := strL_take T n (16 * q) (16 * c + 16) (16 * c) (by omega)
  rw [show 16 * q + 16 * c = 16 * (q + c) by omega, strL_block T n hT] at h1
  rw [show 16 * (c + 1) = 16 * c + 16 by omega, ← h1, ← h2, List.take_append_drop]
theorem strL_part (T n : List (BitVec 8)) (f s c : Nat) (h : f % 16 + s ≤ 16 * c) : ((strL T n (16 * (f / 16)) (16 * c)).drop (f % 16)).take s = strL T n f s := by
  obtain ⟨d, hd⟩ : ∃ d, 16 * c = f % 16 + d := ⟨16 * c - f % 16, by omega⟩
  rw [hd, strL_drop, show 16 * (f / 16) + f % 16 = f by omega, strL_take _ _ _ _ _ (by omega)]

set_option maxRecDepth 100000 in
set_option maxHeartbeats 1600000 in
theorem rstream_bad (S k n : List (BitVec 8)) (f s : Int) (w : World) (hf : f ≤ 9223372036854775807) (hs : s ≤ 9223372036854775807) (hbad : f < 0 ∨ 65536 < f ∨ s < 0 ∨ 65536 < s) :
    Calls Tryd.prog 48 #[.agg (yvs S), .agg (yvs k), .agg (yvs n), .int .i64 f, .int .i64 s] w fun e w' => e = .returned (.tuple #[.slice none 0 0, .int .i64 2]) ∧ Below w.heap.size w w' := by
  have HB := Lib.hid (ythree w (.cells (yvs S) 38) (.cells (yvs k) 24) (.cells (yvs n) 64)).2.2.2.2
  by_cases h1 : f < 0
  · clear hbad
    go_enter Tryd.func48, Tryd.ntmps48
    go_wp2_with fail
    go_ret2
    exact ⟨rfl, HB.out⟩
  by_cases h2 : 65536 < f
  · clear hbad
    go_enter Tryd.func48, Tryd.ntmps48
    go_wp2_with fail
    go_ret2
    exact ⟨rfl, HB.out⟩
  by_cases h3 : s < 0
  · clear hbad
    go_enter Tryd.func48, Tryd.ntmps48
    go_wp2_with fail
    go_ret2
    exact ⟨rfl, HB.out⟩
  have h4 : 65536 < s := by omega
  clear hbad
  go_enter Tryd.func48, Tryd.ntmps48
  go_wp2_with fail
  go_ret2
  exact ⟨rfl, HB.out⟩

/-- What the reference's Stream, and Crypt, answer. -/
def SliceOf (w : World) (l : List (BitVec 8)) (s : Nat) (e : Ending) (w' : World) : Prop := ∃ a cap, e = .returned (.tuple #[.slice a s cap, .int .i64 0]) ∧ BS w' (.slice a s cap) (l.map yv) ∧ s ≤ cap ∧ Below w.heap.size w w'
set_option maxRecDepth 100000 in
set_option maxHeartbeats 3200000 in
theorem rstream_ok (k n : List (BitVec 8)) (f s : Nat) (w : World) (hk : k.length = 32) (hn : n.length = 12) (hf : f ≤ 65536) (hs : s ≤ 65536) :
    Calls Tryd.prog 48 #[.agg (yvs boxesL), .agg (yvs k), .agg (yvs n), .int .i64 (f : Int), .int .i64 (s : Int)] w (SliceOf w (strL (keysL k) n f s) s) := by
  have HNL := Lib.hid hn
  have HKL := Lib.hid hk
  obtain ⟨T, hT⟩ : ∃ y, keysL k = y := ⟨_, rfl⟩
  have hTL : T.length = 240 := by rw [← hT]; exact keysL_length k hk
  have hsl := fun b w (hb : b.length = 16) => rseal_any k b w hk hb
  rw [hT] at hsl
  have HTT := Lib.hid hT
  have HTL := Lib.hid hTL
  have hbl := boxes_length
  obtain ⟨S, hS⟩ : ∃ y, boxesL = y := ⟨_, rfl⟩
  rw [hS] at hbl hsl
  rw [hS]
  have HSE := Lib.hid hsl
  have IS := Lib.hid (size_t256 S hbl)
  have SK := Lib.hid (size_k32 k hk)
  have SN := Lib.hid (size_n12 n hn)
  have fI : (f : Int) ≤ 65536 := by omega
  have sI : (s : Int) ≤ 65536 := by omega
  have d1 : decide ((f : Int) < 0) = false := by simp
  have d2 : decide ((65536 : Int) < (f : Int)) = false := by simp; omega
  have d3 : decide ((s : Int) < 0) = false := by simp
  have d4 : decide ((65536 : Int) < (s : Int)) = false := by simp; omega
  have HFS := Lib.hid (And.intro hf hs)
  obtain ⟨q, hq, hq2⟩ : ∃ q : Nat, (f : Int) / 16 = (q : Int) ∧ f / 16 = q := ⟨f / 16, by omega, rfl⟩
  have HQ := Lib.hid hq2
  clear hk hn hf hs hT hTL hsl hbl hS hq2
  go_enter Tryd.func48, Tryd.ntmps48
  go_upto_region 3 with fail
  clear d1 d2 d3 d4
  have h3 := ythree w (.cells (yvs S) 38) (.cells (yvs k) 24) (.cells (yvs n) 64)
  generalize hW0 : World.alloc (World.alloc (World.alloc w _) _) _ = W0
  have h0 : ArrY W0 w.heap.size 38 S ∧ ArrY W0 (w.heap.size + 1) 24 k ∧ ArrY W0 (w.heap.size + 1 + 1) 64 n ∧ Below w.heap.size w W0 ∧ W0.heap.size = w.heap.size + 3 := by
    rw [← hW0]; exact ⟨h3.1, h3.2.1, h3.2.2.1, h3.2.2.2.2, h3.2.2.2.1⟩
  have H0 := Lib.hid h0
  clear h3 hW0 h0
  generalize hP0 : w.heap.size = P0 at *
  have HP0 := Lib.hid hP0
  clear hP0
  go_wp2_with fail
  clear hq
  go_loopw [12, 13] (fun v12 v13 wr => ∃ c : Nat, 16 * (q + c) < f + s + 16 ∧ v13 = .int .i64 ((q + c : Nat) : Int) ∧ wr.ownsRow (P0 + 3) 5 1 v12 (16 * c) (((strL T n (16 * q) (16 * c)).map yv).map (Value.int .u8)) ∧ Below (P0 + 3) W0 wr) (fun _ v _ => f + s + 16 - 16 * (intOf v).toNat)
  case atStart => exact ⟨0, by have := HQ.out; omega, rfl, World.ownsRow_nil _ _ _ _, Below.refl _ _⟩
  case round =>
    obtain ⟨c, hc, rfl, ho, hb⟩ := hrel
    by_cases hlt : 16 * (q + c) < f + s
    · obtain ⟨i, hi⟩ : ∃ i, q + c = i := ⟨_, rfl⟩
      rw [hi] at hlt hc
      rw [hi]
      have hfs := HFS.out
      have HBY := Lib.hid (fun w => rbytes_any5 i 4 w (by omega) (by omega))
      have HT := Lib.hid (block_put n HNL.out i)
      have hmb : (n ++ beY 4 i).length = 16 := by simp [beY_length, HNL.out]
      have hmore := strL_more T n HTL.out q c
      rw [hi] at hmore
      have HSL := Lib.hid (fun w => HSE.out (n ++ beY 4 i) w hmb)
      have SB := Lib.hid (size_b16 _ hmb)
      have hfl := sealB_length T (n ++ beY 4 i) HTL.out
      have h4 := beY_length 4 i
      have HCP9 := Lib.hid (show (yvs (beY 4 i)).toList.length = Nat.min 4 4 ∧ 12 + (yvs (beY 4 i)).toList.length ≤ (yvs (putL (zeroY 16) 0 n)).toList.length ∧ ∀ v ∈ (yvs (beY 4 i)).toList, v.oneCell' = true from
        ⟨by rw [Array.length_toList, yvs_size, h4]; rfl, by rw [Array.length_toList, Array.length_toList, yvs_size, yvs_size, h4, putL_length _ _ _ (by rw [HNL.out]; simp [zeroY])]; simp [zeroY], fun v hv => Array.all_eq_true_iff_forall_mem.1 (yvs_one _) v (by simpa using hv)⟩)
      have HCP := Lib.hid (show (yvs n).toList.length = Nat.min 12 16 ∧ 0 + (yvs n).toList.length ≤ (yvs (zeroY 16)).toList.length ∧ ∀ v ∈ (yvs n).toList, v.oneCell' = true from
        ⟨by rw [Array.length_toList, yvs_size, HNL.out]; rfl, by rw [Array.length_toList, Array.length_toList, yvs_size, yvs_size, HNL.out]; simp [zeroY], fun v hv => Array.all_eq_true_iff_forall_mem.1 (yvs_one n) v (by simpa using hv)⟩)
      obtain ⟨FB, hFB⟩ : ∃ y, sealB T (n ++ beY 4 i) = y := ⟨_, rfl⟩
      rw [hFB] at hmore hfl HSL
      have SF := Lib.hid (size_b16 FB hfl)
      have HFL := Lib.hid hfl
      have EF := Lib.hid (show (yvs (n ++ beY 4 i)).size = (yvs FB).size by rw [yvs_size, yvs_size, hfl, hmb])
      have HMORE := Lib.hid hmore
      have HO := Lib.hid ho
      have HB := Lib.hid hb
      have HLT := Lib.hid (And.intro hi hlt)
      have iI : (i : Int) ≤ 8192 := by omega
      have i0 : (0 : Int) ≤ (i : Int) := by omega
      have iL : 16 * (i : Int) < (f : Int) + (s : Int) := by omega
      have hs8 := slice_c16 wr.heap.size
      have hs7 := slice_u12 (P0 + 1 + 1)
      clear hlt hc hi hmb hfl hFB hmore ho hb h4 hfs
      go_upto_region 8 with fail
      have hA7 := heap_alloc_new wr (.cells (yvs (zeroY 16)) 70)
      have hb7 := (Below.refl wr.heap.size wr).alloc (Nat.le_refl _) (.cells (yvs (zeroY 16)) 70)
      generalize hW7 : World.alloc wr _ = W7
      have h7 : ArrY W7 wr.heap.size 70 (zeroY 16) ∧ Below wr.heap.size wr W7 := by rw [← hW7]; exact ⟨hA7, hb7⟩
      have HSZ := Lib.hid (show P0 + 3 ≤ wr.heap.size by have := HB.out.size; have := H0.out.2.2.2.2; omega)
      have HN7 := Lib.hid ((H0.out.2.2.1.below HB.out (by omega)).below h7.2 (by have := HSZ.out; omega))
      have HA7 := Lib.hid (show W7.drew.heap[wr.heap.size]? = some (.cells (yvs (zeroY 16)).toList.toArray 70 (0, 0)) from h7.1)
      have H7 := Lib.hid h7
      have HRG := Lib.hid (show ∀ j v, (yvs n).toList[j]? = some v → W7.drew.cell? ((⟨P0 + 1 + 1, 0, none⟩ : Addr).add j) = some v from fun j v hv => by rw [Addr.add_mid]; exact HN7.out.all j v hv)
      clear hA7 hb7 hW7 h7
      have HWS := Lib.hid (show wr.heap.size = wr.heap.size from rfl)
      generalize hX : wr.heap.size = X at *
      have HX := Lib.hid hX
      clear hX HWS
      go_region_held3 (fun _ => True) (exact trivial)
        ((refine ystep_copy rfl (.tmp 39) (.tmp 40) 22 22 (by rfl) 5 Tryd.underlying22 yone X 0 16 16 ⟨P0 + 1 + 1, 0, none⟩ 12 12 (by rfl) (by rfl) (yvs (zeroY 16)).toList 70 HA7.out (yvs n).toList HCP.out.1 HRG.out HCP.out.2.1 HCP.out.2.2 ?_))
      rw [yvs_putL]
      clear hs7 hs8
      have hs9 := slice_c4 X
      go_upto_region 9 with fail
      generalize hW8 : World.setRow _ X _ = W8
      have h8 : ArrY W8 X 70 (putL (zeroY 16) 0 n) ∧ Below X wr W8 := by
        rw [← hW8]
        exact ⟨setRow_heap _ _ _ _ _ _ HA7.out, ybelow_row H7.out.2.drew (Nat.le_refl _) _⟩
      have H8 := Lib.hid h8
      clear hW8 h8 H7 HA7 HRG HN7
      try simp only [Act.put]
      refine wp_region_noPanic ?_
      refine wp_region_held_drew (S := fun _ => True) (by kernel_rfl) trivial (fun hHeld => ?_)
      refine wpAnyH_take (i := 0) (oi := ⟨some 42, _, _, _, _, _⟩) (v := ?_) rfl (by kernel_rfl) (by decide +kernel) (by decide +kernel) (fun _ _ _ h => h) (Or.inl ⟨by rfl, ?_⟩) (by assumption) ?_
      rotate_left 1
      · (intro w' hSw; go_simp; try with_reducible rfl)
      try simp only [Act.put, List.setIfInBounds_toArray, List.set_cons_zero, List.set_cons_succ]
      refine wpAnyH_take (i := 1) (oi := ⟨some 43, _, _, _, _, _⟩) (v := ?_) rfl (by kernel_rfl) (by decide +kernel) (by decide +kernel) (fun _ _ _ h => h) (Or.inl ⟨by rfl, ?_⟩) (by assumption) ?_
      rotate_left 1
      · (intro w' hSw; go_simp; try with_reducible rfl)
      try simp only [Act.put, List.setIfInBounds_toArray, List.set_cons_zero, List.set_cons_succ]
      have hwc : IntKind.u64.wrap (i : Int) = (i : Int) := by rw [IntKind.wrap_u64]; omega
      refine wpAnyH_take (i := 2) (oi := ⟨some 44, _, _, _, _, _⟩) (v := ?_) rfl (by kernel_rfl) (by decide +kernel) (by decide +kernel) (fun _ _ _ h => h) (Or.inl ⟨by rfl, ?_⟩) (by assumption) ?_
      rotate_left 1
      · (intro w' hSw; go_simp; try with_reducible rfl)
      try simp only [Act.put, List.setIfInBounds_toArray, List.set_cons_zero, List.set_cons_succ]
      clear hwc
      refine wpAnyH_ready (rs := [3]) (by decide +kernel) (by simp) ?_
      refine AllReadyH.cons rfl (fun K hK => ?_) AllReadyH.nil
      go_simp
      go_at_call 49
      refine (HBY.out _).mono ?_
      rintro e w9 ⟨rfl, hA9, hb9⟩
      have hb9' : Below W8.heap.size W8 w9 := (Below.refl _ W8).drew.trans hb9
      have H9 := Lib.hid (show ArrY w9 X 70 (putL (zeroY 16) 0 n) ∧ Below X wr w9 ∧ ArrY w9 W8.heap.size 5 (beY 4 i) from ⟨H8.out.1.below hb9' (zlt H8.out.1), H8.out.2.trans (hb9'.mono (Nat.le_of_lt (zlt H8.out.1))), hA9⟩)
      have HA9 := Lib.hid (show w9.heap[X]? = some (.cells (yvs (putL (zeroY 16) 0 n)).toList.toArray 70 (0, 0)) from H9.out.1)
      have HG9 := Lib.hid (show ∀ j v, (yvs (beY 4 i)).toList[j]? = some v → w9.cell? ((⟨W8.heap.size, 0, none⟩ : Addr).add j) = some v from fun j v hv => by rw [Addr.add_mid]; exact hA9.all j v hv)
      clear hA9 hb9 hb9' hHeld
      go_wp2_with fail
      refine hK.out _ _ trivial (fun hHeld => ?_)
      clear hK K
      try simp only [Act.put, List.setIfInBounds_toArray, List.set_cons_zero, List.set_cons_succ]
      clear hHeld hs9
      refine wpAnyH_ready (rs := [4]) (by decide +kernel) (by simp) ?_
      refine AllReadyH.cons rfl (fun K hK => ?_) AllReadyH.nil
      refine ystep_copy (o := ⟨some 46, _, _, _, _, _⟩) rfl (.tmp 42) (.tmp 45) 22 22 (by rfl) 5 Tryd.underlying22 yone X 12 4 4 ⟨W8.heap.size, 0, none⟩ 4 4 (by rfl) (by rfl) (yvs (putL (zeroY 16) 0 n)).toList 70 HA9.out (yvs (beY 4 i)).toList HCP9.out.1 HG9.out HCP9.out.2.1 HCP9.out.2.2 ?_
      rw [yvs_putL, HT.out]
      refine hK.out _ _ trivial (fun hHeld => ?_)
      clear hK K
      try simp only [Act.put, List.setIfInBounds_toArray, List.set_cons_zero, List.set_cons_succ]
      clear hHeld
      refine wpAnyH_done (by decide +kernel) ?_ _
      refine NoPanic.normal ?_
      go_upto_region 10 with fail
      generalize hW10 : World.setRow _ X _ = W10
      have h10 : W10.heap[X]? = some (.cells (yvs (n ++ beY 4 i)) 70 (0, 0)) ∧ Below X wr W10 := by
        rw [← hW10]
        exact ⟨setRow_heap _ _ _ _ _ _ HA9.out, ybelow_row H9.out.2.1 (Nat.le_refl _) _⟩
      have H10 := Lib.hid h10
      have hB10 : Below (P0 + 3) W0 W10 := HB.out.trans (h10.2.mono HSZ.out)
      have HT10 := Lib.hid (show W10.heap[P0]? = some (.cells (yvs S) 38 (0, 0)) from H0.out.1.below hB10 (by omega))
      have HK10 := Lib.hid (show W10.heap[P0 + 1]? = some (.cells (yvs k) 24 (0, 0)) from H0.out.2.1.below hB10 (by omega))
      clear hW10 h10 H9 HA9 HG9 hB10 H8
      go_wp2_with (first
        | (with_reducible refine wpList_load_row (o := ⟨some 47, _, _, _, _, _⟩) rfl 38 _ rfl P0 rfl 38 (yvs S) (0, 0) _ HT10.out Tryd.underlying38 rfl IS.out ?_)
        | (with_reducible refine wpList_load_row (o := ⟨some 48, _, _, _, _, _⟩) rfl 24 _ rfl (P0 + 1) rfl 24 (yvs k) (0, 0) _ HK10.out Tryd.underlying24 rfl SK.out ?_)
        | (with_reducible refine wpList_load_row (o := ⟨some 49, _, _, _, _, _⟩) rfl 70 _ rfl X rfl 70 (yvs (n ++ beY 4 i)) (0, 0) _ H10.out.1 Tryd.underlying70 rfl SB.out ?_))
      refine (HSL.out _).mono ?_
      rintro e w11 ⟨rfl, hb11⟩
      have H11 := Lib.hid (show w11.heap[X]? = some (.cells (yvs (n ++ beY 4 i)) 70 (0, 0)) ∧ Below X wr w11 from ⟨(show ArrY W10 X _ _ from H10.out.1).below hb11 (zlt (show ArrY W10 X _ _ from H10.out.1)), H10.out.2.trans (hb11.mono (Nat.le_of_lt (zlt (show ArrY W10 X _ _ from H10.out.1))))⟩)
      clear hb11 H10 HT10 HK10
      have hs11 := slice_c16 X
      go_upto_region 11 with (first
        | (with_reducible refine wpList_store_row (o := ⟨none, .store _ (.tmp 14) _, _, _, _, _⟩) rfl 70 _ _ rfl X (yvs FB) rfl rfl 70 (yvs (n ++ beY 4 i)) H11.out.1 SF.out EF.out (yvs_one _) ?_))
      generalize hW12 : World.setRow _ X _ = W12
      have h12 : ArrY W12 X 70 FB ∧ Below X wr W12 := by
        rw [← hW12]
        exact ⟨setRow_heap _ _ _ _ _ _ H11.out.1, ybelow_row H11.out.2 (Nat.le_refl _) _⟩
      have HO12 := Lib.hid (own_below5 HO.out (show Below wr.heap.size wr W12 by rw [HX.out]; exact h12.2))
      have HBS := Lib.hid (BS.of_arr0 (n := 16) (cap := 16) h12.1 HFL.out)
      have H12 := Lib.hid (show Below (P0 + 3) W0 W12 from HB.out.trans (h12.2.mono HSZ.out))
      have HLE := Lib.hid (show 16 * c + (FB.map yv).length ≤ 140737488355328 by rw [List.length_map, HFL.out]; have := HLT.out; have := HFS.out; omega)
      have HSB := Lib.hid (show P0 + 3 ≤ W12.heap.size by have := H12.out.size; have := H0.out.2.2.2.2; omega)
      clear hW12 h12 H11 HO HB
      go_upto_region 6 with (first
        | (at_builtin; with_reducible refine wpList_append_BS (o := ⟨some 53, _, _, _, _, _⟩) rfl _ _ rfl (P0 + 3) u12 (16 * c) _ rfl HO12.out (.slice (some ⟨X, 0, none⟩) 16 16) (FB.map yv) rfl HBS.out HLE.out HSB.out ?_; intro v13 w13 ho13 hg13))
      clear hs11
      have hb13 := H12.out.grown hg13 HSB.out (fun j hj => (HO12.out.lt j hj).1)
      rw [← List.map_append, ← List.map_append, HMORE.out, List.length_map, HFL.out] at ho13
      have HO13 := Lib.hid ho13
      have HB13 := Lib.hid hb13
      clear ho13 hg13 hb13 HO12 HBS H12 HLE HSB
      go_wp2_with fail
      go_roundw
      case rel => exact ⟨c + 1, by have := HLT.out; have := HFS.out; omega, by have := HLT.out; rw [← this.1]; rfl, HO13.out, HB13.out⟩
      case measure => have := HLT.out; simp [intOf]; omega
    · have HB := Lib.hid (show Below P0 w wr from H0.out.2.2.2.1.trans (hb.mono (by omega)))
      have iI : ((q + c : Nat) : Int) ≤ 8193 := by have := HFS.out; omega
      have i0 : (0 : Int) ≤ ((q + c : Nat) : Int) := by omega
      have HGE := Lib.hid (show f + s ≤ 16 * (q + c) by omega)
      have hbv : decide (16 * ((q + c : Nat) : Int) < (f : Int) + (s : Int)) = false := by simp; omega
      generalize hi : q + c = i at *
      have HI := Lib.hid hi
      by_cases hs0 : s = 0
      · have s0b : ((s : Int) == 0) = true := by simp [hs0]
        have HS0 := Lib.hid hs0
        clear ho hb hc hlt hi hs0
        go_wp2_with fail
        go_ret2
        unfold SliceOf
        rw [HS0.out]
        exact ⟨none, 0, rfl, ⟨none, 0, by simp [strL], by intro z hz; simp [strL] at hz, fun _ => rfl, .inl (by simp [strL])⟩, Nat.le_refl _, by rw [HP0.out]; exact HB.out⟩
      · have s0 : (0 : Int) < (s : Int) := by omega
        have s0b : ((s : Int) == 0) = false := by simp; omega
        have hll : (strL T n (16 * q) (16 * c)).length = 16 * c := strL_length _ _ _ _
        obtain ⟨a, cap, rfl, h5, _, B5⟩ := own_bytes ho hll
        obtain ⟨r, hr, hr2⟩ : ∃ r : Nat, (f : Int) % 16 = (r : Int) ∧ f % 16 = r := ⟨f % 16, by omega, rfl⟩
        obtain ⟨t, ht, ht2⟩ : ∃ t : Nat, (r : Int) + (s : Int) = (t : Int) ∧ r + s = t := ⟨r + s, by omega, rfl⟩
        have hle : t ≤ 16 * c := by have := HQ.out; omega
        obtain ⟨a2, hsl, _, _, B6⟩ := slice_cut wr a (16 * c) cap r t _ B5 (by rw [List.length_map, hll]) (by omega) hle h5
        rw [show t - r = s by omega] at hsl B6
        have hpt : ((strL T n (16 * q) (16 * c)).drop r).take s = strL T n f s := by rw [← HQ.out, ← hr2]; exact strL_part T n f s c (by have := HQ.out; omega)
        rw [← List.map_drop, ← List.map_take, hpt] at B6
        have HB6 := Lib.hid (And.intro B6 (show s ≤ cap - r by omega))
        have rI : (r : Int) < 16 := by omega
        have r0 : (0 : Int) ≤ (r : Int) := by omega
        clear ho hb hc hlt hi hs0 hll B5 h5 hr2 ht2 hle hpt B6
        go_wp2_with fail
        go_ret2
        unfold SliceOf
        rw [HTT.out]
        exact ⟨a2, cap - r, rfl, HB6.out.1, HB6.out.2, by rw [HP0.out]; exact HB.out⟩
end Go.Proofs.YtfgdddejpdjllaaDoor
