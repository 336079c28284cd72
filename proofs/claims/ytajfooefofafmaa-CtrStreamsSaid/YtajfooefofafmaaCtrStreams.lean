/-
  'CtrStreams' returns true at every input, and each argument reads behind the call as it read before. Conditions: none.
-/
import Derived.Test.YtajfooefofafmaaRows
import Derived.Test.YtajfooefofafmaaYLaid
import Derived.Test.YtajfooefofafmaaCOpen
import Derived.Test.YtajfooefofafmaaCUse
import Derived.Deep.CutRange
import Derived.Test.YtajfooefofafmaaCRef2
import Derived.Test.YtajfooefofafmaaRTable
namespace Go.Proofs.Ytajfooefofafmaa.ctrStreams
open Go.ChangeShapes Go.WideShapes Go.ChangeAt Go.RowKit
set_option linter.unusedVariables false

theorem eq_n12 (x y : List (BitVec 8)) (hx : x.length = 12) (hy : y.length = 12) (w : World) : (Op.equalIn 10000 29 (.agg (yvs x)) (.agg (yvs y))).run Try.prog w = .ok (decide (x = y)) w := by
  obtain ⟨i0, hi, hs⟩ := Option.map_eq_some_iff.1 yone
  rw [cells_y x, cells_y y, run_equalIn_bytes w 9998 29 5 12 Try.underlying29 Try.underlying5 (fun w => by simp [sizeOf, typeInfo, hi, hs]) _ _ (by simpa using hx) (by simpa using hy), ybytes_inj x y]
/-- A slice that reads as bytes, and an error. -/
def Gives (w : World) (L : List (BitVec 8)) (err : Int) (e : Ending) (w' : World) : Prop := ∃ v, e = .returned (.tuple #[v, .int .i64 err]) ∧ BS w' v (L.map yv) ∧ Below w.heap.size w w'
theorem bs_nil (w : World) : BS w (.slice none 0 0) (([] : List (BitVec 8)).map yv) := ⟨none, 0, rfl, by intro z hz; simp at hz, fun _ => rfl, .inl rfl⟩
/-- Whatever place and size: the code's and the document's stream, or error, are the same. -/
theorem streams (k n : List (BitVec 8)) (hk : k.length = 32) (hn : n.length = 12) (x y : Int) (x1 : x ≤ 9223372036854775807) (y1 : y ≤ 9223372036854775807) :
    ∃ L err, (∀ w, Calls Try.prog 13 #[.agg (yvs k), .agg (yvs n), .int .i64 x, .int .i64 y] w (Gives w L err)) ∧
      (∀ w, Calls Try.prog 14 #[.agg (yvs boxesL), .agg (yvs k), .agg (yvs n), .int .i64 x, .int .i64 y] w (Gives w L err)) := by
  by_cases h : x < 0 ∨ 65536 < x ∨ y < 0 ∨ 65536 < y
  · exact ⟨[], 2, fun w => (stream_bad k n x y w x1 y1 h).mono fun e w' ⟨h1, h2⟩ => ⟨_, h1, bs_nil _, h2⟩, fun w => (rstream_bad boxesL k n x y w x1 y1 h).mono fun e w' ⟨h1, h2⟩ => ⟨_, h1, bs_nil _, h2⟩⟩
  · obtain ⟨f, rfl⟩ : ∃ f : Nat, x = (f : Int) := ⟨x.toNat, by omega⟩
    obtain ⟨s, rfl⟩ : ∃ s : Nat, y = (s : Int) := ⟨y.toNat, by omega⟩
    exact ⟨strL (keysL k) n f s, 0, fun w => (stream_ok k n f s w hk hn (by omega) (by omega)).mono fun e w' ⟨h1, h2, h3⟩ => ⟨_, h1, BS.of_arr0 h2 (strL_length _ _ _ _), h3⟩,
      fun w => (rstream_ok k n f s w hk hn (by omega) (by omega)).mono fun e w' ⟨a, cap, h1, h2, _, h3⟩ => ⟨_, h1, h2, h3⟩⟩

set_option maxRecDepth 100000 in
set_option maxHeartbeats 3200000 in
theorem walk (w : World) (k : List (BitVec 8)) (birth : Nat) (addr : Nat) (x : Int) (y : Int) (hk : k.length = 32) (hbirth : birth < 18446744073709551616) (haddr : addr < 4294967296) (hx0 : -9223372036854775808 ≤ x) (hx1 : x ≤ 9223372036854775807) (hy0 : -9223372036854775808 ≤ y) (hy1 : y ≤ 9223372036854775807) :
    Calls Try.prog 3 #[.agg (askedCells k birth addr x y)] w fun e w' => e = .returned (.bool true) ∧ Below w.heap.size w w' := by
  have HkL := Lib.hid hk
  have Sk := Lib.hid (size_k32 k hk)
  have Ik := Lib.hid (show (Try.prog.info? 22).map (·.size) = some (yvs k).toList.length by rw [Array.length_toList]; exact Sk.out)
  have Ek := Lib.hid (show (yvs (zeroY 32)).size = (yvs k).size by rw [yvs_size, yvs_size, hk]; simp [zeroY])
  have Ak := Lib.hid (show (Try.prog.info? 28).map (·.size) = some (yvs k).size by rw [show (Try.prog.info? 28).map (·.size) = some 32 by kernel_rfl, yvs_size, hk])
  clear hk
  have AI := Lib.hid haddr
  have BI := Lib.hid hbirth
  have XI := Lib.hid (And.intro (And.intro hx0 hx1) (And.intro hy0 hy1))
  clear haddr hbirth hx0 hx1 hy0 hy1
  go_enter Try.func3, Try.ntmps3
  go_wp2_with fail
  have hA0 := heap_alloc_new w (.cells (askedCells k birth addr x y) 26)
  have hB0 := (Below.refl w.heap.size w).alloc (Nat.le_refl _) (.cells (askedCells k birth addr x y) 26)
  refine (alive5_any _).mono ?_
  rintro e w1 ⟨rfl, hb1⟩
  have hA1 := (hb1.block w.heap.size (by simp)).trans hA0
  have HBW1 := Lib.hid (hB0.trans (hb1.mono hB0.size))
  have HLT1 := Lib.hid (show w.heap.size < w1.heap.size by have := hb1.size; simp at this; omega)
  have HS := Lib.hid (show ∀ W, Below w1.heap.size w1 W → W.rangeAt w.heap.size 0 (yvs k).toList ∧ W.cell? ⟨w.heap.size, 32, none⟩ = some (Value.int .u64 (birth : Int)) ∧ W.cell? ⟨w.heap.size, 33, none⟩ = some (Value.int .u32 (addr : Int)) ∧ W.cell? ⟨w.heap.size, 34, none⟩ = some (Value.int .i64 x) ∧ W.cell? ⟨w.heap.size, 35, none⟩ = some (Value.int .i64 y) from fun W hW => asked_at ((hW.block _ HLT1.out).trans hA1) HkL.out)
  clear hA0 hB0 hb1 hA1
  go_upto_region 3 with (fail)
  go_cut [3, 4, 5, 6, 7] from 8 (fun v3 v4 v5 v6 v7 wc => ∃ X, v3 = .pointer (some ⟨X, 0, none⟩) ∧ v4 = .int .u64 (birth : Int) ∧ v5 = .int .u32 (addr : Int) ∧ v6 = .int .i64 x ∧ v7 = .int .i64 y ∧ ArrY wc X 28 k ∧ Below w1.heap.size w1 wc)
  case first =>
    try simp only [Act.put]
    refine wp_region_noPanic ?_
    refine wp_region_held_drew (S := fun W => W.rangeAt w.heap.size 0 (yvs k).toList ∧ W.cell? ⟨w.heap.size, 32, none⟩ = some (Value.int .u64 (birth : Int)) ∧ W.cell? ⟨w.heap.size, 33, none⟩ = some (Value.int .u32 (addr : Int)) ∧ W.cell? ⟨w.heap.size, 34, none⟩ = some (Value.int .i64 x) ∧ W.cell? ⟨w.heap.size, 35, none⟩ = some (Value.int .i64 y)) (by kernel_rfl) (HS.out _ (Below.refl _ w1).drew) (fun hHeld => ?_)
    refine wpAnyH_take (i := 0) (oi := ⟨some 15, _, _, _, _, _⟩) (v := ?_) rfl (by kernel_rfl) (by decide +kernel) (by decide +kernel) (fun _ _ _ h => h) (Or.inl ⟨by rfl, ?_⟩) (by assumption) ?_
    rotate_left 1
    · (intro w' hSw; go_simp; try with_reducible rfl)
    try simp only [Act.put, List.setIfInBounds_toArray, List.set_cons_zero, List.set_cons_succ]
    refine wpAnyH_take (i := 1) (oi := ⟨some 16, _, _, _, _, _⟩) rfl (by kernel_rfl) (by decide +kernel) (by decide +kernel) (fun _ _ _ h => h) (yieldsIf_load_mid (by rfl) _ _ rfl (w.heap.size) (0) rfl (yvs k).toList _ (fun w' h => h.1) Try.underlying22 rfl Ik.out) (by assumption) ?_
    try simp only [Act.put, List.setIfInBounds_toArray, List.set_cons_zero, List.set_cons_succ, Array.toArray_toList]
    refine wpAnyH_take (i := 2) (oi := ⟨some 17, _, _, _, _, _⟩) (v := ?_) rfl (by kernel_rfl) (by decide +kernel) (by decide +kernel) (fun _ _ _ h => h) (Or.inl ⟨by rfl, ?_⟩) (by assumption) ?_
    rotate_left 1
    · (intro w' hSw; go_simp; try with_reducible rfl)
    try simp only [Act.put, List.setIfInBounds_toArray, List.set_cons_zero, List.set_cons_succ]
    refine wpAnyH_take (i := 3) (oi := ⟨some 18, _, _, _, _, _⟩) (v := ?_) rfl (by kernel_rfl) (by decide +kernel) (by decide +kernel) (fun _ _ _ h => h) (Or.inl ⟨by rfl, ?_⟩) (by assumption) ?_
    rotate_left 1
    · (intro w' hSw; have hcell := hSw.2.1; clear hSw; go_simp; try with_reducible rfl)
    try simp only [Act.put, List.setIfInBounds_toArray, List.set_cons_zero, List.set_cons_succ]
    refine wpAnyH_take (i := 4) (oi := ⟨some 19, _, _, _, _, _⟩) (v := ?_) rfl (by kernel_rfl) (by decide +kernel) (by decide +kernel) (fun _ _ _ h => h) (Or.inl ⟨by rfl, ?_⟩) (by assumption) ?_
    rotate_left 1
    · (intro w' hSw; go_simp; try with_reducible rfl)
    try simp only [Act.put, List.setIfInBounds_toArray, List.set_cons_zero, List.set_cons_succ]
    refine wpAnyH_take (i := 5) (oi := ⟨some 20, _, _, _, _, _⟩) (v := ?_) rfl (by kernel_rfl) (by decide +kernel) (by decide +kernel) (fun _ _ _ h => h) (Or.inl ⟨by rfl, ?_⟩) (by assumption) ?_
    rotate_left 1
    · (intro w' hSw; have hcell := hSw.2.2.1; clear hSw; go_simp; try with_reducible rfl)
    try simp only [Act.put, List.setIfInBounds_toArray, List.set_cons_zero, List.set_cons_succ]
    refine wpAnyH_take (i := 6) (oi := ⟨some 21, _, _, _, _, _⟩) (v := ?_) rfl (by kernel_rfl) (by decide +kernel) (by decide +kernel) (fun _ _ _ h => h) (Or.inl ⟨by rfl, ?_⟩) (by assumption) ?_
    rotate_left 1
    · (intro w' hSw; go_simp; try with_reducible rfl)
    try simp only [Act.put, List.setIfInBounds_toArray, List.set_cons_zero, List.set_cons_succ]
    refine wpAnyH_take (i := 7) (oi := ⟨some 22, _, _, _, _, _⟩) (v := ?_) rfl (by kernel_rfl) (by decide +kernel) (by decide +kernel) (fun _ _ _ h => h) (Or.inl ⟨by rfl, ?_⟩) (by assumption) ?_
    rotate_left 1
    · (intro w' hSw; have hcell := hSw.2.2.2.1; clear hSw; go_simp; try with_reducible rfl)
    try simp only [Act.put, List.setIfInBounds_toArray, List.set_cons_zero, List.set_cons_succ]
    refine wpAnyH_take (i := 8) (oi := ⟨some 23, _, _, _, _, _⟩) (v := ?_) rfl (by kernel_rfl) (by decide +kernel) (by decide +kernel) (fun _ _ _ h => h) (Or.inl ⟨by rfl, ?_⟩) (by assumption) ?_
    rotate_left 1
    · (intro w' hSw; go_simp; try with_reducible rfl)
    try simp only [Act.put, List.setIfInBounds_toArray, List.set_cons_zero, List.set_cons_succ]
    refine wpAnyH_take (i := 9) (oi := ⟨some 24, _, _, _, _, _⟩) (v := ?_) rfl (by kernel_rfl) (by decide +kernel) (by decide +kernel) (fun _ _ _ h => h) (Or.inl ⟨by rfl, ?_⟩) (by assumption) ?_
    rotate_left 1
    · (intro w' hSw; have hcell := hSw.2.2.2.2; clear hSw; go_simp; try with_reducible rfl)
    try simp only [Act.put, List.setIfInBounds_toArray, List.set_cons_zero, List.set_cons_succ]
    clear hHeld
    have HB0 := Lib.hid (Below.refl w1.heap.size w1).drew
    refine wpAnyH_ready (rs := [10]) (by decide +kernel) (by simp) ?_
    refine AllReadyH.cons rfl (fun K hK => ?_) AllReadyH.nil
    go_simp
    have hal := HB0.out.alloc HB0.out.size (.cells (yvs (zeroY 32)) 28)
    have hxl := heap_alloc_new (w1.drew) (.cells (yvs (zeroY 32)) 28)
    have hst := (Below.refl (w1.drew).heap.size (w1.drew)).alloc (Nat.le_refl _) (.cells (yvs (zeroY 32)) 28)
    refine hK.out _ _ (HS.out _ hal) (fun hHeld => ?_)
    clear hK K hHeld
    try simp only [Act.put, List.setIfInBounds_toArray, List.set_cons_zero, List.set_cons_succ]
    refine (show ∀ wb1 : World, wb1 = (w1.drew).alloc (.cells (yvs (zeroY 32)) 28) → _ from ?_) _ rfl
    intro wb1 ew
    rw [← ew] at hal hxl hst
    have HB1 := Lib.hid hal
    have HX1 := Lib.hid (show ArrY wb1 (w1.drew).heap.size 28 (zeroY 32) from hxl)
    have HNX1 := Lib.hid HB0.out.size
    clear ew hal hxl hst
    refine wpAnyH_ready (rs := [11]) (by decide +kernel) (by simp) ?_
    refine AllReadyH.cons rfl (fun K hK => ?_) AllReadyH.nil
    rw [if_pos (by kernel_rfl)]
    refine wp_store_row (o := ⟨none, .store _ (.tmp 3) _, _, _, _, _⟩) 28 _ _ rfl ((w1.drew).heap.size) (yvs k) rfl rfl 28 (yvs (zeroY 32)) (show (wb1).heap[(w1.drew).heap.size]? = _ from HX1.out) Ak.out Ek.out (yvs_one _) ?_
    refine hK.out _ _ (HS.out _ (ybelow_row HB1.out HNX1.out (yvs k))) (fun hHeld => ?_)
    clear hK K hHeld
    simp only [Act.put]
    have hHeld := HS.out _ (ybelow_row HB1.out HNX1.out (yvs k))
    refine wpAnyH_take (i := 12) (oi := ⟨some 4, _, _, _, _, _⟩) (v := ?_) rfl (by kernel_rfl) (by decide +kernel) (by decide +kernel) (fun _ _ _ h => h) (Or.inl ⟨by rfl, ?_⟩) (by assumption) ?_
    rotate_left 1
    · (intro w' hSw; go_simp; try with_reducible rfl)
    try simp only [Act.put, List.setIfInBounds_toArray, List.set_cons_zero, List.set_cons_succ]
    refine wpAnyH_take (i := 13) (oi := ⟨some 5, _, _, _, _, _⟩) (v := ?_) rfl (by kernel_rfl) (by decide +kernel) (by decide +kernel) (fun _ _ _ h => h) (Or.inl ⟨by rfl, ?_⟩) (by assumption) ?_
    rotate_left 1
    · (intro w' hSw; go_simp; try with_reducible rfl)
    try simp only [Act.put, List.setIfInBounds_toArray, List.set_cons_zero, List.set_cons_succ]
    refine wpAnyH_take (i := 14) (oi := ⟨some 6, _, _, _, _, _⟩) (v := ?_) rfl (by kernel_rfl) (by decide +kernel) (by decide +kernel) (fun _ _ _ h => h) (Or.inl ⟨by rfl, ?_⟩) (by assumption) ?_
    rotate_left 1
    · (intro w' hSw; go_simp; try with_reducible rfl)
    try simp only [Act.put, List.setIfInBounds_toArray, List.set_cons_zero, List.set_cons_succ]
    refine wpAnyH_take (i := 15) (oi := ⟨some 7, _, _, _, _, _⟩) (v := ?_) rfl (by kernel_rfl) (by decide +kernel) (by decide +kernel) (fun _ _ _ h => h) (Or.inl ⟨by rfl, ?_⟩) (by assumption) ?_
    rotate_left 1
    · (intro w' hSw; go_simp; try with_reducible rfl)
    try simp only [Act.put, List.setIfInBounds_toArray, List.set_cons_zero, List.set_cons_succ]
    clear hHeld
    refine wpAnyH_done (by decide +kernel) ?_ _
    refine NoPanic.normal ?_
    go_wp2_with fail
    go_meet
    exact ⟨(w1.drew).heap.size, rfl, rfl, rfl, rfl, rfl, (setRow_heap _ _ _ (yvs k) _ _ HX1.out), (ybelow_row HB1.out HNX1.out (yvs k))⟩
  case rest =>
    obtain ⟨X, rfl, rfl, rfl, rfl, rfl, hX, hbc⟩ := hcut
    have H0 := Lib.hid (show ArrY wc X 28 k ∧ Below w.heap.size w wc from ⟨hX, HBW1.out.trans (hbc.mono HBW1.out.size)⟩)
    have HSW := Lib.hid (show ∀ W, Below wc.heap.size wc W → W.rangeAt w.heap.size 0 (yvs k).toList from fun W hW => (HS.out W (hbc.trans (hW.mono hbc.size))).1)
    clear hX hbc HBW1 HLT1 HS
    by_cases h60 : 60 < y ∧ y ≤ 65536
    · have y60 : (60 : Int) < y := h60.1
      have y65 : y ≤ (65536 : Int) := h60.2
      clear h60
      go_wp2_with fail
      go_ret
      exact ⟨rfl, H0.out.2⟩
    obtain ⟨N, hN⟩ : ∃ z, beY 8 birth ++ beY 4 addr = z := ⟨_, rfl⟩
    have hnl : N.length = 12 := by rw [← hN]; simp [beY_length]
    have hm1 := fun w => made_any birth addr w AI.out
    have hm2 := fun w => rmade_any birth addr w BI.out AI.out
    rw [hN] at hm1 hm2
    obtain ⟨L, err, hs1, hs2⟩ := streams k N HkL.out hnl x y XI.out.1.2 XI.out.2.2
    have HM1 := Lib.hid hm1
    have HM2 := Lib.hid hm2
    have HS1 := Lib.hid hs1
    have htb := rtable_any
    obtain ⟨BX, hBX⟩ : ∃ z, boxesL = z := ⟨_, rfl⟩
    rw [hBX] at hs2
    have htb2 := fun w => rtable_any w
    rw [hBX] at htb2
    have HS2 := Lib.hid hs2
    have HTB := Lib.hid htb2
    have HQ := Lib.hid (fun w => eq_n12 N N hnl hnl w)
    have SN := Lib.hid (size_nonce N hnl)
    have IN := Lib.hid (show (Try.prog.info? 30).map (·.size) = some (yvs N).toList.length by rw [Array.length_toList]; exact size_nonce N hnl)
    have EN := Lib.hid (show (yvs (zeroY 12)).size = (yvs N).size by rw [yvs_size, yvs_size, hnl]; simp [zeroY])
    have SKA := Lib.hid (size_key k HkL.out)
    clear hN hnl hm1 hm2 hs1 hs2 htb htb2 hBX
    go_upto_region 4 with fail
    go_cut [30] from 15 (fun v30 wx => v30 = .bool false ∧ Below wc.heap.size wc wx)
    case first =>
      by_cases y60 : (60 : Int) < y
      · have y65 : (65536 : Int) < y := by omega
        clear h60
        go_wp2_with fail
        go_meet
        case rel => exact ⟨by first | rfl | (simp; omega), Below.refl _ _⟩
      · have y61 : y ≤ (60 : Int) := by omega
        clear h60 y60
        go_wp2_with fail
        go_meet
        case rel => exact ⟨rfl, Below.refl _ _⟩
    case rest =>
      clear h60
      obtain ⟨rfl, hcut⟩ := hcut
      have H1 := Lib.hid (show ArrY wc X 28 k ∧ Below w.heap.size w wc from ⟨H0.out.1.below hcut (zlt H0.out.1), H0.out.2.trans (hcut.mono H0.out.2.size)⟩)
      have HSX := Lib.hid (show ∀ W, Below wc.heap.size wc W → W.rangeAt w.heap.size 0 (yvs k).toList from fun W hW => HSW.out W (hcut.trans (hW.mono hcut.size)))
      clear hcut H0 HSW
      go_wp2_with fail
      refine (HM1.out _).mono ?_
      rintro e w6 ⟨rfl, hb6⟩
      have H6 := Lib.hid (show ArrY w6 X 28 k ∧ Below w.heap.size w w6 ∧ Below wc.heap.size wc w6 from ⟨H1.out.1.below hb6 (zlt H1.out.1), H1.out.2.trans (hb6.mono H1.out.2.size), hb6⟩)
      clear hb6 H1
      go_upto_region 7 with (first
        | (with_reducible refine wpList_store_row (o := ⟨none, .store _ (.tmp 8) _, _, _, _, _⟩) rfl 30 _ _ rfl w6.heap.size (yvs N) rfl rfl 30 (yvs (zeroY 12)) (heap_alloc_new w6 _) SN.out EN.out (yvs_one _) ?_))
      generalize hW7 : World.setRow _ w6.heap.size _ = W7
      have h7 : W7.heap[X]? = some (.cells (yvs k) 28 (0, 0)) ∧ W7.heap[w6.heap.size]? = some (.cells (yvs N) 30 (0, 0)) ∧ Below w.heap.size w W7 ∧ Below wc.heap.size wc W7 := by
        obtain ⟨e1, e2, e3⟩ := ygen_row (w := w6) (old := yvs (zeroY 12)) (cs := yvs N) (T := 30)
        rw [← hW7]
        exact ⟨H6.out.1.below e3 (zlt H6.out.1), e1, H6.out.2.1.trans (e3.mono H6.out.2.1.size), H6.out.2.2.trans (e3.mono H6.out.2.2.size)⟩
      have H7 := Lib.hid h7
      clear hW7 h7 H6
      generalize w6.heap.size = PN at *
      go_wp2_with (first
        | (with_reducible refine wpList_load_row (o := ⟨some 35, _, _, _, _, _⟩) rfl 28 _ rfl X rfl 28 (yvs k) (0, 0) _ H7.out.1 Try.underlying28 rfl SKA.out ?_)
        | (with_reducible refine wpList_load_row (o := ⟨some 36, _, _, _, _, _⟩) rfl 30 _ rfl PN rfl 30 (yvs N) (0, 0) _ H7.out.2.1 Try.underlying30 rfl SN.out ?_))
      refine (HS1.out _).mono ?_
      intro e w8 hg8
      unfold Gives at hg8
      obtain ⟨v8, rfl, B8, hb8⟩ := hg8
      have H8 := Lib.hid (show ArrY w8 PN 30 N ∧ BS w8 v8 (L.map yv) ∧ Below w.heap.size w w8 ∧ Below wc.heap.size wc w8 from ⟨(show ArrY W7 PN _ N from H7.out.2.1).below hb8 (zlt (show ArrY W7 PN _ N from H7.out.2.1)), B8, H7.out.2.2.1.trans (hb8.mono H7.out.2.2.1.size), H7.out.2.2.2.trans (hb8.mono H7.out.2.2.2.size)⟩)
      have HS8 := Lib.hid (show ∀ W, Below w8.heap.size w8 W → W.rangeAt w.heap.size 0 (yvs k).toList from fun W hW => HSX.out W (H8.out.2.2.2.trans (hW.mono H8.out.2.2.2.size)))
      clear B8 hb8 H7 HSX
      go_upto_region 8 with fail
      try simp only [Act.put]
      refine wp_region_noPanic ?_
      refine wp_region_held_drew (S := fun W => W.rangeAt w.heap.size 0 (yvs k).toList) (by kernel_rfl) (HS8.out _ (Below.refl _ w8).drew) (fun hHeld => ?_)
      refine wpAnyH_take (i := 1) (oi := ⟨some 44, _, _, _, _, _⟩) (v := ?_) rfl (by kernel_rfl) (by decide +kernel) (by decide +kernel) (fun _ _ _ h => h) (Or.inl ⟨by rfl, ?_⟩) (by assumption) ?_
      rotate_left 1
      · (intro w' hSw; go_simp; try with_reducible rfl)
      try simp only [Act.put, List.setIfInBounds_toArray, List.set_cons_zero, List.set_cons_succ]
      refine wpAnyH_take (i := 2) (oi := ⟨some 45, _, _, _, _, _⟩) rfl (by kernel_rfl) (by decide +kernel) (by decide +kernel) (fun _ _ _ h => h) (yieldsIf_load_mid (by rfl) _ _ rfl (w.heap.size) (0) rfl (yvs k).toList _ (fun w' h => h) Try.underlying22 rfl Ik.out) (by assumption) ?_
      try simp only [Act.put, List.setIfInBounds_toArray, List.set_cons_zero, List.set_cons_succ, Array.toArray_toList]
      refine wpAnyH_take (i := 3) (oi := ⟨some 46, _, _, _, _, _⟩) (v := ?_) rfl (by kernel_rfl) (by decide +kernel) (by decide +kernel) (fun _ _ _ h => h) (Or.inl ⟨by rfl, ?_⟩) (by assumption) ?_
      rotate_left 1
      · (intro w' hSw; go_simp; try with_reducible rfl)
      try simp only [Act.put, List.setIfInBounds_toArray, List.set_cons_zero, List.set_cons_succ]
      refine wpAnyH_take (i := 4) (oi := ⟨some 47, _, _, _, _, _⟩) (v := ?_) rfl (by kernel_rfl) (by decide +kernel) (by decide +kernel) (fun _ _ _ h => h) (Or.inl ⟨by rfl, ?_⟩) (by assumption) ?_
      rotate_left 1
      · (intro w' hSw; go_simp; try with_reducible rfl)
      try simp only [Act.put, List.setIfInBounds_toArray, List.set_cons_zero, List.set_cons_succ]
      refine wpAnyH_take (i := 6) (oi := ⟨some 49, _, _, _, _, _⟩) (v := ?_) rfl (by kernel_rfl) (by decide +kernel) (by decide +kernel) (fun _ _ _ h => h) (Or.inl ⟨by rfl, ?_⟩) (by assumption) ?_
      rotate_left 1
      · (intro w' hSw; go_simp; try with_reducible rfl)
      try simp only [Act.put, List.setIfInBounds_toArray, List.set_cons_zero, List.set_cons_succ]
      refine wpAnyH_take (i := 7) (oi := ⟨some 50, _, _, _, _, _⟩) (v := ?_) rfl (by kernel_rfl) (by decide +kernel) (by decide +kernel) (fun _ _ _ h => h) (Or.inl ⟨by rfl, ?_⟩) (by assumption) ?_
      rotate_left 1
      · (intro w' hSw; go_simp; try with_reducible rfl)
      try simp only [Act.put, List.setIfInBounds_toArray, List.set_cons_zero, List.set_cons_succ]
      clear hHeld
      have HB0 := Lib.hid (Below.refl w8.heap.size w8).drew
      refine wpAnyH_ready (rs := [0]) (by decide +kernel) (by simp) ?_
      refine AllReadyH.cons rfl (fun K hK => ?_) AllReadyH.nil
      go_simp
      go_at_call 15
      refine (HTB.out _).mono ?_
      rintro e wa ⟨rfl, hb⟩
      have HBa := Lib.hid (HB0.out.trans (hb.mono HB0.out.size))
      clear hb
      go_wp2_with fail
      refine hK.out _ _ (HS8.out _ HBa.out) (fun hHeld => ?_)
      clear hK K
      try simp only [Act.put, List.setIfInBounds_toArray, List.set_cons_zero, List.set_cons_succ]
      clear hHeld
      refine wpAnyH_ready (rs := [5]) (by decide +kernel) (by simp) ?_
      refine AllReadyH.cons rfl (fun K hK => ?_) AllReadyH.nil
      go_simp
      go_at_call 16
      refine (HM2.out _).mono ?_
      rintro e wb ⟨rfl, hb⟩
      have HBb := Lib.hid (HBa.out.trans (hb.mono HBa.out.size))
      clear hb
      go_wp2_with fail
      refine hK.out _ _ (HS8.out _ HBb.out) (fun hHeld => ?_)
      clear hK K
      try simp only [Act.put, List.setIfInBounds_toArray, List.set_cons_zero, List.set_cons_succ]
      clear hHeld
      refine wpAnyH_ready (rs := [8]) (by decide +kernel) (by simp) ?_
      refine AllReadyH.cons rfl (fun K hK => ?_) AllReadyH.nil
      go_simp
      go_at_call 14
      refine (HS2.out _).mono ?_
      intro e w9 hg9
      unfold Gives at hg9
      obtain ⟨v9, rfl, B9, hb⟩ := hg9
      have HB9 := Lib.hid (HBb.out.trans (hb.mono HBb.out.size))
      have BV9 := Lib.hid B9
      clear hb B9
      go_wp2_with fail
      refine hK.out _ _ (HS8.out _ HB9.out) (fun hHeld => ?_)
      clear hK K
      try simp only [Act.put, List.setIfInBounds_toArray, List.set_cons_zero, List.set_cons_succ]
      refine wpAnyH_take (i := 9) (oi := ⟨some 42, _, _, _, _, _⟩) (v := ?_) rfl (by kernel_rfl) (by decide +kernel) (by decide +kernel) (fun _ _ _ h => h) (Or.inl ⟨by rfl, ?_⟩) (by assumption) ?_
      rotate_left 1
      · (intro w' hSw; go_simp; try with_reducible rfl)
      try simp only [Act.put, List.setIfInBounds_toArray, List.set_cons_zero, List.set_cons_succ]
      refine wpAnyH_take (i := 10) (oi := ⟨some 52, _, _, _, _, _⟩) (v := ?_) rfl (by kernel_rfl) (by decide +kernel) (by decide +kernel) (fun _ _ _ h => h) (Or.inl ⟨by rfl, ?_⟩) (by assumption) ?_
      rotate_left 1
      · (intro w' hSw; go_simp; try with_reducible rfl)
      try simp only [Act.put, List.setIfInBounds_toArray, List.set_cons_zero, List.set_cons_succ]
      refine wpAnyH_take (i := 11) (oi := ⟨some 53, _, _, _, _, _⟩) (v := ?_) rfl (by kernel_rfl) (by decide +kernel) (by decide +kernel) (fun _ _ _ h => h) (Or.inl ⟨by rfl, ?_⟩) (by assumption) ?_
      rotate_left 1
      · (intro w' hSw; go_simp; try with_reducible rfl)
      try simp only [Act.put, List.setIfInBounds_toArray, List.set_cons_zero, List.set_cons_succ]
      refine wpAnyH_take (i := 12) (oi := ⟨some 11, _, _, _, _, _⟩) (v := ?_) rfl (by kernel_rfl) (by decide +kernel) (by decide +kernel) (fun _ _ _ h => h) (Or.inl ⟨by rfl, ?_⟩) (by assumption) ?_
      rotate_left 1
      · (intro w' hSw; go_simp; try with_reducible rfl)
      try simp only [Act.put, List.setIfInBounds_toArray, List.set_cons_zero, List.set_cons_succ]
      refine wpAnyH_take (i := 13) (oi := ⟨some 12, _, _, _, _, _⟩) (v := ?_) rfl (by kernel_rfl) (by decide +kernel) (by decide +kernel) (fun _ _ _ h => h) (Or.inl ⟨by rfl, ?_⟩) (by assumption) ?_
      rotate_left 1
      · (intro w' hSw; go_simp; try with_reducible rfl)
      try simp only [Act.put, List.setIfInBounds_toArray, List.set_cons_zero, List.set_cons_succ]
      clear hHeld
      refine wpAnyH_done (by decide +kernel) ?_ _
      refine NoPanic.normal ?_
      have H9 := Lib.hid (show ArrY w9 PN 30 N ∧ BS w9 v8 (L.map yv) ∧ BS w9 v9 (L.map yv) ∧ Below w.heap.size w w9 from ⟨H8.out.1.below HB9.out (zlt H8.out.1), H8.out.2.1.kept HB9.out, BV9.out, H8.out.2.2.1.trans (HB9.out.mono H8.out.2.2.1.size)⟩)
      have HS9 := Lib.hid (show ∀ W, Below w9.heap.size w9 W → W.rangeAt PN 0 (yvs N).toList from fun W hW => (H9.out.1.below hW (zlt H9.out.1)).all)
      clear H8 HS8 HB0 HBa HBb HB9 BV9
      go_upto_region 9 with fail
      try simp only [Act.put]
      refine wp_region_noPanic ?_
      refine wp_region_held_drew (S := fun W => W.rangeAt PN 0 (yvs N).toList) (by kernel_rfl) (HS9.out _ (Below.refl _ w9).drew) (fun hHeld => ?_)
      refine wpAnyH_take (i := 0) (oi := ⟨some 54, _, _, _, _, _⟩) rfl (by kernel_rfl) (by decide +kernel) (by decide +kernel) (fun _ _ _ h => h) (yieldsIf_load_mid (by rfl) _ _ rfl (PN) (0) rfl (yvs N).toList _ (fun w' h => h) Try.underlying30 rfl IN.out) (by assumption) ?_
      try simp only [Act.put, List.setIfInBounds_toArray, List.set_cons_zero, List.set_cons_succ, Array.toArray_toList]
      refine wpAnyH_take (i := 1) (oi := ⟨some 55, _, _, _, _, _⟩) (v := ?_) rfl (by kernel_rfl) (by decide +kernel) (by decide +kernel) (fun _ _ _ h => h) (Or.inl ⟨by rfl, ?_⟩) (by assumption) ?_
      rotate_left 1
      · (intro w' hSw; go_simp; try with_reducible rfl)
      try simp only [Act.put, List.setIfInBounds_toArray, List.set_cons_zero, List.set_cons_succ]
      refine wpAnyH_take (i := 2) (oi := ⟨some 56, _, _, _, _, _⟩) (v := ?_) rfl (by kernel_rfl) (by decide +kernel) (by decide +kernel) (fun _ _ _ h => h) (Or.inl ⟨by rfl, ?_⟩) (by assumption) ?_
      rotate_left 1
      · (intro w' hSw; go_simp; try with_reducible rfl)
      try simp only [Act.put, List.setIfInBounds_toArray, List.set_cons_zero, List.set_cons_succ]
      clear hHeld
      have HB0 := Lib.hid (Below.refl w9.heap.size w9).drew
      refine wpAnyH_ready (rs := [3]) (by decide +kernel) (by simp) ?_
      refine AllReadyH.cons rfl (fun K hK => ?_) AllReadyH.nil
      go_simp
      go_at_call 16
      refine (HM2.out _).mono ?_
      rintro e wa ⟨rfl, hb⟩
      have HBa := Lib.hid (HB0.out.trans (hb.mono HB0.out.size))
      clear hb
      go_wp2_with fail
      refine hK.out _ _ (HS9.out _ HBa.out) (fun hHeld => ?_)
      clear hK K
      try simp only [Act.put, List.setIfInBounds_toArray, List.set_cons_zero, List.set_cons_succ]
      have hq := HQ.out
      refine wpAnyH_take (i := 4) (oi := ⟨some 58, _, _, _, _, _⟩) (v := ?_) rfl (by kernel_rfl) (by decide +kernel) (by decide +kernel) (fun _ _ _ h => h) (Or.inl ⟨by rfl, ?_⟩) (by assumption) ?_
      rotate_left 1
      · (intro w' hSw; go_simp; try with_reducible rfl)
      try simp only [Act.put, List.setIfInBounds_toArray, List.set_cons_zero, List.set_cons_succ]
      clear hq
      refine wpAnyH_take (i := 5) (oi := ⟨some 59, _, _, _, _, _⟩) (v := ?_) rfl (by kernel_rfl) (by decide +kernel) (by decide +kernel) (fun _ _ _ h => h) (Or.inl ⟨by rfl, ?_⟩) (by assumption) ?_
      rotate_left 1
      · (intro w' hSw; go_simp; try with_reducible rfl)
      try simp only [Act.put, List.setIfInBounds_toArray, List.set_cons_zero, List.set_cons_succ]
      refine wpAnyH_take (i := 6) (oi := ⟨some 60, _, _, _, _, _⟩) (v := ?_) rfl (by kernel_rfl) (by decide +kernel) (by decide +kernel) (fun _ _ _ h => h) (Or.inl ⟨by rfl, ?_⟩) (by assumption) ?_
      rotate_left 1
      · (intro w' hSw; go_simp; try with_reducible rfl)
      try simp only [Act.put, List.setIfInBounds_toArray, List.set_cons_zero, List.set_cons_succ]
      refine wpAnyH_take (i := 7) (oi := ⟨some 61, _, _, _, _, _⟩) (v := ?_) rfl (by kernel_rfl) (by decide +kernel) (by decide +kernel) (fun _ _ _ h => h) (Or.inl ⟨by rfl, ?_⟩) (by assumption) ?_
      rotate_left 1
      · (intro w' hSw; go_simp; try with_reducible rfl)
      try simp only [Act.put, List.setIfInBounds_toArray, List.set_cons_zero, List.set_cons_succ]
      clear hHeld
      have HSM := Lib.hid (same_eq wa _ _ _ (H9.out.2.1.kept HBa.out) (H9.out.2.2.1.kept HBa.out))
      refine wpAnyH_ready (rs := [8]) (by decide +kernel) (by simp) ?_
      refine AllReadyH.cons rfl (fun K hK => ?_) AllReadyH.nil
      go_simp
      go_at_call 17
      refine (HSM.out).mono ?_
      rintro e wb ⟨rfl, rfl⟩
      go_wp2_with fail
      refine hK.out _ _ (HS9.out _ HBa.out) (fun hHeld => ?_)
      clear hK K
      try simp only [Act.put, List.setIfInBounds_toArray, List.set_cons_zero, List.set_cons_succ]
      refine wpAnyH_take (i := 9) (oi := ⟨some 63, _, _, _, _, _⟩) (v := ?_) rfl (by kernel_rfl) (by decide +kernel) (by decide +kernel) (fun _ _ _ h => h) (Or.inl ⟨by rfl, ?_⟩) (by assumption) ?_
      rotate_left 1
      · (intro w' hSw; go_simp; try with_reducible rfl)
      try simp only [Act.put, List.setIfInBounds_toArray, List.set_cons_zero, List.set_cons_succ]
      refine wpAnyH_take (i := 10) (oi := ⟨some 64, _, _, _, _, _⟩) (v := ?_) rfl (by kernel_rfl) (by decide +kernel) (by decide +kernel) (fun _ _ _ h => h) (Or.inl ⟨by rfl, ?_⟩) (by assumption) ?_
      rotate_left 1
      · (intro w' hSw; go_simp; try with_reducible rfl)
      try simp only [Act.put, List.setIfInBounds_toArray, List.set_cons_zero, List.set_cons_succ]
      refine wpAnyH_take (i := 11) (oi := ⟨some 65, _, _, _, _, _⟩) (v := ?_) rfl (by kernel_rfl) (by decide +kernel) (by decide +kernel) (fun _ _ _ h => h) (Or.inl ⟨by rfl, ?_⟩) (by assumption) ?_
      rotate_left 1
      · (intro w' hSw; go_simp; try with_reducible rfl)
      try simp only [Act.put, List.setIfInBounds_toArray, List.set_cons_zero, List.set_cons_succ]
      refine wpAnyH_take (i := 12) (oi := ⟨some 66, _, _, _, _, _⟩) (v := ?_) rfl (by kernel_rfl) (by decide +kernel) (by decide +kernel) (fun _ _ _ h => h) (Or.inl ⟨by rfl, ?_⟩) (by assumption) ?_
      rotate_left 1
      · (intro w' hSw; go_simp; try with_reducible rfl)
      try simp only [Act.put, List.setIfInBounds_toArray, List.set_cons_zero, List.set_cons_succ]
      refine wpAnyH_take (i := 13) (oi := ⟨some 67, _, _, _, _, _⟩) (v := ?_) rfl (by kernel_rfl) (by decide +kernel) (by decide +kernel) (fun _ _ _ h => h) (Or.inl ⟨by rfl, ?_⟩) (by assumption) ?_
      rotate_left 1
      · (intro w' hSw; go_simp; try with_reducible rfl)
      try simp only [Act.put, List.setIfInBounds_toArray, List.set_cons_zero, List.set_cons_succ]
      refine wpAnyH_take (i := 14) (oi := ⟨some 68, _, _, _, _, _⟩) (v := ?_) rfl (by kernel_rfl) (by decide +kernel) (by decide +kernel) (fun _ _ _ h => h) (Or.inl ⟨by rfl, ?_⟩) (by assumption) ?_
      rotate_left 1
      · (intro w' hSw; go_simp; try with_reducible rfl)
      try simp only [Act.put, List.setIfInBounds_toArray, List.set_cons_zero, List.set_cons_succ]
      refine wpAnyH_take (i := 15) (oi := ⟨some 2, _, _, _, _, _⟩) (v := ?_) rfl (by kernel_rfl) (by decide +kernel) (by decide +kernel) (fun _ _ _ h => h) (Or.inl ⟨by rfl, ?_⟩) (by assumption) ?_
      rotate_left 1
      · (intro w' hSw; go_simp; try with_reducible rfl)
      try simp only [Act.put, List.setIfInBounds_toArray, List.set_cons_zero, List.set_cons_succ]
      clear hHeld
      refine wpAnyH_done (by decide +kernel) ?_ _
      refine NoPanic.normal ?_
      have HEND := Lib.hid (H9.out.2.2.2.trans (HBa.out.mono H9.out.2.2.2.size))
      go_wp2_with fail
      go_ret
      exact ⟨by simp, HEND.out⟩
set_option maxRecDepth 100000 in
theorem lifted (os : Os) (started : os.Started) (H : Type) (enc : TypeId × Value → H) :
    ReturnsInHanded {} Try.checked os 3 .any (Rows.ctrStreamsSpec.pre6 enc Try.prog Try.f3 Rows.ctrStreamsRow.domain false) (Rows.ctrStreamsSpec.post enc Try.prog Try.f3 false true false false) := by
  refine returnsInHanded_of_change_sized (C := Try.checked) own started (by kernel_rfl) Try.func3
    (ChangeSpec.witness6 (enc := enc) (C := Try.checked) false ⟨#[], #[.agg (askedCells (zeroY 32) 0 0 0 0)], []⟩ 8 (by kernel_rfl) (by kernel_rfl) (by kernel_rfl) (by kernel_rfl)) ?_
  intro W base args ds gs before hval0 hW hcnd hsz0 _
  have hsz : (DataW.weightsEach Try.prog (Try.f3.params.toList ++ Rows.ctrStreamsSpec.plain.varTypes Try.prog) (ds ++ gs)).all (· ≤ reachBytes) = true := hsz0
  clear hsz0
  have hval : ∀ (j : Nat) t v, Try.f3.params[j]? = some t → args[j]? = some v → Value.okWide Try.prog W .any base t v := hval0
  have hW' := hW
  obtain ⟨p, q, hA0, hV, rfl, hfz, hnd⟩ := hW
  have hA : DataW.TrodAll enc Try.prog W 0 (fun _ => true) true Try.f3.params.toList args.toList ds p := hA0
  rw [Try.params3] at hA hval hsz
  obtain ⟨v0, vs0, d0, ds0, p0, q0, hargs, rfl, rfl, h0, r0⟩ := trodAll_cons hA
  obtain ⟨rfl, rfl, rfl⟩ := trodAll_nil r0
  obtain rfl : args = #[v0] := by cases args; simp_all
  obtain ⟨rfl, rfl⟩ := trodVars_none hV
  have k0 := h0
  have lt0 : ∀ x ∈ p0, x.block < W.heap.size := by obtain ⟨m, hm⟩ := k0; exact DataW.trod_lt m _ _ _ hm
  obtain ⟨k, birth, addr, x, y, rfl, hk, hbirth, haddr, hx0, hx1, hy0, hy1⟩ := open_asked (hval 0 26 v0 rfl rfl) h0 hsz
  clear hA0 hval0
  simp only [List.append_nil] at hW'
  refine (walk W k birth addr x y hk hbirth haddr hx0 hx1 hy0 hy1).mono fun e W' ⟨he, bel⟩ => ?_
  subst he
  exact ⟨_, rfl, _, _, _, [], _, [], hW', trodAll_mk1 (shut_bool Try.underlying4 _), (trodAll_cons_mk (Below.trod laidOut (by kernel_rfl) (of_decide_eq_true (by kernel_rfl)) k0 bel lt0) trodAll_mk0), rfl, bel.frame _, fun h => by cases h⟩

theorem over : Rows.ctrStreamsRow.holds Try.pinned (OpenSpec.ofChange Rows.ctrStreamsSpec) :=
  OpenClaim.holds_of_wide 3 Try.f3 rfl rfl rfl rfl rfl rfl rfl ⟨rfl, rfl, rfl, rfl, rfl⟩ rfl rfl rfl rfl rfl (by kernel_rfl) Try.func3 (by kernel_rfl)
    (of_decide_eq_true (by kernel_rfl)) (by unfold Func.isWrapper; first | (rw [if_pos (by decide +kernel)]; kernel_rfl) | (rw [if_neg (by decide +kernel)]; exact ⟨rfl, rfl⟩))
    (fun os started H enc _ => lifted os started H enc)

/-- The statement. -/
theorem proved : Rows.CtrStreamsSaid := over
#print axioms proved
end Go.Proofs.Ytajfooefofafmaa.ctrStreams
