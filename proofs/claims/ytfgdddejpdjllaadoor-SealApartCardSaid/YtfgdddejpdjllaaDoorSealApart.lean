/-
  'SealApart' returns true at every input, and each argument reads behind the call as it read before. Conditions: the package-level variable that the row lists starts as the program's text lays it (the card ties that).
-/
import Derived.Test.YtfgdddejpdjllaaDoorLaid
import Derived.Test.YtfgdddejpdjllaaDoorCards
import Derived.Test.YtfgdddejpdjllaaDoorTie
import Derived.Test.YtfgdddejpdjllaaDoorEj
import Derived.Deep.CutRange
import Derived.Deep.DeepCutAuto
import Derived.Test.YtfgdddejpdjllaaDoorEk
namespace Go.Proofs.YtfgdddejpdjllaaDoor.sealApart
open Go.ChangeShapes Go.WideShapes Go.ChangeAt Go.RowKit
set_option linter.unusedVariables false


set_option maxRecDepth 100000 in
set_option maxHeartbeats 1600000 in
theorem walk (w : World) (k : List (BitVec 8)) (a : Int) (b : Int) (c : Int) (d : Int) (qf : k.length = 32 ∧ (0 ≤ a ∧ a ≤ 4294967295) ∧ (0 ≤ b ∧ b ≤ 4294967295) ∧ (0 ≤ c ∧ c ≤ 65535) ∧ (0 ≤ d ∧ d ≤ 65535)) (hK : KT w) :
    Calls Tryd.prog 8 #[.agg (two12Cells k a b c d).toArray] w fun e w' => e = .returned (.bool true) ∧ Below w.heap.size w w' := by
  obtain ⟨hk, ⟨a0, a1⟩, ⟨b0, b1⟩, ⟨c0, c1⟩, ⟨d0, d1⟩⟩ := qf
  have HLk := Lib.hid hk
  have HAL := Lib.hid (fun (W : World) (hb : Below w.heap.size w W) => alive12_any W (hK.below hb hK.pos))
  have HK := Lib.hid hK
  have hA0 := heap_alloc_new w (.cells (two12Cells k a b c d).toArray 69)
  have hB0 := (Below.refl w.heap.size w).alloc (Nat.le_refl _) (.cells (two12Cells k a b c d).toArray 69)
  have Ik := Lib.hid (info_rkeyL k hk)
  have Sk := Lib.hid (size_arr32 k hk)
  have Ek := Lib.hid (show (yvs (zeroY 32)).size = (yvs k).size by rw [yvs_size, yvs_size, hk]; rfl)
  have HCL := Lib.hid (fun (W : World) (h : W.heap[w.heap.size]? = some (.cells (two12Cells k a b c d).toArray 69 (0, 0))) => show W.rangeAt w.heap.size 0 (yvs k).toList ∧ W.cell? ⟨w.heap.size, 32, none⟩ = some (.int .u32 a) ∧ W.cell? ⟨w.heap.size, 33, none⟩ = some (.int .u32 b) ∧ W.cell? ⟨w.heap.size, 34, none⟩ = some (.int .u16 c) ∧ W.cell? ⟨w.heap.size, 35, none⟩ = some (.int .u16 d) from two12_at k a b c d h hk)
  clear hK hk
  generalize hcl : (two12Cells k a b c d).toArray = CL at *
  clear hcl
  have hz32 := zero_arr32
  go_enter Tryd.func8, Tryd.ntmps8
  go_wp2_with fail
  refine (HAL.out _ hB0).mono ?_
  rintro e w1 ⟨rfl, hb1⟩
  have hA1 := (hb1.block w.heap.size (lt_of_block hA0)).trans hA0
  have HBW1 := Lib.hid (hB0.trans (hb1.mono hB0.size))
  have HS := Lib.hid (show ∀ W, Below w1.heap.size w1 W → W.rangeAt w.heap.size 0 (yvs k).toList ∧ W.cell? ⟨w.heap.size, 32, none⟩ = some (.int .u32 a) ∧ W.cell? ⟨w.heap.size, 33, none⟩ = some (.int .u32 b) ∧ W.cell? ⟨w.heap.size, 34, none⟩ = some (.int .u16 c) ∧ W.cell? ⟨w.heap.size, 35, none⟩ = some (.int .u16 d) from fun W hW => HCL.out W ((hW.block _ (lt_of_block hA1)).trans hA1))
  clear hA0 hB0 hb1 hA1 HAL HCL
  go_upto_region 3 with (fail)
  go_cut [3, 4, 5, 6, 7] from 8 (fun v3 v4 v5 v6 v7 wc => ∃ X, v3 = .pointer (some ⟨X, 0, none⟩) ∧ v4 = .int .u32 a ∧ v5 = .int .u32 b ∧ v6 = .int .u16 c ∧ v7 = .int .u16 d ∧ Below w1.heap.size w1 wc ∧ wc.heap[X]? = some (.cells (yvs k) 24 (0, 0)) ∧ w1.heap.size ≤ X)
  case first =>
    try simp only [Act.put]
    refine wp_region_noPanic ?_
    refine wp_region_held_drew (S := fun W => W.rangeAt w.heap.size 0 (yvs k).toList ∧ W.cell? ⟨w.heap.size, 32, none⟩ = some (.int .u32 a) ∧ W.cell? ⟨w.heap.size, 33, none⟩ = some (.int .u32 b) ∧ W.cell? ⟨w.heap.size, 34, none⟩ = some (.int .u16 c) ∧ W.cell? ⟨w.heap.size, 35, none⟩ = some (.int .u16 d)) (by kernel_rfl) (HS.out _ (Below.refl _ w1).drew) (fun hHeld => ?_)
    refine wpAnyH_take (i := 0) (oi := ⟨some 23, _, _, _, _, _⟩) (v := ?_) rfl (by kernel_rfl) (by decide +kernel) (by decide +kernel) (fun _ _ _ h => h) (Or.inl ⟨by rfl, ?_⟩) (by assumption) ?_
    rotate_left 1
    · (intro w' hSw; go_simp; try with_reducible rfl)
    try simp only [Act.put, List.setIfInBounds_toArray, List.set_cons_zero, List.set_cons_succ]
    refine wpAnyH_take (i := 1) (oi := ⟨some 24, _, _, _, _, _⟩) rfl (by kernel_rfl) (by decide +kernel) (by decide +kernel) (fun _ _ _ h => h) (yieldsIf_load_mid (by rfl) _ _ rfl (w.heap.size) (0) rfl (yvs k).toList _ (fun w' h => h.1) Tryd.underlying24 rfl Ik.out) (by assumption) ?_
    try simp only [Act.put, List.setIfInBounds_toArray, List.set_cons_zero, List.set_cons_succ, Array.toArray_toList]
    refine wpAnyH_take (i := 2) (oi := ⟨some 25, _, _, _, _, _⟩) (v := ?_) rfl (by kernel_rfl) (by decide +kernel) (by decide +kernel) (fun _ _ _ h => h) (Or.inl ⟨by rfl, ?_⟩) (by assumption) ?_
    rotate_left 1
    · (intro w' hSw; go_simp; try with_reducible rfl)
    try simp only [Act.put, List.setIfInBounds_toArray, List.set_cons_zero, List.set_cons_succ]
    refine wpAnyH_take (i := 3) (oi := ⟨some 26, _, _, _, _, _⟩) (v := ?_) rfl (by kernel_rfl) (by decide +kernel) (by decide +kernel) (fun _ _ _ h => h) (Or.inl ⟨by rfl, ?_⟩) (by assumption) ?_
    rotate_left 1
    · (intro w' hSw; have hcell := hSw.2.1; clear hSw; go_simp; try with_reducible rfl)
    try simp only [Act.put, List.setIfInBounds_toArray, List.set_cons_zero, List.set_cons_succ]
    refine wpAnyH_take (i := 4) (oi := ⟨some 27, _, _, _, _, _⟩) (v := ?_) rfl (by kernel_rfl) (by decide +kernel) (by decide +kernel) (fun _ _ _ h => h) (Or.inl ⟨by rfl, ?_⟩) (by assumption) ?_
    rotate_left 1
    · (intro w' hSw; go_simp; try with_reducible rfl)
    try simp only [Act.put, List.setIfInBounds_toArray, List.set_cons_zero, List.set_cons_succ]
    refine wpAnyH_take (i := 5) (oi := ⟨some 28, _, _, _, _, _⟩) (v := ?_) rfl (by kernel_rfl) (by decide +kernel) (by decide +kernel) (fun _ _ _ h => h) (Or.inl ⟨by rfl, ?_⟩) (by assumption) ?_
    rotate_left 1
    · (intro w' hSw; have hcell := hSw.2.2.1; clear hSw; go_simp; try with_reducible rfl)
    try simp only [Act.put, List.setIfInBounds_toArray, List.set_cons_zero, List.set_cons_succ]
    refine wpAnyH_take (i := 6) (oi := ⟨some 29, _, _, _, _, _⟩) (v := ?_) rfl (by kernel_rfl) (by decide +kernel) (by decide +kernel) (fun _ _ _ h => h) (Or.inl ⟨by rfl, ?_⟩) (by assumption) ?_
    rotate_left 1
    · (intro w' hSw; go_simp; try with_reducible rfl)
    try simp only [Act.put, List.setIfInBounds_toArray, List.set_cons_zero, List.set_cons_succ]
    refine wpAnyH_take (i := 7) (oi := ⟨some 30, _, _, _, _, _⟩) (v := ?_) rfl (by kernel_rfl) (by decide +kernel) (by decide +kernel) (fun _ _ _ h => h) (Or.inl ⟨by rfl, ?_⟩) (by assumption) ?_
    rotate_left 1
    · (intro w' hSw; have hcell := hSw.2.2.2.1; clear hSw; go_simp; try with_reducible rfl)
    try simp only [Act.put, List.setIfInBounds_toArray, List.set_cons_zero, List.set_cons_succ]
    refine wpAnyH_take (i := 8) (oi := ⟨some 31, _, _, _, _, _⟩) (v := ?_) rfl (by kernel_rfl) (by decide +kernel) (by decide +kernel) (fun _ _ _ h => h) (Or.inl ⟨by rfl, ?_⟩) (by assumption) ?_
    rotate_left 1
    · (intro w' hSw; go_simp; try with_reducible rfl)
    try simp only [Act.put, List.setIfInBounds_toArray, List.set_cons_zero, List.set_cons_succ]
    refine wpAnyH_take (i := 9) (oi := ⟨some 32, _, _, _, _, _⟩) (v := ?_) rfl (by kernel_rfl) (by decide +kernel) (by decide +kernel) (fun _ _ _ h => h) (Or.inl ⟨by rfl, ?_⟩) (by assumption) ?_
    rotate_left 1
    · (intro w' hSw; have hcell := hSw.2.2.2.2; clear hSw; go_simp; try with_reducible rfl)
    try simp only [Act.put, List.setIfInBounds_toArray, List.set_cons_zero, List.set_cons_succ]
    clear hHeld
    have HB0 := Lib.hid (Below.refl w1.heap.size w1).drew
    refine wpAnyH_ready (rs := [10]) (by decide +kernel) (by simp) ?_
    refine AllReadyH.cons rfl (fun K hK => ?_) AllReadyH.nil
    go_simp
    have hal := HB0.out.alloc HB0.out.size (.cells (yvs (zeroY 32)) 24)
    have hxl := heap_alloc_new (w1.drew) (.cells (yvs (zeroY 32)) 24)
    have hst := (Below.refl (w1.drew).heap.size (w1.drew)).alloc (Nat.le_refl _) (.cells (yvs (zeroY 32)) 24)
    refine hK.out _ _ (HS.out _ hal) (fun hHeld => ?_)
    clear hK K hHeld
    try simp only [Act.put, List.setIfInBounds_toArray, List.set_cons_zero, List.set_cons_succ]
    refine (show ∀ wa1 : World, wa1 = (w1.drew).alloc (.cells (yvs (zeroY 32)) 24) → _ from ?_) _ rfl
    intro wa1 ew
    rw [← ew] at hal hxl hst
    have HF01 := Lib.hid (show wa1.heap[w1.heap.size]? = _ from hxl)
    have HG01 := Lib.hid (show w1.heap.size ≤ w1.heap.size from HB0.out.size)
    have HB1 := Lib.hid hal
    clear ew hal hxl hst
    refine wpAnyH_ready (rs := [11]) (by decide +kernel) (by simp) ?_
    refine AllReadyH.cons rfl (fun K hK => ?_) AllReadyH.nil
    rw [if_pos (by kernel_rfl)]
    refine wp_store_row (o := ⟨none, .store _ (.tmp 3) _, _, _, _, _⟩) 24 _ _ rfl (w1.heap.size) (yvs k) rfl rfl 24 (yvs (zeroY 32)) (show (wa1).heap[w1.heap.size]? = _ from HF01.out) Sk.out Ek.out (yvs_one _) ?_
    refine hK.out _ _ (HS.out _ (ybelow_row HB1.out HG01.out (yvs k))) (fun hHeld => ?_)
    clear hK K hHeld
    simp only [Act.put]
    have hHeld := HS.out _ (ybelow_row HB1.out HG01.out (yvs k))
    refine wpAnyH_take (i := 12) (oi := ⟨some 4, _, _, _, _, _⟩) (v := ?_) rfl (by kernel_rfl) (by decide +kernel) (by decide +kernel) (fun _ _ _ h => h) (Or.inl ⟨by rfl, ?_⟩) (by assumption) ?_
    rotate_left 1
    · (intro w' hSw; go_simp; try with_reducible rfl)
    try simp only [Act.put, List.setIfInBounds_toArray, List.set_cons_zero, List.set_cons_succ]
    refine wpAnyH_take (i := 13) (oi := ⟨some 5, _, _, _, _, _⟩) (v := ?_) rfl (by kernel_rfl) (by decide +kernel) (by decide +kernel) (fun _ _ _ h => h) (Or.inl ⟨by rfl, ?_⟩) (by assumption) ?_
    rotate_left 1
    · (intro w' hSw; go_simp; try with_reducible rfl)
    try simp only [Act.put, List.setIfInBounds_toArray, List.set_cons_zero, List.set_cons_succ]
    refine wpAnyH_take (i := 14) (oi := ⟨some 6, _, _, _, _, _⟩) (v := ?_) rfl (by kernel_rfl) (by decide +kernel) (by decide +kernel) (fun _ _ _ h => h) (Or.inl ⟨by rfl, ?_⟩) (by assumption) ?_
    rotate_left 1
    · (intro w' hSw; go_simp; try with_reducible rfl)
    try simp only [Act.put, List.setIfInBounds_toArray, List.set_cons_zero, List.set_cons_succ]
    refine wpAnyH_take (i := 15) (oi := ⟨some 7, _, _, _, _, _⟩) (v := ?_) rfl (by kernel_rfl) (by decide +kernel) (by decide +kernel) (fun _ _ _ h => h) (Or.inl ⟨by rfl, ?_⟩) (by assumption) ?_
    rotate_left 1
    · (intro w' hSw; go_simp; try with_reducible rfl)
    try simp only [Act.put, List.setIfInBounds_toArray, List.set_cons_zero, List.set_cons_succ]
    clear hHeld
    refine wpAnyH_done (by decide +kernel) ?_ _
    refine NoPanic.normal ?_
    go_wp2_with fail
    go_meet
    exact ⟨w1.heap.size, rfl, rfl, rfl, rfl, rfl, (ybelow_row HB1.out HG01.out (yvs k)), (setRow_heap _ _ _ (yvs k) _ _ HF01.out), HG01.out⟩
  case rest =>
    obtain ⟨X, rfl, rfl, rfl, rfl, rfl, hbc, hX, hgX⟩ := hcut
    have HBC := Lib.hid (HBW1.out.trans (hbc.mono HBW1.out.size))
    have HXX := Lib.hid hX
    have HGX := Lib.hid (Nat.le_trans HBW1.out.size hgX)
    clear hgX
    clear hbc HS HBW1 hz32 hX
    obtain ⟨am, rfl⟩ : ∃ z : Nat, a = (z : Int) := ⟨a.toNat, by omega⟩
    obtain ⟨bm, rfl⟩ : ∃ z : Nat, b = (z : Int) := ⟨b.toNat, by omega⟩
    obtain ⟨cm, rfl⟩ : ∃ z : Nat, c = (z : Int) := ⟨c.toNat, by omega⟩
    obtain ⟨dm, rfl⟩ : ∃ z : Nat, d = (z : Int) := ⟨d.toNat, by omega⟩
    obtain ⟨m, hm⟩ : ∃ z : Nat, (am : Int) + 1 = (z : Int) := ⟨am + 1, by simp⟩
    obtain ⟨n, hn⟩ : ∃ z : Nat, (bm : Int) + 1 = (z : Int) := ⟨bm + 1, by simp⟩
    obtain ⟨p, hp⟩ : ∃ z : Nat, 2 + (cm : Int) % 4000 = (z : Int) := ⟨2 + cm % 4000, by simp⟩
    obtain ⟨o, ho⟩ : ∃ z : Nat, 2 + (dm : Int) % 4000 = (z : Int) := ⟨2 + dm % 4000, by simp⟩
    have HMN := Lib.hid (show (m < 18446744073709551616 ∧ m ≠ 0 ∧ 2 ≤ p ∧ p < 4096 ∧ p < 4294967296) ∧ (n < 18446744073709551616 ∧ n ≠ 0 ∧ 2 ≤ o ∧ o < 4096 ∧ o < 4294967296) from ⟨⟨by omega, by omega, by omega, by omega, by omega⟩, by omega, by omega, by omega, by omega, by omega⟩)
    have hw1 : IntKind.u64.wrap ((am : Int) + 1) = (am : Int) + 1 := IntWalk.u64_in _ (by omega)
    have hw2 : IntKind.u64.wrap ((bm : Int) + 1) = (bm : Int) + 1 := IntWalk.u64_in _ (by omega)
    have hw3 : IntKind.u32.wrap (2 + (cm : Int) % 4000) = 2 + (cm : Int) % 4000 := IntWalk.u32_in _ (by omega)
    have hw4 : IntKind.u32.wrap (2 + (dm : Int) % 4000) = 2 + (dm : Int) % 4000 := IntWalk.u32_in _ (by omega)
    have HA := Lib.hid hm
    have HB := Lib.hid hn
    have HC := Lib.hid hp
    have HD := Lib.hid ho
    clear hm hn hp ho
    go_upto_region 6 with fail
    simp only [HA.out, HB.out, HC.out, HD.out]
    clear hw1 hw2 hw3 hw4 a0 a1 b0 b1 c0 c1 d0 d1 HA HB HC HD
    have hkz : (k ++ zeroY 32).length = 64 := by rw [List.length_append, HLk.out]; rfl
    have SK := Lib.hid (size_keys _ hkz)
    have IK := Lib.hid (info_keys64 _ hkz)
    have SL := Lib.hid (show (yvs (zeroY 64)).size = (yvs (k ++ zeroY 32)).size by rw [yvs_size, yvs_size, hkz]; rfl)
    have SO := Lib.hid (yvs_one (k ++ zeroY 32))
    have HBP := Lib.hid (penc_build k HLk.out)
    have hz1 := zero_keys
    have hz := zero_ptr
    clear hkz
    have HBLN := Lib.hid (fun (W : World) => block_nil none 0 W)
    rw [blockL_nil] at HBLN
    have HSEA := Lib.hid (fun (W : World) (g : Nat) (hW : Below w.heap.size w W) (hg : ArrY W g 5 (zeroY 512)) => pseal_ok k (zeroY 32) m p (zeroY 512) (some ⟨g, 0, none⟩) 512 W (HK.out.below hW HK.out.pos) HLk.out rfl (by simp [zeroY]) (BS.of_arr0 hg (by simp [zeroY])) HMN.out.1.1 HMN.out.1.2.1 HMN.out.1.2.2.1 HMN.out.1.2.2.2.1)
    have HSEB := Lib.hid (fun (W : World) (g : Nat) (hW : Below w.heap.size w W) (hg : ArrY W g 5 (zeroY 512)) => pseal_ok k (zeroY 32) n o (zeroY 512) (some ⟨g, 0, none⟩) 512 W (HK.out.below hW HK.out.pos) HLk.out rfl (by simp [zeroY]) (BS.of_arr0 hg (by simp [zeroY])) HMN.out.2.1 HMN.out.2.2.1 HMN.out.2.2.2.1 HMN.out.2.2.2.2.1)
    have HFA := Lib.hid (first_block k HLk.out m p)
    have HFB := Lib.hid (first_block k HLk.out n o)
    have HIJ := Lib.hid (first_inj k HLk.out m n p o HMN.out.1.1 HMN.out.2.1 HMN.out.1.2.2.2.2 HMN.out.2.2.2.2.2)
    have hUl : (sealB (keysL k) (firstB m p)).length = 16 := sealB_length _ _ (keysL_length k HLk.out)
    have hVl : (sealB (keysL k) (firstB n o)).length = 16 := sealB_length _ _ (keysL_length k HLk.out)
    have HOP := Lib.hid (fun W => by
      have h := open_any k (sealB (keysL k) (firstB m p)) W HLk.out hUl
      rw [open_seal _ _ (keysL_length k HLk.out) (firstB_length m p)] at h
      exact h)
    have HNE := Lib.hid (fun W => show (Op.equalIn 10000 71 (.agg (yvs (firstB m p))) (.agg #[.int .u8 0, .int .u8 0, .int .u8 0, .int .u8 0, .int .u8 0, .int .u8 0, .int .u8 0, .int .u8 0, .int .u8 0, .int .u8 0, .int .u8 0, .int .u8 0, .int .u8 0, .int .u8 0, .int .u8 0, .int .u8 0])).run Tryd.prog W = .ok false W by
      rw [show (#[.int .u8 0, .int .u8 0, .int .u8 0, .int .u8 0, .int .u8 0, .int .u8 0, .int .u8 0, .int .u8 0, .int .u8 0, .int .u8 0, .int .u8 0, .int .u8 0, .int .u8 0, .int .u8 0, .int .u8 0, .int .u8 0] : Array Value) = yvs (zeroY 16) by rw [yvs_zero]; rfl, eq_block _ _ (firstB_length m p) (by simp [zeroY]), decide_eq_false (first_ne m p HMN.out.1.1 HMN.out.1.2.1)])
    have HEB := Lib.hid (fun W => eq_block (sealB (keysL k) (firstB m p)) (sealB (keysL k) (firstB n o)) hUl hVl W)
    have SU := Lib.hid (size_block _ hUl)
    have SV := Lib.hid (size_block _ hVl)
    have IU := Lib.hid (info_blk _ hUl)
    have IV := Lib.hid (info_blk _ hVl)
    have EU := Lib.hid (show (yvs (zeroY 16)).size = (yvs (sealB (keysL k) (firstB m p))).size by rw [yvs_size, yvs_size, hUl]; rfl)
    have EV := Lib.hid (show (yvs (zeroY 16)).size = (yvs (sealB (keysL k) (firstB n o))).size by rw [yvs_size, yvs_size, hVl]; rfl)
    have HD1 := Lib.hid (fun (W : World) (hW : Below w.heap.size w W) (hX : ArrY W X 24 k) => show Calls Tryd.prog 26 #[.slice (some ⟨X, 0, none⟩) 32 32, .string ⟨#[101, 110, 99]⟩] W fun e w' => e = .returned (.agg (u8s (macS (k.map yv) [101, 110, 99]))) ∧ Below W.heap.size W w' from
      derive_any (k.map yv) (.slice (some ⟨X, 0, none⟩) 32 32) ⟨#[101, 110, 99]⟩ W (HK.out.below hW HK.out.pos) (BS.of_arr0 hX HLk.out) (room_of _ _ _ (by decide) (by decide)) (by rw [List.length_map, HLk.out]; decide) (by decide))
    have HD2 := Lib.hid (fun (W : World) (hW : Below w.heap.size w W) (hX : ArrY W X 24 k) => pkeysK_any (k.map yv) (.slice (some ⟨X, 0, none⟩) 32 32) W (BS.of_arr0 hX HLk.out) (room_of _ _ _ (by decide) (by decide)) (HK.out.below hW HK.out.pos) (by rw [List.length_map, HLk.out]; decide))
    have HFD := Lib.hid (field_enc (encK (k.map yv)) (macK (k.map yv)) (encK_length _))
    have hyv : yvs (encK (k.map yv)) = u8s (macS (k.map yv) [101, 110, 99]) := yvs_toY _ (macS_byt _ _)
    have HHE := Lib.hid (fun W => eq_hash_same (macS (k.map yv) [101, 110, 99]) (macS_length _ _) (macS_byt _ _) W)
    rw [hyv] at HFD
    clear hyv hUl hVl
    have hsla := sealS_length k m p (zeroY 512) (by simp [zeroY])
    have hslb := sealS_length k n o (zeroY 512) (by simp [zeroY])
    have HSLA := Lib.hid hsla
    have HSLB := Lib.hid hslb
    clear hsla hslb
    generalize sealS k m p (zeroY 512) = SA at *
    generalize sealS k n o (zeroY 512) = SB at *
    generalize sealB (keysL k) (firstB m p) = U at *
    generalize sealB (keysL k) (firstB n o) = V at *
    generalize yvs (encK (k.map yv) ++ macK (k.map yv)) = KE at *
    generalize u8s (macS (k.map yv) [101, 110, 99]) = HE at *
    generalize firstB m p = NU at *
    have SPA := Lib.hid (size_ptrA (ptrOf m p (SA.map yv)))
    have SPB := Lib.hid (size_ptrA (ptrOf n o (SB.map yv)))
    have EPA := Lib.hid (show (ptrRow zeroPtr).toArray.size = (ptrRow (ptrOf m p (SA.map yv))).toArray.size by simp [ptrRow_length])
    have EPB := Lib.hid (show (ptrRow zeroPtr).toArray.size = (ptrRow (ptrOf n o (SB.map yv))).toArray.size by simp [ptrRow_length])
    have OPA := Lib.hid (ptrRow_one (ptrOf m p (SA.map yv)))
    have OPB := Lib.hid (ptrRow_one (ptrOf n o (SB.map yv)))
    generalize ptrOf m p (SA.map yv) = PTA at *
    generalize ptrOf n o (SB.map yv) = PTB at *
    generalize hPRA : (ptrRow PTA).toArray = PRA at *
    generalize hPRB : (ptrRow PTB).toArray = PRB at *
    have HPRA := Lib.hid hPRA
    have HPRB := Lib.hid hPRB
    generalize (ptrRow zeroPtr).toArray = PZ at *
    generalize yvs (k ++ zeroY 32) = KM at *
    generalize yvs (zeroY 64) = ZK at *
    generalize zeroY 512 = ZB at *
    clear hPRA hPRB
    go_upto_region 7 with (first
      | (with_reducible refine wpList_load_row (o := ⟨some 47, _, _, _, _, _⟩) rfl 24 _ rfl X rfl 24 (yvs k) (0, 0) _ HXX.out Tryd.underlying24 rfl Sk.out ?_)
      | (with_reducible refine wpList_build_run (o := ⟨some 48, _, _, _, _, _⟩) rfl 28 _ rfl #[(0, .agg (yvs k))] (by simp [Act.eval, Act.put]) (.agg KM) (HBP.out _) ?_)
      | (with_reducible refine wpList_store_row (o := ⟨none, .store _ (.tmp 12) _, _, _, _, _⟩) rfl 28 _ _ rfl wc.heap.size KM rfl rfl 28 ZK (heap_alloc_new wc _) SK.out SL.out SO.out ?_))
    generalize hWs : World.setRow _ wc.heap.size _ = ws101
    obtain ⟨r1, hb⟩ := fresh_one wc ZK KM 28 ws101 hWs.symm
    have RNK := Lib.hid r1
    have RX102 := Lib.hid ((hb.block _ (lt_of_block HXX.out)).trans HXX.out)
    have HB102 := Lib.hid (HBC.out.trans (hb.mono HBC.out.size))
    clear HXX HBC
    clear hWs r1 hb
    generalize wc.heap.size = BK at *
    clear hz1
    simp only [Act.put]
    have HSV1 := Lib.hid (show ∀ W, Below ws101.heap.size ws101 W → W.rangeAt BK 0 KM.toList from fun W hW => range_of_row (by rw [Array.toArray_toList]; exact (hW.block _ (lt_of_block RNK.out)).trans RNK.out))
    have HBK1 := Lib.hid (fun (W : World) (hW : Below ws101.heap.size ws101 W) => (fun _ => HBLN.out W) (HB102.out.trans (hW.mono HB102.out.size)))
    have HSE1 := Lib.hid (fun (W : World) (g : Nat) (hW : Below ws101.heap.size ws101 W) => HSEA.out W g (HB102.out.trans (hW.mono HB102.out.size)))
    have HPR := HPRA
    go_cut [13, 14, 15] from 16 (fun va vb vc wc => ∃ c q, va = .slice (some ⟨c, 0, none⟩) 512 512 ∧ vb = .pointer (some ⟨q, 0, none⟩) ∧ vc = .int .i64 0 ∧ SD ws101 wc c q SA PTA)
    case first =>
      try simp only [Act.put]
      refine wp_region_noPanic ?_
      refine wp_region_held_drew (S := fun W => W.rangeAt BK 0 KM.toList) (by kernel_rfl) (HSV1.out _ (Below.refl _ ws101).drew) (fun hHeld => ?_)
      refine wpAnyH_take (i := 0) (oi := ⟨some 50, _, _, _, _, _⟩) rfl (by kernel_rfl) (by decide +kernel) (by decide +kernel) (fun _ _ _ h => h) (yieldsIf_load_mid (by rfl) _ _ rfl (BK) (0) rfl KM.toList _ (fun w' h => h) Tryd.underlying28 rfl IK.out) (by assumption) ?_
      try simp only [Act.put, List.setIfInBounds_toArray, List.set_cons_zero, List.set_cons_succ, Array.toArray_toList]
      refine wpAnyH_take (i := 1) (oi := ⟨some 51, _, _, _, _, _⟩) (v := ?_) rfl (by kernel_rfl) (by decide +kernel) (by decide +kernel) (fun _ _ _ h => h) (Or.inl ⟨by rfl, ?_⟩) (by assumption) ?_
      rotate_left 1
      · (intro w' hSw; go_simp; try with_reducible rfl)
      try simp only [Act.put, List.setIfInBounds_toArray, List.set_cons_zero, List.set_cons_succ]
      refine wpAnyH_take (i := 2) (oi := ⟨some 52, _, _, _, _, _⟩) (v := ?_) rfl (by kernel_rfl) (by decide +kernel) (by decide +kernel) (fun _ _ _ h => h) (Or.inl ⟨by rfl, ?_⟩) (by assumption) ?_
      rotate_left 1
      · (intro w' hSw; go_simp; try with_reducible rfl)
      try simp only [Act.put, List.setIfInBounds_toArray, List.set_cons_zero, List.set_cons_succ]
      clear hHeld
      have HB0 := Lib.hid (Below.refl ws101.heap.size ws101).drew
      refine wpAnyH_ready (rs := [3, 9]) (by decide +kernel) (by simp) ?_
      refine AllReadyH.cons rfl (fun K hK => ?_) (AllReadyH.cons rfl (fun K hK => ?_) AllReadyH.nil)
      · go_simp
        go_at_call 22
        refine (HBK1.out _ HB0.out).mono ?_
        rintro e wt1 ⟨rfl, hA, hst⟩
        have HB1 := Lib.hid (HB0.out.trans (hst.mono HB0.out.size))
        have HK1 := Lib.hid hA
        clear hA hst
        go_wp2_with fail
        refine hK.out _ _ (HSV1.out _ HB1.out) (fun hHeld => ?_)
        clear hK K hHeld
        try simp only [Act.put, List.setIfInBounds_toArray, List.set_cons_zero, List.set_cons_succ]
        refine wpAnyH_ready (rs := [4, 9]) (by decide +kernel) (by simp) ?_
        refine AllReadyH.cons rfl (fun K hK => ?_) (AllReadyH.cons rfl (fun K hK => ?_) AllReadyH.nil)
        · go_simp
          go_at_call 14
          refine (HSE1.out _ _ HB1.out HK1.out).mono ?_
          intro e wt2 hso
          unfold SealOf at hso
          rw [HPR.out] at hso
          obtain ⟨gc2, hgc, rfl, hA, hst⟩ := hso
          have HB2 := Lib.hid (HB1.out.trans (hst.mono HB1.out.size))
          have HC2 := Lib.hid hA
          have HGC2 := Lib.hid (Nat.le_trans HB1.out.size hgc)
          clear hA hst hgc
          go_wp2_with fail
          refine hK.out _ _ (HSV1.out _ HB2.out) (fun hHeld => ?_)
          clear hK K
          try simp only [Act.put, List.setIfInBounds_toArray, List.set_cons_zero, List.set_cons_succ]
          refine wpAnyH_take (i := 5) (oi := ⟨some 49, _, _, _, _, _⟩) (v := ?_) rfl (by kernel_rfl) (by decide +kernel) (by decide +kernel) (fun _ _ _ h => h) (Or.inl ⟨by rfl, ?_⟩) (by assumption) ?_
          rotate_left 1
          · (intro w' hSw; go_simp; try with_reducible rfl)
          try simp only [Act.put, List.setIfInBounds_toArray, List.set_cons_zero, List.set_cons_succ]
          refine wpAnyH_take (i := 6) (oi := ⟨some 55, _, _, _, _, _⟩) (v := ?_) rfl (by kernel_rfl) (by decide +kernel) (by decide +kernel) (fun _ _ _ h => h) (Or.inl ⟨by rfl, ?_⟩) (by assumption) ?_
          rotate_left 1
          · (intro w' hSw; go_simp; try with_reducible rfl)
          try simp only [Act.put, List.setIfInBounds_toArray, List.set_cons_zero, List.set_cons_succ]
          refine wpAnyH_take (i := 7) (oi := ⟨some 56, _, _, _, _, _⟩) (v := ?_) rfl (by kernel_rfl) (by decide +kernel) (by decide +kernel) (fun _ _ _ h => h) (Or.inl ⟨by rfl, ?_⟩) (by assumption) ?_
          rotate_left 1
          · (intro w' hSw; go_simp; try with_reducible rfl)
          try simp only [Act.put, List.setIfInBounds_toArray, List.set_cons_zero, List.set_cons_succ]
          refine wpAnyH_take (i := 8) (oi := ⟨some 57, _, _, _, _, _⟩) (v := ?_) rfl (by kernel_rfl) (by decide +kernel) (by decide +kernel) (fun _ _ _ h => h) (Or.inl ⟨by rfl, ?_⟩) (by assumption) ?_
          rotate_left 1
          · (intro w' hSw; go_simp; try with_reducible rfl)
          try simp only [Act.put, List.setIfInBounds_toArray, List.set_cons_zero, List.set_cons_succ]
          clear hHeld
          refine wpAnyH_ready (rs := [9]) (by decide +kernel) (by simp) ?_
          refine AllReadyH.cons rfl (fun K hK => ?_) AllReadyH.nil
          go_simp
          have hal := HB2.out.alloc HB2.out.size (.cells PZ 41)
          have hxl := heap_alloc_new (wt2) (.cells PZ 41)
          have hst := (Below.refl (wt2).heap.size (wt2)).alloc (Nat.le_refl _) (.cells PZ 41)
          refine hK.out _ _ (HSV1.out _ hal) (fun hHeld => ?_)
          clear hK K hHeld
          try simp only [Act.put, List.setIfInBounds_toArray, List.set_cons_zero, List.set_cons_succ]
          refine (show ∀ wa3 : World, wa3 = (wt2).alloc (.cells PZ 41) → _ from ?_) _ rfl
          intro wa3 ew
          rw [← ew] at hal hxl hst
          have HC3 := Lib.hid ((hst.block _ (lt_of_block HC2.out)).trans HC2.out)
          have HA3 := Lib.hid (show wa3.heap[wt2.heap.size]? = _ from hxl)
          have HGA3 := Lib.hid (show ws101.heap.size ≤ wt2.heap.size from HB2.out.size)
          have HB3 := Lib.hid hal
          have HECA3 := Lib.hid (show gc2 ≠ wt2.heap.size from Nat.ne_of_lt (lt_of_block HC2.out))
          clear ew hal hxl hst
          have hHeld := HSV1.out _ HB3.out
          refine wpAnyH_take (i := 10) (oi := ⟨some 13, _, _, _, _, _⟩) (v := ?_) rfl (by kernel_rfl) (by decide +kernel) (by decide +kernel) (fun _ _ _ h => h) (Or.inl ⟨by rfl, ?_⟩) (by assumption) ?_
          rotate_left 1
          · (intro w' hSw; go_simp; try with_reducible rfl)
          try simp only [Act.put, List.setIfInBounds_toArray, List.set_cons_zero, List.set_cons_succ]
          clear hHeld
          refine wpAnyH_ready (rs := [11]) (by decide +kernel) (by simp) ?_
          refine AllReadyH.cons rfl (fun K hK => ?_) AllReadyH.nil
          rw [if_pos (by kernel_rfl)]
          refine wp_store_row (o := ⟨none, .store _ (.tmp 14) _, _, _, _, _⟩) 41 _ _ rfl (wt2.heap.size) PRA rfl rfl 41 PZ (show (wa3).heap[wt2.heap.size]? = _ from HA3.out) SPA.out EPA.out OPA.out ?_
          refine hK.out _ _ (HSV1.out _ (ybelow_row HB3.out HGA3.out PRA)) (fun hHeld => ?_)
          clear hK K hHeld
          simp only [Act.put]
          have hHeld := HSV1.out _ (ybelow_row HB3.out HGA3.out PRA)
          refine wpAnyH_take (i := 12) (oi := ⟨some 15, _, _, _, _, _⟩) (v := ?_) rfl (by kernel_rfl) (by decide +kernel) (by decide +kernel) (fun _ _ _ h => h) (Or.inl ⟨by rfl, ?_⟩) (by assumption) ?_
          rotate_left 1
          · (intro w' hSw; go_simp; try with_reducible rfl)
          try simp only [Act.put, List.setIfInBounds_toArray, List.set_cons_zero, List.set_cons_succ]
          clear hHeld
          refine wpAnyH_done (by decide +kernel) ?_ _
          refine NoPanic.normal ?_
          go_wp2_with fail
          go_meet
          exact ⟨gc2, wt2.heap.size, rfl, rfl, rfl, ⟨ybelow_row HB3.out HGA3.out PRA, (setRow_other _ _ _ _ HECA3.out).trans HC3.out, by rw [HPR.out]; exact setRow_heap _ _ _ _ _ _ HA3.out, HECA3.out, HGC2.out, HGA3.out⟩⟩
        · go_simp
          have hal := HB1.out.alloc HB1.out.size (.cells PZ 41)
          have hxl := heap_alloc_new (wt1) (.cells PZ 41)
          have hst := (Below.refl (wt1).heap.size (wt1)).alloc (Nat.le_refl _) (.cells PZ 41)
          refine hK.out _ _ (HSV1.out _ hal) (fun hHeld => ?_)
          clear hK K hHeld
          try simp only [Act.put, List.setIfInBounds_toArray, List.set_cons_zero, List.set_cons_succ]
          refine (show ∀ wa5 : World, wa5 = (wt1).alloc (.cells PZ 41) → _ from ?_) _ rfl
          intro wa5 ew
          rw [← ew] at hal hxl hst
          have HK5 := Lib.hid ((hst.block _ (lt_of_block HK1.out)).trans HK1.out)
          have HA5 := Lib.hid (show wa5.heap[wt1.heap.size]? = _ from hxl)
          have HGA5 := Lib.hid (show ws101.heap.size ≤ wt1.heap.size from HB1.out.size)
          have HB5 := Lib.hid hal
          have HEKA5 := Lib.hid (show ws101.heap.size ≠ wt1.heap.size from Nat.ne_of_lt (lt_of_block HK1.out))
          clear ew hal hxl hst
          refine wpAnyH_ready (rs := [4]) (by decide +kernel) (by simp) ?_
          refine AllReadyH.cons rfl (fun K hK => ?_) AllReadyH.nil
          go_simp
          go_at_call 14
          refine (HSE1.out _ _ HB5.out HK5.out).mono ?_
          intro e wt6 hso
          unfold SealOf at hso
          rw [HPR.out] at hso
          obtain ⟨gc6, hgc, rfl, hA, hst⟩ := hso
          have HEAC6 := Lib.hid (show gc6 ≠ wt1.heap.size from Ne.symm (Nat.ne_of_lt (Nat.lt_of_lt_of_le (lt_of_block HA5.out) hgc)))
          have HA6 := Lib.hid ((hst.block _ (lt_of_block HA5.out)).trans HA5.out)
          have HB6 := Lib.hid (HB5.out.trans (hst.mono HB5.out.size))
          have HC6 := Lib.hid hA
          have HGC6 := Lib.hid (Nat.le_trans HB5.out.size hgc)
          clear hA hst hgc
          go_wp2_with fail
          refine hK.out _ _ (HSV1.out _ HB6.out) (fun hHeld => ?_)
          clear hK K
          try simp only [Act.put, List.setIfInBounds_toArray, List.set_cons_zero, List.set_cons_succ]
          refine wpAnyH_take (i := 5) (oi := ⟨some 49, _, _, _, _, _⟩) (v := ?_) rfl (by kernel_rfl) (by decide +kernel) (by decide +kernel) (fun _ _ _ h => h) (Or.inl ⟨by rfl, ?_⟩) (by assumption) ?_
          rotate_left 1
          · (intro w' hSw; go_simp; try with_reducible rfl)
          try simp only [Act.put, List.setIfInBounds_toArray, List.set_cons_zero, List.set_cons_succ]
          refine wpAnyH_take (i := 6) (oi := ⟨some 55, _, _, _, _, _⟩) (v := ?_) rfl (by kernel_rfl) (by decide +kernel) (by decide +kernel) (fun _ _ _ h => h) (Or.inl ⟨by rfl, ?_⟩) (by assumption) ?_
          rotate_left 1
          · (intro w' hSw; go_simp; try with_reducible rfl)
          try simp only [Act.put, List.setIfInBounds_toArray, List.set_cons_zero, List.set_cons_succ]
          refine wpAnyH_take (i := 7) (oi := ⟨some 56, _, _, _, _, _⟩) (v := ?_) rfl (by kernel_rfl) (by decide +kernel) (by decide +kernel) (fun _ _ _ h => h) (Or.inl ⟨by rfl, ?_⟩) (by assumption) ?_
          rotate_left 1
          · (intro w' hSw; go_simp; try with_reducible rfl)
          try simp only [Act.put, List.setIfInBounds_toArray, List.set_cons_zero, List.set_cons_succ]
          refine wpAnyH_take (i := 8) (oi := ⟨some 57, _, _, _, _, _⟩) (v := ?_) rfl (by kernel_rfl) (by decide +kernel) (by decide +kernel) (fun _ _ _ h => h) (Or.inl ⟨by rfl, ?_⟩) (by assumption) ?_
          rotate_left 1
          · (intro w' hSw; go_simp; try with_reducible rfl)
          try simp only [Act.put, List.setIfInBounds_toArray, List.set_cons_zero, List.set_cons_succ]
          clear hHeld
          have hHeld := HSV1.out _ HB6.out
          refine wpAnyH_take (i := 10) (oi := ⟨some 13, _, _, _, _, _⟩) (v := ?_) rfl (by kernel_rfl) (by decide +kernel) (by decide +kernel) (fun _ _ _ h => h) (Or.inl ⟨by rfl, ?_⟩) (by assumption) ?_
          rotate_left 1
          · (intro w' hSw; go_simp; try with_reducible rfl)
          try simp only [Act.put, List.setIfInBounds_toArray, List.set_cons_zero, List.set_cons_succ]
          clear hHeld
          refine wpAnyH_ready (rs := [11]) (by decide +kernel) (by simp) ?_
          refine AllReadyH.cons rfl (fun K hK => ?_) AllReadyH.nil
          rw [if_pos (by kernel_rfl)]
          refine wp_store_row (o := ⟨none, .store _ (.tmp 14) _, _, _, _, _⟩) 41 _ _ rfl (wt1.heap.size) PRA rfl rfl 41 PZ (show (wt6).heap[wt1.heap.size]? = _ from HA6.out) SPA.out EPA.out OPA.out ?_
          refine hK.out _ _ (HSV1.out _ (ybelow_row HB6.out HGA5.out PRA)) (fun hHeld => ?_)
          clear hK K hHeld
          simp only [Act.put]
          have hHeld := HSV1.out _ (ybelow_row HB6.out HGA5.out PRA)
          refine wpAnyH_take (i := 12) (oi := ⟨some 15, _, _, _, _, _⟩) (v := ?_) rfl (by kernel_rfl) (by decide +kernel) (by decide +kernel) (fun _ _ _ h => h) (Or.inl ⟨by rfl, ?_⟩) (by assumption) ?_
          rotate_left 1
          · (intro w' hSw; go_simp; try with_reducible rfl)
          try simp only [Act.put, List.setIfInBounds_toArray, List.set_cons_zero, List.set_cons_succ]
          clear hHeld
          refine wpAnyH_done (by decide +kernel) ?_ _
          refine NoPanic.normal ?_
          go_wp2_with fail
          go_meet
          exact ⟨gc6, wt1.heap.size, rfl, rfl, rfl, ⟨ybelow_row HB6.out HGA5.out PRA, (setRow_other _ _ _ _ HEAC6.out).trans HC6.out, by rw [HPR.out]; exact setRow_heap _ _ _ _ _ _ HA6.out, HEAC6.out, HGC6.out, HGA5.out⟩⟩
      · go_simp
        have hal := HB0.out.alloc HB0.out.size (.cells PZ 41)
        have hxl := heap_alloc_new (ws101.drew) (.cells PZ 41)
        have hst := (Below.refl (ws101.drew).heap.size (ws101.drew)).alloc (Nat.le_refl _) (.cells PZ 41)
        refine hK.out _ _ (HSV1.out _ hal) (fun hHeld => ?_)
        clear hK K hHeld
        try simp only [Act.put, List.setIfInBounds_toArray, List.set_cons_zero, List.set_cons_succ]
        refine (show ∀ wa8 : World, wa8 = (ws101.drew).alloc (.cells PZ 41) → _ from ?_) _ rfl
        intro wa8 ew
        rw [← ew] at hal hxl hst
        have HA8 := Lib.hid (show wa8.heap[ws101.heap.size]? = _ from hxl)
        have HGA8 := Lib.hid (show ws101.heap.size ≤ ws101.heap.size from HB0.out.size)
        have HB8 := Lib.hid hal
        clear ew hal hxl hst
        refine wpAnyH_ready (rs := [3]) (by decide +kernel) (by simp) ?_
        refine AllReadyH.cons rfl (fun K hK => ?_) AllReadyH.nil
        go_simp
        go_at_call 22
        refine (HBK1.out _ HB8.out).mono ?_
        rintro e wt9 ⟨rfl, hA, hst⟩
        have HA9 := Lib.hid ((hst.block _ (lt_of_block HA8.out)).trans HA8.out)
        have HB9 := Lib.hid (HB8.out.trans (hst.mono HB8.out.size))
        have HK9 := Lib.hid hA
        clear hA hst
        go_wp2_with fail
        refine hK.out _ _ (HSV1.out _ HB9.out) (fun hHeld => ?_)
        clear hK K hHeld
        try simp only [Act.put, List.setIfInBounds_toArray, List.set_cons_zero, List.set_cons_succ]
        refine wpAnyH_ready (rs := [4]) (by decide +kernel) (by simp) ?_
        refine AllReadyH.cons rfl (fun K hK => ?_) AllReadyH.nil
        go_simp
        go_at_call 14
        refine (HSE1.out _ _ HB9.out HK9.out).mono ?_
        intro e wt10 hso
        unfold SealOf at hso
        rw [HPR.out] at hso
        obtain ⟨gc10, hgc, rfl, hA, hst⟩ := hso
        have HEAC10 := Lib.hid (show gc10 ≠ ws101.heap.size from Ne.symm (Nat.ne_of_lt (Nat.lt_of_lt_of_le (lt_of_block HA9.out) hgc)))
        have HA10 := Lib.hid ((hst.block _ (lt_of_block HA9.out)).trans HA9.out)
        have HB10 := Lib.hid (HB9.out.trans (hst.mono HB9.out.size))
        have HC10 := Lib.hid hA
        have HGC10 := Lib.hid (Nat.le_trans HB9.out.size hgc)
        clear hA hst hgc
        go_wp2_with fail
        refine hK.out _ _ (HSV1.out _ HB10.out) (fun hHeld => ?_)
        clear hK K
        try simp only [Act.put, List.setIfInBounds_toArray, List.set_cons_zero, List.set_cons_succ]
        refine wpAnyH_take (i := 5) (oi := ⟨some 49, _, _, _, _, _⟩) (v := ?_) rfl (by kernel_rfl) (by decide +kernel) (by decide +kernel) (fun _ _ _ h => h) (Or.inl ⟨by rfl, ?_⟩) (by assumption) ?_
        rotate_left 1
        · (intro w' hSw; go_simp; try with_reducible rfl)
        try simp only [Act.put, List.setIfInBounds_toArray, List.set_cons_zero, List.set_cons_succ]
        refine wpAnyH_take (i := 6) (oi := ⟨some 55, _, _, _, _, _⟩) (v := ?_) rfl (by kernel_rfl) (by decide +kernel) (by decide +kernel) (fun _ _ _ h => h) (Or.inl ⟨by rfl, ?_⟩) (by assumption) ?_
        rotate_left 1
        · (intro w' hSw; go_simp; try with_reducible rfl)
        try simp only [Act.put, List.setIfInBounds_toArray, List.set_cons_zero, List.set_cons_succ]
        refine wpAnyH_take (i := 7) (oi := ⟨some 56, _, _, _, _, _⟩) (v := ?_) rfl (by kernel_rfl) (by decide +kernel) (by decide +kernel) (fun _ _ _ h => h) (Or.inl ⟨by rfl, ?_⟩) (by assumption) ?_
        rotate_left 1
        · (intro w' hSw; go_simp; try with_reducible rfl)
        try simp only [Act.put, List.setIfInBounds_toArray, List.set_cons_zero, List.set_cons_succ]
        refine wpAnyH_take (i := 8) (oi := ⟨some 57, _, _, _, _, _⟩) (v := ?_) rfl (by kernel_rfl) (by decide +kernel) (by decide +kernel) (fun _ _ _ h => h) (Or.inl ⟨by rfl, ?_⟩) (by assumption) ?_
        rotate_left 1
        · (intro w' hSw; go_simp; try with_reducible rfl)
        try simp only [Act.put, List.setIfInBounds_toArray, List.set_cons_zero, List.set_cons_succ]
        clear hHeld
        have hHeld := HSV1.out _ HB10.out
        refine wpAnyH_take (i := 10) (oi := ⟨some 13, _, _, _, _, _⟩) (v := ?_) rfl (by kernel_rfl) (by decide +kernel) (by decide +kernel) (fun _ _ _ h => h) (Or.inl ⟨by rfl, ?_⟩) (by assumption) ?_
        rotate_left 1
        · (intro w' hSw; go_simp; try with_reducible rfl)
        try simp only [Act.put, List.setIfInBounds_toArray, List.set_cons_zero, List.set_cons_succ]
        clear hHeld
        refine wpAnyH_ready (rs := [11]) (by decide +kernel) (by simp) ?_
        refine AllReadyH.cons rfl (fun K hK => ?_) AllReadyH.nil
        rw [if_pos (by kernel_rfl)]
        refine wp_store_row (o := ⟨none, .store _ (.tmp 14) _, _, _, _, _⟩) 41 _ _ rfl (ws101.heap.size) PRA rfl rfl 41 PZ (show (wt10).heap[ws101.heap.size]? = _ from HA10.out) SPA.out EPA.out OPA.out ?_
        refine hK.out _ _ (HSV1.out _ (ybelow_row HB10.out HGA8.out PRA)) (fun hHeld => ?_)
        clear hK K hHeld
        simp only [Act.put]
        have hHeld := HSV1.out _ (ybelow_row HB10.out HGA8.out PRA)
        refine wpAnyH_take (i := 12) (oi := ⟨some 15, _, _, _, _, _⟩) (v := ?_) rfl (by kernel_rfl) (by decide +kernel) (by decide +kernel) (fun _ _ _ h => h) (Or.inl ⟨by rfl, ?_⟩) (by assumption) ?_
        rotate_left 1
        · (intro w' hSw; go_simp; try with_reducible rfl)
        try simp only [Act.put, List.setIfInBounds_toArray, List.set_cons_zero, List.set_cons_succ]
        clear hHeld
        refine wpAnyH_done (by decide +kernel) ?_ _
        refine NoPanic.normal ?_
        go_wp2_with fail
        go_meet
        exact ⟨gc10, ws101.heap.size, rfl, rfl, rfl, ⟨ybelow_row HB10.out HGA8.out PRA, (setRow_other _ _ _ _ HEAC10.out).trans HC10.out, by rw [HPR.out]; exact setRow_heap _ _ _ _ _ _ HA10.out, HEAC10.out, HGC10.out, HGA8.out⟩⟩
    case rest =>
      obtain ⟨c1, q1, rfl, rfl, rfl, hsd⟩ := hcut
      obtain ⟨wc1, hwc⟩ : ∃ z : World, z = wc := ⟨_, rfl⟩
      subst hwc
      have HSD := Lib.hid hsd
      clear hsd HSV1 HBK1 HSE1 HPR
      have RC1 := Lib.hid (show wc1.heap[c1]? = some (.cells (yvs SA) 5 (0, 0)) from HSD.out.cy)
      have RQ1 := Lib.hid (show wc1.heap[q1]? = some (.cells PRA 41 (0, 0)) by rw [← HPRA.out]; exact HSD.out.qy)
      have RX103 := Lib.hid ((HSD.out.bel.block _ (lt_of_block RX102.out)).trans RX102.out)
      have RK103 := Lib.hid ((HSD.out.bel.block _ (lt_of_block RNK.out)).trans RNK.out)
      have HB103 := Lib.hid (HB102.out.trans (HSD.out.bel.mono HB102.out.size))
      clear RX102 RNK HB102 HSD
      go_upto_region 8 with fail
      have HSV2 := Lib.hid (show ∀ W, Below wc1.heap.size wc1 W → W.rangeAt BK 0 KM.toList from fun W hW => range_of_row (by rw [Array.toArray_toList]; exact (hW.block _ (lt_of_block RK103.out)).trans RK103.out))
      have HBK2 := Lib.hid (fun (W : World) (hW : Below wc1.heap.size wc1 W) => (fun _ => HBLN.out W) (HB103.out.trans (hW.mono HB103.out.size)))
      have HSE2 := Lib.hid (fun (W : World) (g : Nat) (hW : Below wc1.heap.size wc1 W) => HSEB.out W g (HB103.out.trans (hW.mono HB103.out.size)))
      have HPR := HPRB
      go_cut [16, 17, 18] from 19 (fun va vb vc wc => ∃ c q, va = .slice (some ⟨c, 0, none⟩) 512 512 ∧ vb = .pointer (some ⟨q, 0, none⟩) ∧ vc = .int .i64 0 ∧ SD wc1 wc c q SB PTB)
      case first =>
        try simp only [Act.put]
        refine wp_region_noPanic ?_
        refine wp_region_held_drew (S := fun W => W.rangeAt BK 0 KM.toList) (by kernel_rfl) (HSV2.out _ (Below.refl _ wc1).drew) (fun hHeld => ?_)
        refine wpAnyH_take (i := 0) (oi := ⟨some 59, _, _, _, _, _⟩) rfl (by kernel_rfl) (by decide +kernel) (by decide +kernel) (fun _ _ _ h => h) (yieldsIf_load_mid (by rfl) _ _ rfl (BK) (0) rfl KM.toList _ (fun w' h => h) Tryd.underlying28 rfl IK.out) (by assumption) ?_
        try simp only [Act.put, List.setIfInBounds_toArray, List.set_cons_zero, List.set_cons_succ, Array.toArray_toList]
        refine wpAnyH_take (i := 1) (oi := ⟨some 60, _, _, _, _, _⟩) (v := ?_) rfl (by kernel_rfl) (by decide +kernel) (by decide +kernel) (fun _ _ _ h => h) (Or.inl ⟨by rfl, ?_⟩) (by assumption) ?_
        rotate_left 1
        · (intro w' hSw; go_simp; try with_reducible rfl)
        try simp only [Act.put, List.setIfInBounds_toArray, List.set_cons_zero, List.set_cons_succ]
        refine wpAnyH_take (i := 2) (oi := ⟨some 61, _, _, _, _, _⟩) (v := ?_) rfl (by kernel_rfl) (by decide +kernel) (by decide +kernel) (fun _ _ _ h => h) (Or.inl ⟨by rfl, ?_⟩) (by assumption) ?_
        rotate_left 1
        · (intro w' hSw; go_simp; try with_reducible rfl)
        try simp only [Act.put, List.setIfInBounds_toArray, List.set_cons_zero, List.set_cons_succ]
        clear hHeld
        have HB0 := Lib.hid (Below.refl wc1.heap.size wc1).drew
        refine wpAnyH_ready (rs := [3, 9]) (by decide +kernel) (by simp) ?_
        refine AllReadyH.cons rfl (fun K hK => ?_) (AllReadyH.cons rfl (fun K hK => ?_) AllReadyH.nil)
        · go_simp
          go_at_call 22
          refine (HBK2.out _ HB0.out).mono ?_
          rintro e wt1 ⟨rfl, hA, hst⟩
          have HB1 := Lib.hid (HB0.out.trans (hst.mono HB0.out.size))
          have HK1 := Lib.hid hA
          clear hA hst
          go_wp2_with fail
          refine hK.out _ _ (HSV2.out _ HB1.out) (fun hHeld => ?_)
          clear hK K hHeld
          try simp only [Act.put, List.setIfInBounds_toArray, List.set_cons_zero, List.set_cons_succ]
          refine wpAnyH_ready (rs := [4, 9]) (by decide +kernel) (by simp) ?_
          refine AllReadyH.cons rfl (fun K hK => ?_) (AllReadyH.cons rfl (fun K hK => ?_) AllReadyH.nil)
          · go_simp
            go_at_call 14
            refine (HSE2.out _ _ HB1.out HK1.out).mono ?_
            intro e wt2 hso
            unfold SealOf at hso
            rw [HPR.out] at hso
            obtain ⟨gc2, hgc, rfl, hA, hst⟩ := hso
            have HB2 := Lib.hid (HB1.out.trans (hst.mono HB1.out.size))
            have HC2 := Lib.hid hA
            have HGC2 := Lib.hid (Nat.le_trans HB1.out.size hgc)
            clear hA hst hgc
            go_wp2_with fail
            refine hK.out _ _ (HSV2.out _ HB2.out) (fun hHeld => ?_)
            clear hK K
            try simp only [Act.put, List.setIfInBounds_toArray, List.set_cons_zero, List.set_cons_succ]
            refine wpAnyH_take (i := 5) (oi := ⟨some 58, _, _, _, _, _⟩) (v := ?_) rfl (by kernel_rfl) (by decide +kernel) (by decide +kernel) (fun _ _ _ h => h) (Or.inl ⟨by rfl, ?_⟩) (by assumption) ?_
            rotate_left 1
            · (intro w' hSw; go_simp; try with_reducible rfl)
            try simp only [Act.put, List.setIfInBounds_toArray, List.set_cons_zero, List.set_cons_succ]
            refine wpAnyH_take (i := 6) (oi := ⟨some 64, _, _, _, _, _⟩) (v := ?_) rfl (by kernel_rfl) (by decide +kernel) (by decide +kernel) (fun _ _ _ h => h) (Or.inl ⟨by rfl, ?_⟩) (by assumption) ?_
            rotate_left 1
            · (intro w' hSw; go_simp; try with_reducible rfl)
            try simp only [Act.put, List.setIfInBounds_toArray, List.set_cons_zero, List.set_cons_succ]
            refine wpAnyH_take (i := 7) (oi := ⟨some 65, _, _, _, _, _⟩) (v := ?_) rfl (by kernel_rfl) (by decide +kernel) (by decide +kernel) (fun _ _ _ h => h) (Or.inl ⟨by rfl, ?_⟩) (by assumption) ?_
            rotate_left 1
            · (intro w' hSw; go_simp; try with_reducible rfl)
            try simp only [Act.put, List.setIfInBounds_toArray, List.set_cons_zero, List.set_cons_succ]
            refine wpAnyH_take (i := 8) (oi := ⟨some 66, _, _, _, _, _⟩) (v := ?_) rfl (by kernel_rfl) (by decide +kernel) (by decide +kernel) (fun _ _ _ h => h) (Or.inl ⟨by rfl, ?_⟩) (by assumption) ?_
            rotate_left 1
            · (intro w' hSw; go_simp; try with_reducible rfl)
            try simp only [Act.put, List.setIfInBounds_toArray, List.set_cons_zero, List.set_cons_succ]
            clear hHeld
            refine wpAnyH_ready (rs := [9]) (by decide +kernel) (by simp) ?_
            refine AllReadyH.cons rfl (fun K hK => ?_) AllReadyH.nil
            go_simp
            have hal := HB2.out.alloc HB2.out.size (.cells PZ 41)
            have hxl := heap_alloc_new (wt2) (.cells PZ 41)
            have hst := (Below.refl (wt2).heap.size (wt2)).alloc (Nat.le_refl _) (.cells PZ 41)
            refine hK.out _ _ (HSV2.out _ hal) (fun hHeld => ?_)
            clear hK K hHeld
            try simp only [Act.put, List.setIfInBounds_toArray, List.set_cons_zero, List.set_cons_succ]
            refine (show ∀ wa3 : World, wa3 = (wt2).alloc (.cells PZ 41) → _ from ?_) _ rfl
            intro wa3 ew
            rw [← ew] at hal hxl hst
            have HC3 := Lib.hid ((hst.block _ (lt_of_block HC2.out)).trans HC2.out)
            have HA3 := Lib.hid (show wa3.heap[wt2.heap.size]? = _ from hxl)
            have HGA3 := Lib.hid (show wc1.heap.size ≤ wt2.heap.size from HB2.out.size)
            have HB3 := Lib.hid hal
            have HECA3 := Lib.hid (show gc2 ≠ wt2.heap.size from Nat.ne_of_lt (lt_of_block HC2.out))
            clear ew hal hxl hst
            have hHeld := HSV2.out _ HB3.out
            refine wpAnyH_take (i := 10) (oi := ⟨some 16, _, _, _, _, _⟩) (v := ?_) rfl (by kernel_rfl) (by decide +kernel) (by decide +kernel) (fun _ _ _ h => h) (Or.inl ⟨by rfl, ?_⟩) (by assumption) ?_
            rotate_left 1
            · (intro w' hSw; go_simp; try with_reducible rfl)
            try simp only [Act.put, List.setIfInBounds_toArray, List.set_cons_zero, List.set_cons_succ]
            clear hHeld
            refine wpAnyH_ready (rs := [11]) (by decide +kernel) (by simp) ?_
            refine AllReadyH.cons rfl (fun K hK => ?_) AllReadyH.nil
            rw [if_pos (by kernel_rfl)]
            refine wp_store_row (o := ⟨none, .store _ (.tmp 17) _, _, _, _, _⟩) 41 _ _ rfl (wt2.heap.size) PRB rfl rfl 41 PZ (show (wa3).heap[wt2.heap.size]? = _ from HA3.out) SPB.out EPB.out OPB.out ?_
            refine hK.out _ _ (HSV2.out _ (ybelow_row HB3.out HGA3.out PRB)) (fun hHeld => ?_)
            clear hK K hHeld
            simp only [Act.put]
            have hHeld := HSV2.out _ (ybelow_row HB3.out HGA3.out PRB)
            refine wpAnyH_take (i := 12) (oi := ⟨some 18, _, _, _, _, _⟩) (v := ?_) rfl (by kernel_rfl) (by decide +kernel) (by decide +kernel) (fun _ _ _ h => h) (Or.inl ⟨by rfl, ?_⟩) (by assumption) ?_
            rotate_left 1
            · (intro w' hSw; go_simp; try with_reducible rfl)
            try simp only [Act.put, List.setIfInBounds_toArray, List.set_cons_zero, List.set_cons_succ]
            clear hHeld
            refine wpAnyH_done (by decide +kernel) ?_ _
            refine NoPanic.normal ?_
            go_wp2_with fail
            go_meet
            exact ⟨gc2, wt2.heap.size, rfl, rfl, rfl, ⟨ybelow_row HB3.out HGA3.out PRB, (setRow_other _ _ _ _ HECA3.out).trans HC3.out, by rw [HPR.out]; exact setRow_heap _ _ _ _ _ _ HA3.out, HECA3.out, HGC2.out, HGA3.out⟩⟩
          · go_simp
            have hal := HB1.out.alloc HB1.out.size (.cells PZ 41)
            have hxl := heap_alloc_new (wt1) (.cells PZ 41)
            have hst := (Below.refl (wt1).heap.size (wt1)).alloc (Nat.le_refl _) (.cells PZ 41)
            refine hK.out _ _ (HSV2.out _ hal) (fun hHeld => ?_)
            clear hK K hHeld
            try simp only [Act.put, List.setIfInBounds_toArray, List.set_cons_zero, List.set_cons_succ]
            refine (show ∀ wa5 : World, wa5 = (wt1).alloc (.cells PZ 41) → _ from ?_) _ rfl
            intro wa5 ew
            rw [← ew] at hal hxl hst
            have HK5 := Lib.hid ((hst.block _ (lt_of_block HK1.out)).trans HK1.out)
            have HA5 := Lib.hid (show wa5.heap[wt1.heap.size]? = _ from hxl)
            have HGA5 := Lib.hid (show wc1.heap.size ≤ wt1.heap.size from HB1.out.size)
            have HB5 := Lib.hid hal
            have HEKA5 := Lib.hid (show wc1.heap.size ≠ wt1.heap.size from Nat.ne_of_lt (lt_of_block HK1.out))
            clear ew hal hxl hst
            refine wpAnyH_ready (rs := [4]) (by decide +kernel) (by simp) ?_
            refine AllReadyH.cons rfl (fun K hK => ?_) AllReadyH.nil
            go_simp
            go_at_call 14
            refine (HSE2.out _ _ HB5.out HK5.out).mono ?_
            intro e wt6 hso
            unfold SealOf at hso
            rw [HPR.out] at hso
            obtain ⟨gc6, hgc, rfl, hA, hst⟩ := hso
            have HEAC6 := Lib.hid (show gc6 ≠ wt1.heap.size from Ne.symm (Nat.ne_of_lt (Nat.lt_of_lt_of_le (lt_of_block HA5.out) hgc)))
            have HA6 := Lib.hid ((hst.block _ (lt_of_block HA5.out)).trans HA5.out)
            have HB6 := Lib.hid (HB5.out.trans (hst.mono HB5.out.size))
            have HC6 := Lib.hid hA
            have HGC6 := Lib.hid (Nat.le_trans HB5.out.size hgc)
            clear hA hst hgc
            go_wp2_with fail
            refine hK.out _ _ (HSV2.out _ HB6.out) (fun hHeld => ?_)
            clear hK K
            try simp only [Act.put, List.setIfInBounds_toArray, List.set_cons_zero, List.set_cons_succ]
            refine wpAnyH_take (i := 5) (oi := ⟨some 58, _, _, _, _, _⟩) (v := ?_) rfl (by kernel_rfl) (by decide +kernel) (by decide +kernel) (fun _ _ _ h => h) (Or.inl ⟨by rfl, ?_⟩) (by assumption) ?_
            rotate_left 1
            · (intro w' hSw; go_simp; try with_reducible rfl)
            try simp only [Act.put, List.setIfInBounds_toArray, List.set_cons_zero, List.set_cons_succ]
            refine wpAnyH_take (i := 6) (oi := ⟨some 64, _, _, _, _, _⟩) (v := ?_) rfl (by kernel_rfl) (by decide +kernel) (by decide +kernel) (fun _ _ _ h => h) (Or.inl ⟨by rfl, ?_⟩) (by assumption) ?_
            rotate_left 1
            · (intro w' hSw; go_simp; try with_reducible rfl)
            try simp only [Act.put, List.setIfInBounds_toArray, List.set_cons_zero, List.set_cons_succ]
            refine wpAnyH_take (i := 7) (oi := ⟨some 65, _, _, _, _, _⟩) (v := ?_) rfl (by kernel_rfl) (by decide +kernel) (by decide +kernel) (fun _ _ _ h => h) (Or.inl ⟨by rfl, ?_⟩) (by assumption) ?_
            rotate_left 1
            · (intro w' hSw; go_simp; try with_reducible rfl)
            try simp only [Act.put, List.setIfInBounds_toArray, List.set_cons_zero, List.set_cons_succ]
            refine wpAnyH_take (i := 8) (oi := ⟨some 66, _, _, _, _, _⟩) (v := ?_) rfl (by kernel_rfl) (by decide +kernel) (by decide +kernel) (fun _ _ _ h => h) (Or.inl ⟨by rfl, ?_⟩) (by assumption) ?_
            rotate_left 1
            · (intro w' hSw; go_simp; try with_reducible rfl)
            try simp only [Act.put, List.setIfInBounds_toArray, List.set_cons_zero, List.set_cons_succ]
            clear hHeld
            have hHeld := HSV2.out _ HB6.out
            refine wpAnyH_take (i := 10) (oi := ⟨some 16, _, _, _, _, _⟩) (v := ?_) rfl (by kernel_rfl) (by decide +kernel) (by decide +kernel) (fun _ _ _ h => h) (Or.inl ⟨by rfl, ?_⟩) (by assumption) ?_
            rotate_left 1
            · (intro w' hSw; go_simp; try with_reducible rfl)
            try simp only [Act.put, List.setIfInBounds_toArray, List.set_cons_zero, List.set_cons_succ]
            clear hHeld
            refine wpAnyH_ready (rs := [11]) (by decide +kernel) (by simp) ?_
            refine AllReadyH.cons rfl (fun K hK => ?_) AllReadyH.nil
            rw [if_pos (by kernel_rfl)]
            refine wp_store_row (o := ⟨none, .store _ (.tmp 17) _, _, _, _, _⟩) 41 _ _ rfl (wt1.heap.size) PRB rfl rfl 41 PZ (show (wt6).heap[wt1.heap.size]? = _ from HA6.out) SPB.out EPB.out OPB.out ?_
            refine hK.out _ _ (HSV2.out _ (ybelow_row HB6.out HGA5.out PRB)) (fun hHeld => ?_)
            clear hK K hHeld
            simp only [Act.put]
            have hHeld := HSV2.out _ (ybelow_row HB6.out HGA5.out PRB)
            refine wpAnyH_take (i := 12) (oi := ⟨some 18, _, _, _, _, _⟩) (v := ?_) rfl (by kernel_rfl) (by decide +kernel) (by decide +kernel) (fun _ _ _ h => h) (Or.inl ⟨by rfl, ?_⟩) (by assumption) ?_
            rotate_left 1
            · (intro w' hSw; go_simp; try with_reducible rfl)
            try simp only [Act.put, List.setIfInBounds_toArray, List.set_cons_zero, List.set_cons_succ]
            clear hHeld
            refine wpAnyH_done (by decide +kernel) ?_ _
            refine NoPanic.normal ?_
            go_wp2_with fail
            go_meet
            exact ⟨gc6, wt1.heap.size, rfl, rfl, rfl, ⟨ybelow_row HB6.out HGA5.out PRB, (setRow_other _ _ _ _ HEAC6.out).trans HC6.out, by rw [HPR.out]; exact setRow_heap _ _ _ _ _ _ HA6.out, HEAC6.out, HGC6.out, HGA5.out⟩⟩
        · go_simp
          have hal := HB0.out.alloc HB0.out.size (.cells PZ 41)
          have hxl := heap_alloc_new (wc1.drew) (.cells PZ 41)
          have hst := (Below.refl (wc1.drew).heap.size (wc1.drew)).alloc (Nat.le_refl _) (.cells PZ 41)
          refine hK.out _ _ (HSV2.out _ hal) (fun hHeld => ?_)
          clear hK K hHeld
          try simp only [Act.put, List.setIfInBounds_toArray, List.set_cons_zero, List.set_cons_succ]
          refine (show ∀ wa8 : World, wa8 = (wc1.drew).alloc (.cells PZ 41) → _ from ?_) _ rfl
          intro wa8 ew
          rw [← ew] at hal hxl hst
          have HA8 := Lib.hid (show wa8.heap[wc1.heap.size]? = _ from hxl)
          have HGA8 := Lib.hid (show wc1.heap.size ≤ wc1.heap.size from HB0.out.size)
          have HB8 := Lib.hid hal
          clear ew hal hxl hst
          refine wpAnyH_ready (rs := [3]) (by decide +kernel) (by simp) ?_
          refine AllReadyH.cons rfl (fun K hK => ?_) AllReadyH.nil
          go_simp
          go_at_call 22
          refine (HBK2.out _ HB8.out).mono ?_
          rintro e wt9 ⟨rfl, hA, hst⟩
          have HA9 := Lib.hid ((hst.block _ (lt_of_block HA8.out)).trans HA8.out)
          have HB9 := Lib.hid (HB8.out.trans (hst.mono HB8.out.size))
          have HK9 := Lib.hid hA
          clear hA hst
          go_wp2_with fail
          refine hK.out _ _ (HSV2.out _ HB9.out) (fun hHeld => ?_)
          clear hK K hHeld
          try simp only [Act.put, List.setIfInBounds_toArray, List.set_cons_zero, List.set_cons_succ]
          refine wpAnyH_ready (rs := [4]) (by decide +kernel) (by simp) ?_
          refine AllReadyH.cons rfl (fun K hK => ?_) AllReadyH.nil
          go_simp
          go_at_call 14
          refine (HSE2.out _ _ HB9.out HK9.out).mono ?_
          intro e wt10 hso
          unfold SealOf at hso
          rw [HPR.out] at hso
          obtain ⟨gc10, hgc, rfl, hA, hst⟩ := hso
          have HEAC10 := Lib.hid (show gc10 ≠ wc1.heap.size from Ne.symm (Nat.ne_of_lt (Nat.lt_of_lt_of_le (lt_of_block HA9.out) hgc)))
          have HA10 := Lib.hid ((hst.block _ (lt_of_block HA9.out)).trans HA9.out)
          have HB10 := Lib.hid (HB9.out.trans (hst.mono HB9.out.size))
          have HC10 := Lib.hid hA
          have HGC10 := Lib.hid (Nat.le_trans HB9.out.size hgc)
          clear hA hst hgc
          go_wp2_with fail
          refine hK.out _ _ (HSV2.out _ HB10.out) (fun hHeld => ?_)
          clear hK K
          try simp only [Act.put, List.setIfInBounds_toArray, List.set_cons_zero, List.set_cons_succ]
          refine wpAnyH_take (i := 5) (oi := ⟨some 58, _, _, _, _, _⟩) (v := ?_) rfl (by kernel_rfl) (by decide +kernel) (by decide +kernel) (fun _ _ _ h => h) (Or.inl ⟨by rfl, ?_⟩) (by assumption) ?_
          rotate_left 1
          · (intro w' hSw; go_simp; try with_reducible rfl)
          try simp only [Act.put, List.setIfInBounds_toArray, List.set_cons_zero, List.set_cons_succ]
          refine wpAnyH_take (i := 6) (oi := ⟨some 64, _, _, _, _, _⟩) (v := ?_) rfl (by kernel_rfl) (by decide +kernel) (by decide +kernel) (fun _ _ _ h => h) (Or.inl ⟨by rfl, ?_⟩) (by assumption) ?_
          rotate_left 1
          · (intro w' hSw; go_simp; try with_reducible rfl)
          try simp only [Act.put, List.setIfInBounds_toArray, List.set_cons_zero, List.set_cons_succ]
          refine wpAnyH_take (i := 7) (oi := ⟨some 65, _, _, _, _, _⟩) (v := ?_) rfl (by kernel_rfl) (by decide +kernel) (by decide +kernel) (fun _ _ _ h => h) (Or.inl ⟨by rfl, ?_⟩) (by assumption) ?_
          rotate_left 1
          · (intro w' hSw; go_simp; try with_reducible rfl)
          try simp only [Act.put, List.setIfInBounds_toArray, List.set_cons_zero, List.set_cons_succ]
          refine wpAnyH_take (i := 8) (oi := ⟨some 66, _, _, _, _, _⟩) (v := ?_) rfl (by kernel_rfl) (by decide +kernel) (by decide +kernel) (fun _ _ _ h => h) (Or.inl ⟨by rfl, ?_⟩) (by assumption) ?_
          rotate_left 1
          · (intro w' hSw; go_simp; try with_reducible rfl)
          try simp only [Act.put, List.setIfInBounds_toArray, List.set_cons_zero, List.set_cons_succ]
          clear hHeld
          have hHeld := HSV2.out _ HB10.out
          refine wpAnyH_take (i := 10) (oi := ⟨some 16, _, _, _, _, _⟩) (v := ?_) rfl (by kernel_rfl) (by decide +kernel) (by decide +kernel) (fun _ _ _ h => h) (Or.inl ⟨by rfl, ?_⟩) (by assumption) ?_
          rotate_left 1
          · (intro w' hSw; go_simp; try with_reducible rfl)
          try simp only [Act.put, List.setIfInBounds_toArray, List.set_cons_zero, List.set_cons_succ]
          clear hHeld
          refine wpAnyH_ready (rs := [11]) (by decide +kernel) (by simp) ?_
          refine AllReadyH.cons rfl (fun K hK => ?_) AllReadyH.nil
          rw [if_pos (by kernel_rfl)]
          refine wp_store_row (o := ⟨none, .store _ (.tmp 17) _, _, _, _, _⟩) 41 _ _ rfl (wc1.heap.size) PRB rfl rfl 41 PZ (show (wt10).heap[wc1.heap.size]? = _ from HA10.out) SPB.out EPB.out OPB.out ?_
          refine hK.out _ _ (HSV2.out _ (ybelow_row HB10.out HGA8.out PRB)) (fun hHeld => ?_)
          clear hK K hHeld
          simp only [Act.put]
          have hHeld := HSV2.out _ (ybelow_row HB10.out HGA8.out PRB)
          refine wpAnyH_take (i := 12) (oi := ⟨some 18, _, _, _, _, _⟩) (v := ?_) rfl (by kernel_rfl) (by decide +kernel) (by decide +kernel) (fun _ _ _ h => h) (Or.inl ⟨by rfl, ?_⟩) (by assumption) ?_
          rotate_left 1
          · (intro w' hSw; go_simp; try with_reducible rfl)
          try simp only [Act.put, List.setIfInBounds_toArray, List.set_cons_zero, List.set_cons_succ]
          clear hHeld
          refine wpAnyH_done (by decide +kernel) ?_ _
          refine NoPanic.normal ?_
          go_wp2_with fail
          go_meet
          exact ⟨gc10, wc1.heap.size, rfl, rfl, rfl, ⟨ybelow_row HB10.out HGA8.out PRB, (setRow_other _ _ _ _ HEAC10.out).trans HC10.out, by rw [HPR.out]; exact setRow_heap _ _ _ _ _ _ HA10.out, HEAC10.out, HGC10.out, HGA8.out⟩⟩
      case rest =>
        obtain ⟨c2, q2, rfl, rfl, rfl, hsd⟩ := hcut
        obtain ⟨wc2, hwc⟩ : ∃ z : World, z = wc := ⟨_, rfl⟩
        subst hwc
        have HSD := Lib.hid hsd
        clear hsd HSV2 HBK2 HSE2 HPR
        have RC2 := Lib.hid (show wc2.heap[c2]? = some (.cells (yvs SB) 5 (0, 0)) from HSD.out.cy)
        have RQ2 := Lib.hid (show wc2.heap[q2]? = some (.cells PRB 41 (0, 0)) by rw [← HPRB.out]; exact HSD.out.qy)
        have RX104 := Lib.hid ((HSD.out.bel.block _ (lt_of_block RX103.out)).trans RX103.out)
        have RK104 := Lib.hid ((HSD.out.bel.block _ (lt_of_block RK103.out)).trans RK103.out)
        have RC1104 := Lib.hid ((HSD.out.bel.block _ (lt_of_block RC1.out)).trans RC1.out)
        have RQ1104 := Lib.hid ((HSD.out.bel.block _ (lt_of_block RQ1.out)).trans RQ1.out)
        have HB104 := Lib.hid (HB103.out.trans (HSD.out.bel.mono HB103.out.size))
        clear RX103 RK103 RC1 RQ1 HB103 HSD
        clear HBLN HSEA HSEB hz SO
        have HSV := Lib.hid (show ∀ W, Below wc2.heap.size wc2 W → W.rangeAt c1 0 (yvs U).toList ∧ W.rangeAt c2 0 (yvs V).toList from fun W hW => by
          have h1 := ArrY.range (show ArrY W c1 5 SA from (hW.block _ (lt_of_block RC1104.out)).trans RC1104.out) 0 16
          have h2 := ArrY.range (show ArrY W c2 5 SB from (hW.block _ (lt_of_block RC2.out)).trans RC2.out) 0 16
          rw [List.drop_zero, HFA.out] at h1
          rw [List.drop_zero, HFB.out] at h2
          exact ⟨h1, h2⟩)
        have hzb := zero_blk
        generalize yvs (zeroY 16) = Z16 at *
        go_upto_region 11 with fail
        go_cut [19, 20] from 21 (fun va vb wc => ∃ u v, va = .pointer (some ⟨u, 0, none⟩) ∧ vb = .pointer (some ⟨v, 0, none⟩) ∧ wc.heap[u]? = some (.cells (yvs U) 71 (0, 0)) ∧ wc.heap[v]? = some (.cells (yvs V) 71 (0, 0)) ∧ Below wc2.heap.size wc2 wc)
        case first =>
          try simp only [Act.put]
          refine wp_region_noPanic ?_
          refine wp_region_held_drew (S := fun W => W.rangeAt c1 0 (yvs U).toList ∧ W.rangeAt c2 0 (yvs V).toList) (by kernel_rfl) (HSV.out _ (Below.refl _ wc2).drew) (fun hHeld => ?_)
          refine wpAnyH_take (i := 0) (oi := ⟨some 73, _, _, _, _, _⟩) (v := ?_) rfl (by kernel_rfl) (by decide +kernel) (by decide +kernel) (fun _ _ _ h => h) (Or.inl ⟨by rfl, ?_⟩) (by assumption) ?_
          rotate_left 1
          · (intro w' hSw; go_simp; try with_reducible rfl)
          try simp only [Act.put, List.setIfInBounds_toArray, List.set_cons_zero, List.set_cons_succ]
          refine wpAnyH_take (i := 1) (oi := ⟨some 74, _, _, _, _, _⟩) (v := ?_) rfl (by kernel_rfl) (by decide +kernel) (by decide +kernel) (fun _ _ _ h => h) (Or.inl ⟨by rfl, ?_⟩) (by assumption) ?_
          rotate_left 1
          · (intro w' hSw; go_simp; try with_reducible rfl)
          try simp only [Act.put, List.setIfInBounds_toArray, List.set_cons_zero, List.set_cons_succ]
          refine wpAnyH_take (i := 2) (oi := ⟨some 75, _, _, _, _, _⟩) (v := ?_) rfl (by kernel_rfl) (by decide +kernel) (by decide +kernel) (fun _ _ _ h => h) (Or.inl ⟨by rfl, ?_⟩) (by assumption) ?_
          rotate_left 1
          · (intro w' hSw; have har := arr_blk c1; go_simp; try with_reducible rfl)
          try simp only [Act.put, List.setIfInBounds_toArray, List.set_cons_zero, List.set_cons_succ]
          refine wpAnyH_take (i := 3) (oi := ⟨some 76, _, _, _, _, _⟩) rfl (by kernel_rfl) (by decide +kernel) (by decide +kernel) (fun _ _ _ h => h) (yieldsIf_load_mid (by rfl) _ _ rfl (c1) (0) rfl (yvs U).toList _ (fun w' h => h.1) Tryd.underlying71 rfl IU.out) (by assumption) ?_
          try simp only [Act.put, List.setIfInBounds_toArray, List.set_cons_zero, List.set_cons_succ, Array.toArray_toList]
          refine wpAnyH_take (i := 4) (oi := ⟨some 77, _, _, _, _, _⟩) (v := ?_) rfl (by kernel_rfl) (by decide +kernel) (by decide +kernel) (fun _ _ _ h => h) (Or.inl ⟨by rfl, ?_⟩) (by assumption) ?_
          rotate_left 1
          · (intro w' hSw; go_simp; try with_reducible rfl)
          try simp only [Act.put, List.setIfInBounds_toArray, List.set_cons_zero, List.set_cons_succ]
          refine wpAnyH_take (i := 5) (oi := ⟨some 78, _, _, _, _, _⟩) (v := ?_) rfl (by kernel_rfl) (by decide +kernel) (by decide +kernel) (fun _ _ _ h => h) (Or.inl ⟨by rfl, ?_⟩) (by assumption) ?_
          rotate_left 1
          · (intro w' hSw; go_simp; try with_reducible rfl)
          try simp only [Act.put, List.setIfInBounds_toArray, List.set_cons_zero, List.set_cons_succ]
          refine wpAnyH_take (i := 6) (oi := ⟨some 79, _, _, _, _, _⟩) (v := ?_) rfl (by kernel_rfl) (by decide +kernel) (by decide +kernel) (fun _ _ _ h => h) (Or.inl ⟨by rfl, ?_⟩) (by assumption) ?_
          rotate_left 1
          · (intro w' hSw; have har := arr_blk c2; go_simp; try with_reducible rfl)
          try simp only [Act.put, List.setIfInBounds_toArray, List.set_cons_zero, List.set_cons_succ]
          refine wpAnyH_take (i := 7) (oi := ⟨some 80, _, _, _, _, _⟩) rfl (by kernel_rfl) (by decide +kernel) (by decide +kernel) (fun _ _ _ h => h) (yieldsIf_load_mid (by rfl) _ _ rfl (c2) (0) rfl (yvs V).toList _ (fun w' h => h.2) Tryd.underlying71 rfl IV.out) (by assumption) ?_
          try simp only [Act.put, List.setIfInBounds_toArray, List.set_cons_zero, List.set_cons_succ, Array.toArray_toList]
          clear hHeld
          have Hb0 := Lib.hid (Below.refl wc2.heap.size wc2).drew
          refine wpAnyH_ready (rs := [8, 9]) (by decide +kernel) (by simp) ?_
          refine AllReadyH.cons rfl (fun K hK => ?_) (AllReadyH.cons rfl (fun K hK => ?_) AllReadyH.nil)
          · go_simp
            have hal := Hb0.out.alloc Hb0.out.size (.cells Z16 71)
            have hxl := heap_alloc_new (wc2.drew) (.cells Z16 71)
            have hst := (Below.refl (wc2.drew).heap.size (wc2.drew)).alloc (Nat.le_refl _) (.cells Z16 71)
            refine hK.out _ _ (HSV.out _ hal) (fun hHeld => ?_)
            clear hK K hHeld
            try simp only [Act.put, List.setIfInBounds_toArray, List.set_cons_zero, List.set_cons_succ]
            refine (show ∀ wxb1 : World, wxb1 = (wc2.drew).alloc (.cells Z16 71) → _ from ?_) _ rfl
            intro wxb1 ew
            rw [← ew] at hal hxl hst
            have HF0b1 := Lib.hid (show wxb1.heap[wc2.heap.size]? = _ from hxl)
            have HG0b1 := Lib.hid (show wc2.heap.size ≤ wc2.heap.size from Hb0.out.size)
            have HBb1 := Lib.hid hal
            clear ew hal hxl hst
            refine wpAnyH_ready (rs := [9]) (by decide +kernel) (by simp) ?_
            refine AllReadyH.cons rfl (fun K hK => ?_) AllReadyH.nil
            go_simp
            have hal := HBb1.out.alloc HBb1.out.size (.cells Z16 71)
            have hxl := heap_alloc_new (wxb1) (.cells Z16 71)
            have hst := (Below.refl (wxb1).heap.size (wxb1)).alloc (Nat.le_refl _) (.cells Z16 71)
            refine hK.out _ _ (HSV.out _ hal) (fun hHeld => ?_)
            clear hK K hHeld
            try simp only [Act.put, List.setIfInBounds_toArray, List.set_cons_zero, List.set_cons_succ]
            refine (show ∀ wxb2 : World, wxb2 = (wxb1).alloc (.cells Z16 71) → _ from ?_) _ rfl
            intro wxb2 ew
            rw [← ew] at hal hxl hst
            have HF0b2 := Lib.hid ((hst.block _ (lt_of_block HF0b1.out)).trans HF0b1.out)
            have HE01b2 := Lib.hid (show wc2.heap.size ≠ wxb1.heap.size from Nat.ne_of_lt (lt_of_block HF0b1.out))
            have HF1b2 := Lib.hid (show wxb2.heap[wxb1.heap.size]? = _ from hxl)
            have HG1b2 := Lib.hid (show wc2.heap.size ≤ wxb1.heap.size from HBb1.out.size)
            have HBb2 := Lib.hid hal
            clear ew hal hxl hst
            refine wpAnyH_ready (rs := [10]) (by decide +kernel) (by simp) ?_
            refine AllReadyH.cons rfl (fun K hK => ?_) AllReadyH.nil
            rw [if_pos (by kernel_rfl)]
            refine wp_store_row (o := ⟨none, .store _ (.tmp 19) _, _, _, _, _⟩) 71 _ _ rfl (wc2.heap.size) (yvs U) rfl rfl 71 Z16 (show (wxb2).heap[wc2.heap.size]? = _ from HF0b2.out) SU.out EU.out (yvs_one U) ?_
            refine hK.out _ _ (HSV.out _ (ybelow_row HBb2.out HG0b1.out (yvs U))) (fun hHeld => ?_)
            clear hK K hHeld
            simp only [Act.put]
            refine wpAnyH_ready (rs := [11]) (by decide +kernel) (by simp) ?_
            refine AllReadyH.cons rfl (fun K hK => ?_) AllReadyH.nil
            rw [if_pos (by kernel_rfl)]
            refine wp_store_row (o := ⟨none, .store _ (.tmp 20) _, _, _, _, _⟩) 71 _ _ rfl (wxb1.heap.size) (yvs V) rfl rfl 71 Z16 (show (((wxb2).setRow (wc2.heap.size) (yvs U))).heap[wxb1.heap.size]? = _ from ((setRow_other _ _ _ _ (Ne.symm HE01b2.out)).trans HF1b2.out)) SV.out EV.out (yvs_one V) ?_
            refine hK.out _ _ (HSV.out _ (ybelow_row (ybelow_row HBb2.out HG0b1.out (yvs U)) HG1b2.out (yvs V))) (fun hHeld => ?_)
            clear hK K hHeld
            simp only [Act.put]
            refine wpAnyH_done (by decide +kernel) ?_ _
            refine NoPanic.normal ?_
            go_wp2_with fail
            go_meet
            exact ⟨wc2.heap.size, wxb1.heap.size, rfl, rfl, ((setRow_other _ _ _ _ HE01b2.out).trans (setRow_heap _ _ _ (yvs U) _ _ HF0b2.out)), (setRow_heap _ _ _ (yvs V) _ _ ((setRow_other _ _ _ _ (Ne.symm HE01b2.out)).trans HF1b2.out)), (ybelow_row (ybelow_row HBb2.out HG0b1.out (yvs U)) HG1b2.out (yvs V))⟩
          · go_simp
            have hal := Hb0.out.alloc Hb0.out.size (.cells Z16 71)
            have hxl := heap_alloc_new (wc2.drew) (.cells Z16 71)
            have hst := (Below.refl (wc2.drew).heap.size (wc2.drew)).alloc (Nat.le_refl _) (.cells Z16 71)
            refine hK.out _ _ (HSV.out _ hal) (fun hHeld => ?_)
            clear hK K hHeld
            try simp only [Act.put, List.setIfInBounds_toArray, List.set_cons_zero, List.set_cons_succ]
            refine (show ∀ wxb3 : World, wxb3 = (wc2.drew).alloc (.cells Z16 71) → _ from ?_) _ rfl
            intro wxb3 ew
            rw [← ew] at hal hxl hst
            have HF1b3 := Lib.hid (show wxb3.heap[wc2.heap.size]? = _ from hxl)
            have HG1b3 := Lib.hid (show wc2.heap.size ≤ wc2.heap.size from Hb0.out.size)
            have HBb3 := Lib.hid hal
            clear ew hal hxl hst
            refine wpAnyH_ready (rs := [8]) (by decide +kernel) (by simp) ?_
            refine AllReadyH.cons rfl (fun K hK => ?_) AllReadyH.nil
            go_simp
            have hal := HBb3.out.alloc HBb3.out.size (.cells Z16 71)
            have hxl := heap_alloc_new (wxb3) (.cells Z16 71)
            have hst := (Below.refl (wxb3).heap.size (wxb3)).alloc (Nat.le_refl _) (.cells Z16 71)
            refine hK.out _ _ (HSV.out _ hal) (fun hHeld => ?_)
            clear hK K hHeld
            try simp only [Act.put, List.setIfInBounds_toArray, List.set_cons_zero, List.set_cons_succ]
            refine (show ∀ wxb4 : World, wxb4 = (wxb3).alloc (.cells Z16 71) → _ from ?_) _ rfl
            intro wxb4 ew
            rw [← ew] at hal hxl hst
            have HF1b4 := Lib.hid ((hst.block _ (lt_of_block HF1b3.out)).trans HF1b3.out)
            have HE10b4 := Lib.hid (show wc2.heap.size ≠ wxb3.heap.size from Nat.ne_of_lt (lt_of_block HF1b3.out))
            have HF0b4 := Lib.hid (show wxb4.heap[wxb3.heap.size]? = _ from hxl)
            have HG0b4 := Lib.hid (show wc2.heap.size ≤ wxb3.heap.size from HBb3.out.size)
            have HBb4 := Lib.hid hal
            clear ew hal hxl hst
            refine wpAnyH_ready (rs := [10]) (by decide +kernel) (by simp) ?_
            refine AllReadyH.cons rfl (fun K hK => ?_) AllReadyH.nil
            rw [if_pos (by kernel_rfl)]
            refine wp_store_row (o := ⟨none, .store _ (.tmp 19) _, _, _, _, _⟩) 71 _ _ rfl (wxb3.heap.size) (yvs U) rfl rfl 71 Z16 (show (wxb4).heap[wxb3.heap.size]? = _ from HF0b4.out) SU.out EU.out (yvs_one U) ?_
            refine hK.out _ _ (HSV.out _ (ybelow_row HBb4.out HG0b4.out (yvs U))) (fun hHeld => ?_)
            clear hK K hHeld
            simp only [Act.put]
            refine wpAnyH_ready (rs := [11]) (by decide +kernel) (by simp) ?_
            refine AllReadyH.cons rfl (fun K hK => ?_) AllReadyH.nil
            rw [if_pos (by kernel_rfl)]
            refine wp_store_row (o := ⟨none, .store _ (.tmp 20) _, _, _, _, _⟩) 71 _ _ rfl (wc2.heap.size) (yvs V) rfl rfl 71 Z16 (show (((wxb4).setRow (wxb3.heap.size) (yvs U))).heap[wc2.heap.size]? = _ from ((setRow_other _ _ _ _ HE10b4.out).trans HF1b4.out)) SV.out EV.out (yvs_one V) ?_
            refine hK.out _ _ (HSV.out _ (ybelow_row (ybelow_row HBb4.out HG0b4.out (yvs U)) HG1b3.out (yvs V))) (fun hHeld => ?_)
            clear hK K hHeld
            simp only [Act.put]
            refine wpAnyH_done (by decide +kernel) ?_ _
            refine NoPanic.normal ?_
            go_wp2_with fail
            go_meet
            exact ⟨wxb3.heap.size, wc2.heap.size, rfl, rfl, ((setRow_other _ _ _ _ (Ne.symm HE10b4.out)).trans (setRow_heap _ _ _ (yvs U) _ _ HF0b4.out)), (setRow_heap _ _ _ (yvs V) _ _ ((setRow_other _ _ _ _ HE10b4.out).trans HF1b4.out)), (ybelow_row (ybelow_row HBb4.out HG0b4.out (yvs U)) HG1b3.out (yvs V))⟩
        case rest =>
          obtain ⟨u, v, rfl, rfl, hu, hv, hbc⟩ := hcut
          obtain ⟨w5, hwc⟩ : ∃ z : World, z = wc := ⟨_, rfl⟩
          subst hwc
          have HU := Lib.hid hu
          have HV := Lib.hid hv
          have RX105 := Lib.hid ((hbc.block _ (lt_of_block RX104.out)).trans RX104.out)
          have RK105 := Lib.hid ((hbc.block _ (lt_of_block RK104.out)).trans RK104.out)
          have RC1105 := Lib.hid ((hbc.block _ (lt_of_block RC1104.out)).trans RC1104.out)
          have RQ1105 := Lib.hid ((hbc.block _ (lt_of_block RQ1104.out)).trans RQ1104.out)
          have RC2105 := Lib.hid ((hbc.block _ (lt_of_block RC2.out)).trans RC2.out)
          have RQ2105 := Lib.hid ((hbc.block _ (lt_of_block RQ2.out)).trans RQ2.out)
          have HB105 := Lib.hid (HB104.out.trans (hbc.mono HB104.out.size))
          clear RX104 RK104 RC1104 RQ1104 RC2 RQ2 HB104 hu hv hbc HSV hzb
          have HRU := Lib.hid (by_range (range_of_row (show w5.heap[u]? = some (.cells (yvs U).toList.toArray 71 (0, 0)) by rw [Array.toArray_toList]; exact HU.out)))
          have HRV := Lib.hid (by_range (range_of_row (show w5.heap[v]? = some (.cells (yvs V).toList.toArray 71 (0, 0)) by rw [Array.toArray_toList]; exact HV.out)))
          have HRX := Lib.hid (by_range (range_of_row (show w5.heap[X]? = some (.cells (yvs k).toList.toArray 24 (0, 0)) by rw [Array.toArray_toList]; exact RX105.out)))
          have HC1 := Lib.hid (fun q : BelowBy w5 => HOP.out q.now)
          have HC2 := Lib.hid (fun q : BelowBy w5 => HD1.out q.now (HB105.out.trans (q.bel.mono HB105.out.size)) ((q.bel.block _ (lt_of_block RX105.out)).trans RX105.out))
          have HC3 := Lib.hid (fun q : BelowBy w5 => HD2.out q.now (HB105.out.trans (q.bel.mono HB105.out.size)) ((q.bel.block _ (lt_of_block RX105.out)).trans RX105.out))
          have heb := HEB.out
          have hne := HNE.out
          have hfd := HFD.out
          have hhe := HHE.out
          have hsk := slice_k32 X
          have hbb := build_blk
          have HEND := Lib.hid (fun q : BelowBy w5 => show Below w.heap.size w q.now from HB105.out.trans (q.bel.mono HB105.out.size))
          by_cases e1 : m = n
          · have em : ((m : Int) == (n : Int)) = true := by simp [e1]
            by_cases e2 : p = o
            · have ep : ((p : Int) == (o : Int)) = true := by simp [e2]
              rw [decide_eq_true (HIJ.out.2 ⟨e1, e2⟩)] at heb
              have HEE := Lib.hid (And.intro em ep)
              clear HOP HD1 HD2 HEB HNE HFD HHE HIJ HFA HFB HU HV e1 e2
              go_upto_region 12 with fail
              refine wp_region_below (by kernel_rfl) (by kernel_rfl) ?_
              repeat (first
                | (with_reducible refine quiet_load_row (o := ⟨some 81, _, _, _, _, _⟩) (by kernel_rfl) 71 _ rfl u 0 rfl (yvs U).toList _ HRU.out Tryd.underlying71 rfl IU.out ?_
                   simp only [Act.put, List.setIfInBounds_toArray, List.set_cons_zero, List.set_cons_succ, Array.toArray_toList])
                | (with_reducible refine quiet_load_row (o := ⟨some 82, _, _, _, _, _⟩) (by kernel_rfl) 71 _ rfl v 0 rfl (yvs V).toList _ HRV.out Tryd.underlying71 rfl IV.out ?_
                   simp only [Act.put, List.setIfInBounds_toArray, List.set_cons_zero, List.set_cons_succ, Array.toArray_toList])
                | (with_reducible refine quiet_load_row (o := ⟨some 94, _, _, _, _, _⟩) (by kernel_rfl) 24 _ rfl X 0 rfl (yvs k).toList _ HRX.out Tryd.underlying24 rfl Ik.out ?_
                   simp only [Act.put, List.setIfInBounds_toArray, List.set_cons_zero, List.set_cons_succ, Array.toArray_toList])
                | (with_reducible refine quiet_load_row (o := ⟨some 95, _, _, _, _, _⟩) (by kernel_rfl) 71 _ rfl u 0 rfl (yvs U).toList _ HRU.out Tryd.underlying71 rfl IU.out ?_
                   simp only [Act.put, List.setIfInBounds_toArray, List.set_cons_zero, List.set_cons_succ, Array.toArray_toList])
                | (go_big_quiet_step (first
                    | (go_at_call 25; exact calls_below (HC1.out _))
                    | (go_at_call 26; exact calls_below (HC2.out _))
                    | (go_at_call 11; exact calls_below (HC3.out _)))))
              refine wpQuiet_nil ?_
              intro _ hw'
              obtain ⟨q, hw''⟩ := hw'
              subst hw''
              go_wp2_with fail
              go_ret
              exact ⟨by simp, HEND.out q⟩
            · have ep : ((p : Int) == (o : Int)) = false := by simp; omega
              rw [decide_eq_false (fun h => e2 (HIJ.out.1 h).2)] at heb
              have HEE := Lib.hid (And.intro em ep)
              clear HOP HD1 HD2 HEB HNE HFD HHE HIJ HFA HFB HU HV e1 e2
              go_upto_region 12 with fail
              refine wp_region_below (by kernel_rfl) (by kernel_rfl) ?_
              repeat (first
                | (with_reducible refine quiet_load_row (o := ⟨some 81, _, _, _, _, _⟩) (by kernel_rfl) 71 _ rfl u 0 rfl (yvs U).toList _ HRU.out Tryd.underlying71 rfl IU.out ?_
                   simp only [Act.put, List.setIfInBounds_toArray, List.set_cons_zero, List.set_cons_succ, Array.toArray_toList])
                | (with_reducible refine quiet_load_row (o := ⟨some 82, _, _, _, _, _⟩) (by kernel_rfl) 71 _ rfl v 0 rfl (yvs V).toList _ HRV.out Tryd.underlying71 rfl IV.out ?_
                   simp only [Act.put, List.setIfInBounds_toArray, List.set_cons_zero, List.set_cons_succ, Array.toArray_toList])
                | (with_reducible refine quiet_load_row (o := ⟨some 94, _, _, _, _, _⟩) (by kernel_rfl) 24 _ rfl X 0 rfl (yvs k).toList _ HRX.out Tryd.underlying24 rfl Ik.out ?_
                   simp only [Act.put, List.setIfInBounds_toArray, List.set_cons_zero, List.set_cons_succ, Array.toArray_toList])
                | (with_reducible refine quiet_load_row (o := ⟨some 95, _, _, _, _, _⟩) (by kernel_rfl) 71 _ rfl u 0 rfl (yvs U).toList _ HRU.out Tryd.underlying71 rfl IU.out ?_
                   simp only [Act.put, List.setIfInBounds_toArray, List.set_cons_zero, List.set_cons_succ, Array.toArray_toList])
                | (go_big_quiet_step (first
                    | (go_at_call 25; exact calls_below (HC1.out _))
                    | (go_at_call 26; exact calls_below (HC2.out _))
                    | (go_at_call 11; exact calls_below (HC3.out _)))))
              refine wpQuiet_nil ?_
              intro _ hw'
              obtain ⟨q, hw''⟩ := hw'
              subst hw''
              go_wp2_with fail
              go_ret
              exact ⟨by simp, HEND.out q⟩
          · have em : ((m : Int) == (n : Int)) = false := by simp; omega
            rw [decide_eq_false (fun h => e1 (HIJ.out.1 h).1)] at heb
            have HEE := Lib.hid (And.intro em em)
            clear HOP HD1 HD2 HEB HNE HFD HHE HIJ HFA HFB HU HV e1
            go_upto_region 12 with fail
            refine wp_region_below (by kernel_rfl) (by kernel_rfl) ?_
            repeat (first
              | (with_reducible refine quiet_load_row (o := ⟨some 81, _, _, _, _, _⟩) (by kernel_rfl) 71 _ rfl u 0 rfl (yvs U).toList _ HRU.out Tryd.underlying71 rfl IU.out ?_
                 simp only [Act.put, List.setIfInBounds_toArray, List.set_cons_zero, List.set_cons_succ, Array.toArray_toList])
              | (with_reducible refine quiet_load_row (o := ⟨some 82, _, _, _, _, _⟩) (by kernel_rfl) 71 _ rfl v 0 rfl (yvs V).toList _ HRV.out Tryd.underlying71 rfl IV.out ?_
                 simp only [Act.put, List.setIfInBounds_toArray, List.set_cons_zero, List.set_cons_succ, Array.toArray_toList])
              | (with_reducible refine quiet_load_row (o := ⟨some 94, _, _, _, _, _⟩) (by kernel_rfl) 24 _ rfl X 0 rfl (yvs k).toList _ HRX.out Tryd.underlying24 rfl Ik.out ?_
                 simp only [Act.put, List.setIfInBounds_toArray, List.set_cons_zero, List.set_cons_succ, Array.toArray_toList])
              | (with_reducible refine quiet_load_row (o := ⟨some 95, _, _, _, _, _⟩) (by kernel_rfl) 71 _ rfl u 0 rfl (yvs U).toList _ HRU.out Tryd.underlying71 rfl IU.out ?_
                 simp only [Act.put, List.setIfInBounds_toArray, List.set_cons_zero, List.set_cons_succ, Array.toArray_toList])
              | (go_big_quiet_step (first
                  | (go_at_call 25; exact calls_below (HC1.out _))
                  | (go_at_call 26; exact calls_below (HC2.out _))
                  | (go_at_call 11; exact calls_below (HC3.out _)))))
            refine wpQuiet_nil ?_
            intro _ hw'
            obtain ⟨q, hw''⟩ := hw'
            subst hw''
            go_wp2_with fail
            go_ret
            exact ⟨by simp, HEND.out q⟩
set_option maxRecDepth 100000 in
theorem lifted (os : Os) (started : os.Started) (H : Type) (enc : TypeId × Value → H) :
    ReturnsInHanded {} Tryd.checked os 8 .any (fun w args => (Rows.sealApartSpec.pre enc Tryd.prog Tryd.f8 [] false w args ∧ laidMetH Tryd.prog [("banyan/sha.roundNumbers", Rows.laid_banyan_sha_roundNumbers)] w) ∧ sizedMet enc Tryd.prog Tryd.f8 (OpenSpec.ofChange Rows.sealApartSpec) false w args)
      (Rows.sealApartSpec.post enc Tryd.prog Tryd.f8 false true false false) := by
  refine returnsInHanded_of_change_and (C := Tryd.checked) (X := fun w _ => laidMetH Tryd.prog [("banyan/sha.roundNumbers", Rows.laid_banyan_sha_roundNumbers)] w) (fun _ _ _ hh h => h.of_heap hh) own2 started (by kernel_rfl) Tryd.func8
    (ChangeSpec.witness_shaped (enc := enc) (C := Tryd.checked) (os := os) (X := fun w _ => laidMetH Tryd.prog [("banyan/sha.roundNumbers", Rows.laid_banyan_sha_roundNumbers)] w) false (World.doorLaid Tryd.prog 400 os) #[.agg (List.replicate 32 (Value.int .u8 0) ++ ([Value.int .u32 0] ++ ([Value.int .u32 0] ++ ([Value.int .u16 0] ++ ([Value.int .u16 0]))))).toArray] 8 rfl (World.shaped_of_RefB (by kernel_rfl) (by kernel_rfl)) (by kernel_rfl) (by kernel_rfl) (by kernel_rfl) (door_met os _)) ?_
  intro W base args ds gs before hval0 hW _ hsz0 hL _
  have hval : ∀ (j : Nat) t v, Tryd.f8.params[j]? = some t → args[j]? = some v → Value.okWide Tryd.prog W .any base t v := hval0
  have hsz : (DataW.weightsEach Tryd.prog (Tryd.f8.params.toList ++ Rows.sealApartSpec.plain.varTypes Tryd.prog) (ds ++ gs)).all (· ≤ reachBytes) = true := hsz0
  clear hsz0
  have hW' := hW
  obtain ⟨p, q, hA0, hV, rfl, hfz, hnd⟩ := hW
  have hA : DataW.TrodAll enc Tryd.prog W 0 (fun _ => true) true Tryd.f8.params.toList args.toList ds p := hA0
  rw [Tryd.params8] at hA hval hsz
  obtain ⟨v0, vs0, d0, ds0, p0, q0, hargs, rfl, rfl, h0, r0⟩ := trodAll_cons hA
  obtain ⟨rfl, rfl, rfl⟩ := trodAll_nil r0
  obtain rfl : args = #[v0] := by cases args; simp_all
  obtain ⟨rfl, rfl⟩ := trodVars_none hV
  have k0 := h0
  have lt0 : ∀ x ∈ p0, x.block < W.heap.size := by obtain ⟨m, hm⟩ := k0; exact DataW.trod_lt m _ _ _ hm
  obtain ⟨k, a, b, c, d, rfl, qf⟩ := par_two12 (j := 0) (hval 0 69 v0 rfl rfl) h0 hsz rfl rfl
  have hK := of_laid hL
  clear hA0 hval0
  refine (walk W k a b c d qf hK).mono fun e W' ⟨he, bel⟩ => ?_
  subst he
  exact ⟨_, rfl, _, _, _, [], _, [], hW', trodAll_mk1 (shut_bool Tryd.underlying4 _), (trodAll_cons_mk (Below.trod laidOut2 (by kernel_rfl) (of_decide_eq_true (by kernel_rfl)) k0 bel lt0) trodAll_mk0), rfl, bel.frame _, fun h => by cases h⟩

theorem over : Rows.SealApartSaid :=
  OpenClaim.holds_of_wide 8 Tryd.f8 rfl rfl rfl rfl rfl rfl rfl ⟨rfl, rfl, rfl, rfl, rfl⟩ rfl rfl rfl rfl rfl (by kernel_rfl) Tryd.func8 (by kernel_rfl)
    (of_decide_eq_true (by kernel_rfl)) (by unfold Func.isWrapper; first | (rw [if_pos (by decide +kernel)]; kernel_rfl) | (rw [if_neg (by decide +kernel)]; exact ⟨rfl, rfl⟩))
    (fun os started H enc _ => lifted os started H enc)

/-- The statement. -/
theorem proved : Rows.SealApartCardSaid :=
  Claim7.holds_tied_plain_at .later [] [.data] true (true, "0131f9f1a1f02ebf5a16687d2fe8903395483cdb43346dae7a1c73827a36235e") false
    over (fun _ h => by cases h) (by kernel_rfl) (fun _ h => by cases h) sealApart_row_tie rfl ⟨rfl, rfl⟩ (by kernel_rfl) rfl
    (fun f fn hf hfn => by
      obtain rfl : f = 8 := Option.some.inj ((show Tryd.prog.funcNamed "banyan/banyanlaw12.SealApart" = some 8 by kernel_rfl).symm.trans hf) |>.symm
      obtain rfl : fn = Tryd.f8 := (Option.some.inj (Tryd.func8.symm.trans hfn)).symm
      exact ⟨by kernel_rfl, fun j t ht => by
        rw [Tryd.params8] at ht
        have hm : t ∈ [69] := by simpa using Array.mem_of_getElem? ht
        have hall : ([69].all fun u => !Tryd.prog.wantsStandIn u) = true := by kernel_rfl
        exact (show Tryd.prog.wantsStandIn t = false by simpa using List.all_eq_true.1 hall t hm)⟩)
    (by kernel_rfl)
#print axioms proved
end Go.Proofs.YtfgdddejpdjllaaDoor.sealApart
