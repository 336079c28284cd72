/-
  Ubers: the program's Get.
-/
import Derived.Test.YtocdjaenhllemaaDoorUp
import Derived.Test.YtocdjaenhllemaaDoorBq
namespace Go.Proofs.YtocdjaenhllemaaDoor
set_option maxRecDepth 4000
open Go.ChangeShapes Go.WideShapes Go.ChangeAt Go.RowKit

set_option maxRecDepth 100000 in
set_option maxHeartbeats 1600000 in
theorem uget_size (v : Value) (a : Option Addr) (n c : Nat) (w : World) (hn : n ≠ 512) (h63 : n ≤ 140737488351232) :
    Calls Tryd.prog 17 #[v, .slice a n c] w fun e w' => e = .returned (.tuple #[.agg (ubRow zeroUb).toArray, .int .i64 2]) ∧ Below w.heap.size w w' := by
  have hz := zero_ub
  have HA := Lib.hid (heap_alloc_new w (.cells (ubRow zeroUb).toArray 30))
  have HB := Lib.hid ((Below.refl w.heap.size w).alloc (Nat.le_refl _) (.cells (ubRow zeroUb).toArray 30))
  have HBN := Lib.hid build_nou
  have SE := Lib.hid (size_ubA zeroUb)
  have SO := Lib.hid (ubRow_one zeroUb)
  have hne : ((n : Int) != 512) = true := by simp; omega
  have n0 : (0 : Int) ≤ (n : Int) := by omega
  have n1 : (n : Int) ≤ 140737488351232 := by omega
  clear hn h63
  generalize (ubRow zeroUb).toArray = ZU at *
  generalize hw1 : w.alloc (.cells ZU 30) = w1 at *
  go_enter Tryd.func17, Tryd.ntmps17
  go_upto_region 1 with fail
  try rw [hw1]
  clear hw1 hz
  go_wp2_with (first
    | (with_reducible refine wpList_build_run (o := ⟨some 12, _, _, _, _, _⟩) rfl 30 _ rfl #[] (by simp) (.agg ZU) (HBN.out _) ?_)
    | (with_reducible refine wpList_store_row (o := ⟨none, .store _ (.tmp 4) _, _, _, _, _⟩) rfl 30 _ _ rfl w.heap.size ZU rfl rfl 30 ZU HA.out SE.out rfl SO.out ?_))
  have h5 : Below w.heap.size w (w1.setRow w.heap.size ZU) := ybelow_row HB.out (Nat.le_refl _) _
  exact bodyPost_ret (v := .tuple #[.agg ZU, .int .i64 2]) (results_cell_two Tryd.results17 _ _ w.heap.size 30 ZU (0, 0) _ rfl (setRow_heap _ w.heap.size _ ZU _ _ HA.out) Tryd.underlying30 rfl SE.out _ (by simp)) rfl ⟨rfl, h5⟩

theorem array_hash (a : Addr) (c : Nat) (W : World) : (Instr.arrayAt 26 (.slice (some a) 32 c)).run Tryd.prog W = .ok (.pointer (some a)) W := by
  simp [Instr.arrayAt, run_underlying Tryd.underlying26]
set_option maxRecDepth 100000 in
set_option maxHeartbeats 3200000 in
theorem uget_full (k l : List Int) (v : Value) (a : Option Addr) (c : Nat) (w : World) (hK : KT w) (hv : BS w v k) (hr : Room v) (hn : k.length ≤ 900000) (hl : BS w (.slice a 512 c) l) (hll : l.length = 512) (hc : 512 ≤ c) (hc63 : c ≤ 9223372036854775807) :
    Calls Tryd.prog 17 #[v, .slice a 512 c] w fun e w' => e = .returned (.tuple #[.agg (ubRow (getU k l).1).toArray, .int .i64 (getU k l).2]) ∧ Below w.heap.size w w' := by
  have hz := zero_ub
  have HA := Lib.hid (heap_alloc_new w (.cells (ubRow zeroUb).toArray 30))
  have HB := Lib.hid ((Below.refl w.heap.size w).alloc (Nat.le_refl _) (.cells (ubRow zeroUb).toArray 30))
  have HT := Lib.hid (show w.heap.size < (w.alloc (.cells (ubRow zeroUb).toArray 30)).heap.size by simp)
  have HBN := Lib.hid build_nou
  have SEZ := Lib.hid (size_ubA zeroUb)
  have SOZ := Lib.hid (ubRow_one zeroUb)
  obtain ⟨a1, _, _, e1, b1⟩ := slice_cut w a 512 c 0 480 l hl hll (by decide) (by decide) hc
  have e1 := e1 rfl
  obtain ⟨a2, _, e2, _, b2⟩ := slice_cut w a 512 c 480 512 l hl hll (by decide) (by decide) hc
  have e2 := e2 rfl
  have hX : l.drop 480 = (l.drop 480).take 32 := (List.take_of_length_le (by rw [List.length_drop]; omega)).symm
  simp only [Nat.sub_zero, List.drop_zero] at e1 b1
  rw [show (512 - 480 : Nat) = 32 from rfl, ← hX] at b2
  rw [show (512 - 480 : Nat) = 32 from rfl] at e2
  rw [show ((480 : Nat) : Int) = 480 from rfl] at e1 e2
  obtain ⟨Y, hY⟩ : ∃ Y, l.take 480 = Y := ⟨_, rfl⟩
  obtain ⟨X, hX'⟩ : ∃ X, l.drop 480 = X := ⟨_, rfl⟩
  rw [hY] at b1
  rw [hX'] at b2
  have hYl : Y.length = 480 := by rw [← hY, List.length_take]; omega
  have hXl : X.length = 32 := by rw [← hX', List.length_drop]; omega
  obtain ⟨b, off, rfl, hx32, hcx⟩ := bs_cells b2 (by omega)
  clear hx32
  have harr := array_hash ⟨b, off, none⟩ (c - 480)
  have HG := Lib.hid (fun (W : World) (hb : Below (w.alloc (.cells (ubRow zeroUb).toArray 30)).heap.size (w.alloc (.cells (ubRow zeroUb).toArray 30)) W) => show W.rangeAt b off (u8s X).toList from fun j x hj => by
    have q := hcx j x hj
    exact (hb.cell (Nat.lt_trans (block_lt_of_cell q) HT.out)).trans ((HB.out.cell (block_lt_of_cell q)).trans q))
  have SH := Lib.hid (size_h32 X hXl)
  have SHL := Lib.hid (show (Tryd.prog.info? 26).map (·.size) = some (u8s X).toList.length by rw [Array.length_toList]; exact SH.out)
  have SHE := Lib.hid (show (u8s (List.replicate 32 0)).size = (u8s X).size by rw [u8s_size, u8s_size, hXl]; rfl)
  have HF := Lib.hid (fun (W : World) (hb : Below w.heap.size w W) => fits_any k Y X v (.slice a1 480 c) W (hK.below hb hK.pos) (hv.kept hb) hr (b1.kept hb) (room_of _ _ _ (by omega) hc63) (by omega) (by omega) hXl b2.byt)
  have HRD := Lib.hid (fun (W : World) (hb : Below w.heap.size w W) => uread_any (.slice a1 480 c) Y W (b1.kept hb) hYl)
  have HEQ := Lib.hid (fun (W : World) (hb : Below w.heap.size w W) (x : Value) (m : List Int) (hx : BS W x m) => bequal_any x (.slice a1 480 c) m Y W hx (b1.kept hb))
  have HCK := Lib.hid (fun W => ucheck_any (ubOf Y) W)
  have HLY := Lib.hid (fun W => ulay_any (ubOf Y) W)
  have HPL := Lib.hid (plainB_length (ubOf Y))
  unfold OwnB at HLY
  have SE := Lib.hid (size_ubA (ubOf Y))
  have SL := Lib.hid (show (ubRow zeroUb).toArray.size = (ubRow (ubOf Y)).toArray.size by simp [ubRow_length])
  have SO := Lib.hid (ubRow_one (ubOf Y))
  have HG1 := Lib.hid (show macS k Y ≠ X → getU k l = (zeroUb, 5) from fun h => by unfold getU; rw [if_neg (by simp [hll]), hY, hX', if_pos (Ne.symm h)])
  have HG2 := Lib.hid (show macS k Y = X → mayU (ubOf Y) = true → plainB (ubOf Y) = Y → getU k l = (ubOf Y, 0) from fun h h2 h3 => by unfold getU; rw [if_neg (by simp [hll]), hY, hX', if_neg (by simp [h]), if_pos ⟨h2, h3⟩])
  have HG3 := Lib.hid (show macS k Y = X → mayU (ubOf Y) = false → getU k l = (zeroUb, 4) from fun h h2 => by unfold getU; rw [if_neg (by simp [hll]), hY, hX', if_neg (by simp [h]), if_neg (by simp [h2])])
  have HG4 := Lib.hid (show macS k Y = X → plainB (ubOf Y) ≠ Y → getU k l = (zeroUb, 4) from fun h h2 => by unfold getU; rw [if_neg (by simp [hll]), hY, hX', if_neg (by simp [h]), if_neg (by simp [h2])])
  have HCE := Lib.hid (show checkU (ubOf Y) = if mayU (ubOf Y) then 0 else 4 from rfl)
  clear hl hll hv hr hn hK hc hc63 hX hY hX' hYl hXl hcx b1 b2
  generalize getU k l = G at *
  generalize macS k Y = MC at *
  generalize plainB (ubOf Y) = PB at *
  generalize checkU (ubOf Y) = CE at *
  generalize mayU (ubOf Y) = MU at *
  obtain ⟨UR, hUR⟩ : ∃ UR, (ubRow (ubOf Y)).toArray = UR := ⟨_, rfl⟩
  obtain ⟨ZU, hZU⟩ : ∃ ZU, (ubRow zeroUb).toArray = ZU := ⟨_, rfl⟩
  have HZU := Lib.hid hZU
  have HUR := Lib.hid hUR
  rw [hZU] at HA HB HT SEZ SOZ SL hz HBN HG
  rw [hUR] at HRD HCK HLY SE SL SO
  clear hZU hUR
  obtain ⟨d, hd⟩ : ∃ d, decide (MC = X) = d := ⟨_, rfl⟩
  rw [hd] at HF
  have HD := Lib.hid hd
  clear hd
  generalize hw1 : w.alloc (.cells ZU 30) = w1 at *
  go_enter Tryd.func17, Tryd.ntmps17
  go_upto_region 1 with fail
  try rw [hw1]
  clear hw1
  go_upto_region 3 with fail
  try simp only [Act.put]
  refine wp_region_noPanic ?_
  refine wp_region_held_drew (S := fun W => W.rangeAt b off (u8s X).toList) (by kernel_rfl) (HG.out w1.drew (Below.refl _ w1).drew) (fun hHeld => ?_)
  refine wpAnyH_take (i := 0) (oi := ⟨some 13, _, _, _, _, _⟩) (v := ?_) rfl (by kernel_rfl) (by decide +kernel) (by decide +kernel) (fun _ _ _ h => h) (Or.inl ⟨by rfl, ?_⟩) (by assumption) ?_
  rotate_left 1
  · (intro w' hSw; go_simp; try with_reducible rfl)
  try simp only [Act.put, List.setIfInBounds_toArray, List.set_cons_zero, List.set_cons_succ]
  refine wpAnyH_take (i := 1) (oi := ⟨some 14, _, _, _, _, _⟩) (v := ?_) rfl (by kernel_rfl) (by decide +kernel) (by decide +kernel) (fun _ _ _ h => h) (Or.inl ⟨by rfl, ?_⟩) (by assumption) ?_
  rotate_left 1
  · (intro w' hSw; go_simp; try with_reducible rfl)
  try simp only [Act.put, List.setIfInBounds_toArray, List.set_cons_zero, List.set_cons_succ]
  refine wpAnyH_take (i := 2) (oi := ⟨some 15, _, _, _, _, _⟩) (v := ?_) rfl (by kernel_rfl) (by decide +kernel) (by decide +kernel) (fun _ _ _ h => h) (Or.inl ⟨by rfl, ?_⟩) (by assumption) ?_
  rotate_left 1
  · (intro w' hSw; go_simp; try with_reducible rfl)
  try simp only [Act.put, List.setIfInBounds_toArray, List.set_cons_zero, List.set_cons_succ]
  refine wpAnyH_take (i := 3) (oi := ⟨some 16, _, _, _, _, _⟩) (v := ?_) rfl (by kernel_rfl) (by decide +kernel) (by decide +kernel) (fun _ _ _ h => h) (Or.inl ⟨by rfl, ?_⟩) (by assumption) ?_
  rotate_left 1
  · (intro w' hSw; go_simp; try with_reducible rfl)
  try simp only [Act.put, List.setIfInBounds_toArray, List.set_cons_zero, List.set_cons_succ]
  refine wpAnyH_take (i := 4) (oi := ⟨some 17, _, _, _, _, _⟩) (v := ?_) rfl (by kernel_rfl) (by decide +kernel) (by decide +kernel) (fun _ _ _ h => h) (Or.inl ⟨by rfl, ?_⟩) (by assumption) ?_
  rotate_left 1
  · (intro w' hSw; go_simp; try with_reducible rfl)
  try simp only [Act.put, List.setIfInBounds_toArray, List.set_cons_zero, List.set_cons_succ]
  refine wpAnyH_take (i := 5) (oi := ⟨some 18, _, _, _, _, _⟩) rfl (by kernel_rfl) (by decide +kernel) (by decide +kernel) (fun _ _ _ h => h) (yieldsIf_load_mid (by rfl) _ _ rfl b off rfl (u8s X).toList _ (fun w' h => h) Tryd.underlying26 rfl SHL.out) (by assumption) ?_
  try simp only [Act.put, List.setIfInBounds_toArray, List.set_cons_zero, List.set_cons_succ, Array.toArray_toList]
  have hb2 := (Below.refl w1.heap.size w1).drew.alloc (Nat.le_refl _) (.cells (u8s (List.replicate 32 0)) 26)
  have hn2 := heap_alloc_new w1.drew (.cells (u8s (List.replicate 32 0)) 26)
  refine wpAnyH_ready (rs := [6]) (by decide +kernel) (by simp) ?_
  refine AllReadyH.cons rfl (fun K hK => ?_) AllReadyH.nil
  go_simp
  refine hK.out _ (w1.drew.alloc (.cells (u8s (List.replicate 32 0)) 26)) (HG.out _ hb2) (fun hHeld => ?_)
  clear hK K
  try simp only [Act.put, List.setIfInBounds_toArray, List.set_cons_zero, List.set_cons_succ]
  refine wpAnyH_take (i := 7) (oi := ⟨some 6, _, _, _, _, _⟩) (v := ?_) rfl (by kernel_rfl) (by decide +kernel) (by decide +kernel) (fun _ _ _ h => h) (Or.inl ⟨by rfl, ?_⟩) (by assumption) ?_
  rotate_left 1
  · (intro w' hSw; go_simp; try with_reducible rfl)
  try simp only [Act.put, List.setIfInBounds_toArray, List.set_cons_zero, List.set_cons_succ]
  refine wpAnyH_ready (rs := [8]) (by decide +kernel) (by simp) ?_
  refine AllReadyH.cons rfl (fun K hK => ?_) AllReadyH.nil
  rw [if_pos (by kernel_rfl)]
  refine wp_store_row (o := ⟨none, .store _ (.tmp 7) _, _, _, _, _⟩) 26 (.tmp 7) (.tmp 18) rfl w1.heap.size (u8s X) rfl rfl 26 (u8s (List.replicate 32 0)) hn2 SH.out SHE.out (u8s_one _) ?_
  have hb3 := below_setRow hb2 (Nat.le_refl _) (u8s X)
  have hn3 : ArrB _ w1.heap.size 26 X := setRow_heap _ w1.heap.size _ _ _ (0, 0) hn2
  refine hK.out _ (World.setRow (w1.drew.alloc (.cells (u8s (List.replicate 32 0)) 26)) w1.heap.size (u8s X)) (HG.out _ hb3) (fun hHeld => ?_)
  clear hK K
  simp only [Act.put]
  refine wpAnyH_done (by decide +kernel) ?_ _
  refine NoPanic.normal ?_
  have HW3 := Lib.hid (show Below w.heap.size w (World.setRow (w1.drew.alloc (.cells (u8s (List.replicate 32 0)) 26)) w1.heap.size (u8s X)) from HB.out.trans (hb3.mono (Nat.le_of_lt HT.out)))
  have HA3 := Lib.hid ((hb3.block w.heap.size HT.out).trans HA.out)
  have HX3 := Lib.hid (show (World.setRow (w1.drew.alloc (.cells (u8s (List.replicate 32 0)) 26)) w1.heap.size (u8s X)).heap[w1.heap.size]? = some (.cells (u8s X) 26 (0, 0)) from hn3)
  clear hb2 hn2 hb3 hn3 HG HA HB SHL SHE e1 e2 harr
  generalize World.setRow (w1.drew.alloc (.cells (u8s (List.replicate 32 0)) 26)) w1.heap.size (u8s X) = W3 at *
  clear HT
  obtain ⟨T, hT⟩ : ∃ T, w1.heap.size = T := ⟨_, rfl⟩
  rw [hT] at HX3 ⊢
  clear hT
  go_wp2_with (first
    | (with_reducible refine wpList_load_row (o := ⟨some 21, _, _, _, _, _⟩) rfl 26 _ rfl T rfl 26 (u8s X) (0, 0) _ HX3.out Tryd.underlying26 rfl SH.out ?_))
  refine (HF.out W3 HW3.out).mono ?_
  rintro e w4 ⟨rfl, hb4⟩
  have HB4 := Lib.hid (HW3.out.trans (hb4.mono HW3.out.size))
  have HA4 := Lib.hid ((hb4.block w.heap.size (Array.getElem?_eq_some_iff.1 HA3.out).1).trans HA3.out)
  clear hb4 HF HX3 HA3 HW3 SH
  cases d with
  | false =>
    have HC := Lib.hid (show G = (zeroUb, 5) from HG1.out (of_decide_eq_false HD.out))
    clear HG1 HG2 HG3 HG4 HCE
    go_wp2_with (first
      | (with_reducible refine wpList_build_run (o := ⟨some 24, _, _, _, _, _⟩) rfl 30 _ rfl #[] (by simp) (.agg ZU) (HBN.out _) ?_)
      | (with_reducible refine wpList_store_row (o := ⟨none, .store _ (.tmp 4) _, _, _, _, _⟩) rfl 30 _ _ rfl w.heap.size ZU rfl rfl 30 ZU HA4.out SEZ.out rfl SOZ.out ?_))
    have h5 : Below w.heap.size w (w4.setRow w.heap.size ZU) := ybelow_row HB4.out (Nat.le_refl _) _
    refine bodyPost_ret (v := .tuple #[.agg ZU, .int .i64 5]) (results_cell_two Tryd.results17 _ _ w.heap.size 30 ZU (0, 0) _ rfl (setRow_heap _ w.heap.size _ ZU _ _ HA4.out) Tryd.underlying30 rfl SEZ.out _ (by simp)) rfl ⟨?_, h5⟩
    rw [HC.out]
    rw [← HZU.out]
  | true =>
    have HMX := Lib.hid (of_decide_eq_true HD.out)
    have HR6 := Lib.hid (HRD.out w4 HB4.out)
    clear HG1 HRD
    go_wp2_with fail
    refine HR6.out.mono ?_
    rintro e w5 ⟨rfl, hb5⟩
    have HB5 := Lib.hid (HB4.out.trans (hb5.mono HB4.out.size))
    have HA5 := Lib.hid ((hb5.block w.heap.size (Array.getElem?_eq_some_iff.1 HA4.out).1).trans HA4.out)
    have HH := Lib.hid (heap_alloc_new w5 (.cells ZU 30))
    clear hb5 HR6 HB4 HA4
    go_upto_region 7 with (first
      | (with_reducible refine wpList_store_row (o := ⟨none, .store _ (.tmp 8) _, _, _, _, _⟩) rfl 30 _ _ rfl w5.heap.size UR rfl rfl 30 ZU HH.out SE.out SL.out SO.out ?_))
    have h6 := setRow_heap (w5.alloc (.cells ZU 30)) w5.heap.size _ UR _ _ HH.out
    have hb6 : Below w5.heap.size w5 ((w5.alloc (.cells ZU 30)).setRow w5.heap.size UR) := ybelow_row ((Below.refl w5.heap.size w5).alloc (Nat.le_refl _) _) (Nat.le_refl _) _
    generalize (w5.alloc (.cells ZU 30)).setRow w5.heap.size UR = w6 at *
    have HA6 := Lib.hid ((hb6.block w.heap.size (Array.getElem?_eq_some_iff.1 HA5.out).1).trans HA5.out)
    have HB6 := Lib.hid (HB5.out.trans (hb6.mono HB5.out.size))
    obtain ⟨T6, hT6⟩ : ∃ T6, w5.heap.size = T6 := ⟨_, rfl⟩
    rw [hT6] at h6 ⊢
    have H6 := Lib.hid h6
    clear h6 hb6 hT6 HH HB5 HA5 hz
    have HCK6 := Lib.hid (HCK.out w6)
    cases MU with
    | false =>
      rw [show CE = 4 from HCE.out] at HCK6
      have HC := Lib.hid (show G = (zeroUb, 4) from HG3.out HMX.out rfl)
      clear HCE HG2 HG3 HG4
      go_wp2_with (first
        | (with_reducible refine wpList_load_row (o := ⟨some 27, _, _, _, _, _⟩) rfl 30 _ rfl T6 rfl 30 UR (0, 0) _ H6.out Tryd.underlying30 rfl SE.out ?_))
      refine HCK6.out.mono ?_
      rintro e w7 ⟨rfl, hb7⟩
      have HB7 := Lib.hid (HB6.out.trans (hb7.mono HB6.out.size))
      have HA7 := Lib.hid ((hb7.block w.heap.size (Array.getElem?_eq_some_iff.1 HA6.out).1).trans HA6.out)
      clear hb7 HCK6 HB6 HA6 H6
      go_wp2_with (first
        | (with_reducible refine wpList_build_run (o := ⟨some 37, _, _, _, _, _⟩) rfl 30 _ rfl #[] (by simp) (.agg ZU) (HBN.out _) ?_)
        | (with_reducible refine wpList_store_row (o := ⟨none, .store _ (.tmp 4) _, _, _, _, _⟩) rfl 30 _ _ rfl w.heap.size ZU rfl rfl 30 ZU HA7.out SEZ.out rfl SOZ.out ?_))
      have h5 : Below w.heap.size w (w7.setRow w.heap.size ZU) := ybelow_row HB7.out (Nat.le_refl _) _
      refine bodyPost_ret (v := .tuple #[.agg ZU, .int .i64 4]) (results_cell_two Tryd.results17 _ _ w.heap.size 30 ZU (0, 0) _ rfl (setRow_heap _ w.heap.size _ ZU _ _ HA7.out) Tryd.underlying30 rfl SEZ.out _ (by simp)) rfl ⟨?_, h5⟩
      rw [HC.out]
      rw [← HZU.out]
    | true =>
      rw [show CE = 0 from HCE.out] at HCK6
      clear HCE HG3
      go_wp2_with (first
        | (with_reducible refine wpList_load_row (o := ⟨some 27, _, _, _, _, _⟩) rfl 30 _ rfl T6 rfl 30 UR (0, 0) _ H6.out Tryd.underlying30 rfl SE.out ?_))
      refine HCK6.out.mono ?_
      rintro e w7 ⟨rfl, hb7⟩
      have HB7 := Lib.hid (HB6.out.trans (hb7.mono HB6.out.size))
      have HA7 := Lib.hid ((hb7.block w.heap.size (Array.getElem?_eq_some_iff.1 HA6.out).1).trans HA6.out)
      have H7 := Lib.hid ((hb7.block T6 (Array.getElem?_eq_some_iff.1 H6.out).1).trans H6.out)
      clear hb7 HCK6 HB6 HA6 H6
      have HLY7 := Lib.hid (HLY.out w7)
      rw [HPL.out] at HLY7
      go_wp2_with (first
        | (with_reducible refine wpList_load_guarded (o := ⟨some 31, _, _, _, _, _⟩) (by kernel_rfl) 30 _ rfl T6 rfl 30 UR (0, 0) _ H7.out Tryd.underlying30 rfl SE.out ?_))
      refine HLY7.out.mono ?_
      rintro e w8 ⟨a8, c8, rfl, _, hs8, _, hb8⟩
      have HB8 := Lib.hid (HB7.out.trans (hb8.mono HB7.out.size))
      have HA8 := Lib.hid ((hb8.block w.heap.size (Array.getElem?_eq_some_iff.1 HA7.out).1).trans HA7.out)
      have H8 := Lib.hid ((hb8.block T6 (Array.getElem?_eq_some_iff.1 H7.out).1).trans H7.out)
      have HE8 := Lib.hid (HEQ.out w8 HB8.out _ _ hs8)
      clear hs8 hb8 HLY7 HB7 HA7 H7
      obtain ⟨q, hq⟩ : ∃ q, decide (PB = Y) = q := ⟨_, rfl⟩
      rw [hq] at HE8
      have HQ := Lib.hid hq
      clear hq
      go_wp2_with fail
      refine HE8.out.mono ?_
      rintro e w9 ⟨rfl, rfl⟩
      clear HE8
      cases q with
      | false =>
        have HC := Lib.hid (show G = (zeroUb, 4) from HG4.out HMX.out (of_decide_eq_false HQ.out))
        clear HG2 HG4
        go_wp2_with (first
          | (with_reducible refine wpList_build_run (o := ⟨some 37, _, _, _, _, _⟩) rfl 30 _ rfl #[] (by simp) (.agg ZU) (HBN.out _) ?_)
          | (with_reducible refine wpList_store_row (o := ⟨none, .store _ (.tmp 4) _, _, _, _, _⟩) rfl 30 _ _ rfl w.heap.size ZU rfl rfl 30 ZU HA8.out SEZ.out rfl SOZ.out ?_))
        have h5 : Below w.heap.size w (w9.setRow w.heap.size ZU) := ybelow_row HB8.out (Nat.le_refl _) _
        refine bodyPost_ret (v := .tuple #[.agg ZU, .int .i64 4]) (results_cell_two Tryd.results17 _ _ w.heap.size 30 ZU (0, 0) _ rfl (setRow_heap _ w.heap.size _ ZU _ _ HA8.out) Tryd.underlying30 rfl SEZ.out _ (by simp)) rfl ⟨?_, h5⟩
        rw [HC.out]
        rw [← HZU.out]
      | true =>
        have HC := Lib.hid (show G = (ubOf Y, 0) from HG2.out HMX.out trivial (of_decide_eq_true HQ.out))
        clear HG2 HG4
        go_wp2_with (first
          | (with_reducible refine wpList_load_row (o := ⟨some 38, _, _, _, _, _⟩) rfl 30 _ rfl T6 rfl 30 UR (0, 0) _ H8.out Tryd.underlying30 rfl SE.out ?_)
          | (with_reducible refine wpList_store_row (o := ⟨none, .store _ (.tmp 4) _, _, _, _, _⟩) rfl 30 _ _ rfl w.heap.size UR rfl rfl 30 ZU HA8.out SE.out SL.out SO.out ?_))
        have h5 : Below w.heap.size w (w9.setRow w.heap.size UR) := ybelow_row HB8.out (Nat.le_refl _) _
        refine bodyPost_ret (v := .tuple #[.agg UR, .int .i64 0]) (results_cell_two Tryd.results17 _ _ w.heap.size 30 UR (0, 0) _ rfl (setRow_heap _ w.heap.size _ UR _ _ HA8.out) Tryd.underlying30 rfl SE.out _ (by simp)) rfl ⟨?_, h5⟩
        rw [HC.out]
        rw [← HUR.out]
end Go.Proofs.YtocdjaenhllemaaDoor
