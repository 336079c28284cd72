/-
  'UberBack' returns true at every input, and each argument reads behind the call as it read before. Conditions: the package-level variable that the row lists starts as the program's text lays it (the card ties that).
-/
import Derived.Test.YtocdjaenhllemaaDoorLaid
import Derived.Test.YtocdjaenhllemaaDoorCards
import Derived.Test.YtocdjaenhllemaaDoorTie
import Derived.Test.YtocdjaenhllemaaDoorUl
import Derived.Test.YtocdjaenhllemaaDoorUob
namespace Go.Proofs.YtocdjaenhllemaaDoor.uberBack
open Go.ChangeShapes Go.WideShapes Go.ChangeAt Go.RowKit
set_option linter.unusedVariables false

theorem range_split {W : World} {b o : Nat} {l m : List Value} (h : W.rangeAt b o (l ++ m)) : W.rangeAt b o l ∧ W.rangeAt b (o + l.length) m := by
  refine ⟨fun j v hj => h j v ?_, fun j v hj => ?_⟩
  · rw [List.getElem?_append_left (List.getElem?_eq_some_iff.1 hj).1]
    exact hj
  · have := h (l.length + j) v (by rw [List.getElem?_append_right (by omega), Nat.add_sub_cancel_left]; exact hj)
    rwa [← Nat.add_assoc] at this
theorem turned_at {W : World} {B T : Nat} {fr : Nat × Nat} {ka : Option Addr} {kc : Nat} {k : List Int} {u : UbV} {t z : Int} (h : W.heap[B]? = some (.cells (turned10Cells ka kc k u t z).toArray T fr)) :
    W.cell? ⟨B, 0, none⟩ = some (.slice ka k.length kc) ∧ W.rangeAt B 1 (ubRow u) ∧ W.cell? ⟨B, 37, none⟩ = some (.int .u16 t) ∧ W.cell? ⟨B, 38, none⟩ = some (.int .u8 z) := by
  obtain ⟨h1, h2⟩ := range_split (l := [Value.slice ka k.length kc]) (range_of_row h)
  obtain ⟨h3, h4⟩ := range_split h2
  obtain ⟨h5, h6⟩ := range_split (l := [Value.int .u16 t]) h4
  have hl := ubRow_length u
  refine ⟨h1 0 _ rfl, h3, ?_, ?_⟩
  · have := h5 0 _ rfl
    rw [hl] at this
    exact this
  · have := h6 0 _ rfl
    rw [hl] at this
    exact this

set_option maxRecDepth 100000 in
set_option maxHeartbeats 1600000 in
theorem walk (w : World) (ka : Option Addr) (kc : Nat) (k : List Int) (u : UbV) (t : Int) (z : Int) (qf : (k.length ≤ kc ∧ kc ≤ 140737488351232 ∧ BS w (.slice ka k.length kc) k) ∧ (0 ≤ t ∧ t ≤ 65535) ∧ (0 ≤ z ∧ z ≤ 255)) (hK : KT w) :
    Calls Tryd.prog 6 #[.agg (turned10Cells ka kc k u t z).toArray] w fun e w' => e = .returned (.bool true) ∧ Below w.heap.size w w' := by
  obtain ⟨⟨mk, nk0, bk⟩, ht01, hz01⟩ := qf
  have HAL := Lib.hid (fun (W : World) (hb : Below w.heap.size w W) => alive10_any W (hK.below hb hK.pos))
  have HBB := Lib.hid ((Below.refl w.heap.size w).alloc (Nat.le_refl _) (.cells (turned10Cells ka kc k u t z).toArray 49))
  have HBX := Lib.hid (heap_alloc_new w (.cells (turned10Cells ka kc k u t z).toArray 49))
  obtain ⟨nk, hk⟩ : ∃ n, k.length = n := ⟨_, rfl⟩
  rw [hk] at mk bk
  have i0 : (0 : Int) ≤ (nk : Int) := by omega
  have i1 : (nk : Int) ≤ 140737488351232 := by omega
  have HKT := Lib.hid hK
  have HB0 := Lib.hid bk
  have HRM := Lib.hid (room_of ka nk kc mk (by omega))
  have HKL := Lib.hid (show k.length ≤ 140737488355328 by omega)
  have HTZ := Lib.hid (And.intro ht01 hz01)
  have SE := Lib.hid (size_ub u)
  have SEA := Lib.hid (size_ubA u)
  have SO := Lib.hid (ubRow_one u)
  have SLZ := Lib.hid (show (ubRow zeroUb).toArray.size = (ubRow u).toArray.size by simp [ubRow_length])
  have hz := zero_ub
  have HEU := Lib.hid (show ∀ W : World, (Op.equalIn 10000 30 (.agg (ubRow u).toArray) (.agg (ubRow u).toArray)).run Tryd.prog W = .ok true W from fun W => by
    have := eq_ub u u W
    rwa [show decide (u = u) = true by simp] at this)
  obtain ⟨UL, hUL⟩ : ∃ UL, ubRow u = UL := ⟨_, rfl⟩
  obtain ⟨ZU, hZU⟩ : ∃ Z, (ubRow zeroUb).toArray = Z := ⟨_, rfl⟩
  have HUL := Lib.hid hUL
  have HZU := Lib.hid hZU
  rw [hUL] at SE SEA SO SLZ HEU
  rw [hZU] at SLZ hz
  have z0 := hz01.1
  have z1 := hz01.2
  have t0 := ht01.1
  have t1 := ht01.2
  clear hK mk nk0 bk ht01 hz01 hUL hZU
  generalize hwb : w.alloc (.cells (turned10Cells ka kc k u t z).toArray 49) = wb at *
  by_cases hbig : 200 < nk
  · have hbI : (200 : Int) < (nk : Int) := by omega
    clear hbig
    go_enter Tryd.func6, Tryd.ntmps6
    go_upto_region 1 with fail
    try rw [hwb]
    clear hwb
    go_wp2_with fail
    refine (HAL.out wb HBB.out).mono ?_
    rintro e w2 ⟨rfl, hb2⟩
    have HB2 := Lib.hid (HBB.out.trans (hb2.mono HBB.out.size))
    have hA2 := (hb2.block w.heap.size (Array.getElem?_eq_some_iff.1 HBX.out).1).trans HBX.out
    have HS := Lib.hid (show ∀ W, Below w2.heap.size w2 W → W.cell? ⟨w.heap.size, 0, none⟩ = some (.slice ka nk kc) ∧ W.rangeAt w.heap.size 1 UL ∧ W.cell? ⟨w.heap.size, 37, none⟩ = some (.int .u16 t) ∧ W.cell? ⟨w.heap.size, 38, none⟩ = some (.int .u8 z) from fun W hb => by
      have q := turned_at ((hb.block w.heap.size (Array.getElem?_eq_some_iff.1 hA2).1).trans hA2)
      rw [hk, HUL.out] at q
      exact q)
    clear hb2 hA2 HAL HBX HBB hk
    obtain ⟨B, hB⟩ : ∃ B, w.heap.size = B := ⟨_, rfl⟩
    go_upto_region 3 with fail
    rw [hB] at HS
    try rw [hB]
    try simp only [Act.put]
    refine wp_region_noPanic ?_
    refine wp_region_held_drew (S := fun W => W.cell? ⟨B, 0, none⟩ = some (.slice ka nk kc) ∧ W.rangeAt B 1 UL ∧ W.cell? ⟨B, 37, none⟩ = some (.int .u16 t) ∧ W.cell? ⟨B, 38, none⟩ = some (.int .u8 z)) (by kernel_rfl) (HS.out w2.drew (Below.refl _ w2).drew) (fun hHeld => ?_)
    refine wpAnyH_take (i := 0) (oi := ⟨some 17, _, _, _, _, _⟩) (v := ?_) rfl (by kernel_rfl) (by decide +kernel) (by decide +kernel) (fun _ _ _ h => h) (Or.inl ⟨by rfl, ?_⟩) (by assumption) ?_
    rotate_left 1
    · (intro w' hSw; go_simp; try with_reducible rfl)
    try simp only [Act.put, List.setIfInBounds_toArray, List.set_cons_zero, List.set_cons_succ]
    refine wpAnyH_take (i := 1) (oi := ⟨some 18, _, _, _, _, _⟩) (v := ?_) rfl (by kernel_rfl) (by decide +kernel) (by decide +kernel) (fun _ _ _ h => h) (Or.inl ⟨by rfl, ?_⟩) (by assumption) ?_
    rotate_left 1
    · (intro w' hSw; obtain ⟨d0, _, d2, d3⟩ := hSw; go_simp; try with_reducible rfl)
    try simp only [Act.put, List.setIfInBounds_toArray, List.set_cons_zero, List.set_cons_succ]
    refine wpAnyH_take (i := 2) (oi := ⟨some 19, _, _, _, _, _⟩) (v := ?_) rfl (by kernel_rfl) (by decide +kernel) (by decide +kernel) (fun _ _ _ h => h) (Or.inl ⟨by rfl, ?_⟩) (by assumption) ?_
    rotate_left 1
    · (intro w' hSw; go_simp; try with_reducible rfl)
    try simp only [Act.put, List.setIfInBounds_toArray, List.set_cons_zero, List.set_cons_succ]
    refine wpAnyH_take (i := 3) (oi := ⟨some 20, _, _, _, _, _⟩) rfl (by kernel_rfl) (by decide +kernel) (by decide +kernel) (fun _ _ _ h => h) (yieldsIf_load_mid (by rfl) _ _ rfl B 1 rfl UL _ (fun w' h => h.2.1) Tryd.underlying30 rfl SE.out) (by assumption) ?_
    try simp only [Act.put, List.setIfInBounds_toArray, List.set_cons_zero, List.set_cons_succ]
    refine wpAnyH_take (i := 4) (oi := ⟨some 21, _, _, _, _, _⟩) (v := ?_) rfl (by kernel_rfl) (by decide +kernel) (by decide +kernel) (fun _ _ _ h => h) (Or.inl ⟨by rfl, ?_⟩) (by assumption) ?_
    rotate_left 1
    · (intro w' hSw; go_simp; try with_reducible rfl)
    try simp only [Act.put, List.setIfInBounds_toArray, List.set_cons_zero, List.set_cons_succ]
    refine wpAnyH_take (i := 5) (oi := ⟨some 22, _, _, _, _, _⟩) (v := ?_) rfl (by kernel_rfl) (by decide +kernel) (by decide +kernel) (fun _ _ _ h => h) (Or.inl ⟨by rfl, ?_⟩) (by assumption) ?_
    rotate_left 1
    · (intro w' hSw; obtain ⟨d0, _, d2, d3⟩ := hSw; go_simp; try with_reducible rfl)
    try simp only [Act.put, List.setIfInBounds_toArray, List.set_cons_zero, List.set_cons_succ]
    refine wpAnyH_take (i := 6) (oi := ⟨some 23, _, _, _, _, _⟩) (v := ?_) rfl (by kernel_rfl) (by decide +kernel) (by decide +kernel) (fun _ _ _ h => h) (Or.inl ⟨by rfl, ?_⟩) (by assumption) ?_
    rotate_left 1
    · (intro w' hSw; go_simp; try with_reducible rfl)
    try simp only [Act.put, List.setIfInBounds_toArray, List.set_cons_zero, List.set_cons_succ]
    refine wpAnyH_take (i := 7) (oi := ⟨some 24, _, _, _, _, _⟩) (v := ?_) rfl (by kernel_rfl) (by decide +kernel) (by decide +kernel) (fun _ _ _ h => h) (Or.inl ⟨by rfl, ?_⟩) (by assumption) ?_
    rotate_left 1
    · (intro w' hSw; obtain ⟨d0, _, d2, d3⟩ := hSw; go_simp; try with_reducible rfl)
    try simp only [Act.put, List.setIfInBounds_toArray, List.set_cons_zero, List.set_cons_succ]
    have hb3 := (Below.refl w2.heap.size w2).drew.alloc (Nat.le_refl _) (.cells ZU 30)
    have hn3 := heap_alloc_new w2.drew (.cells ZU 30)
    refine wpAnyH_ready (rs := [8]) (by decide +kernel) (by simp) ?_
    refine AllReadyH.cons rfl (fun K hK => ?_) AllReadyH.nil
    go_simp
    refine hK.out _ (w2.drew.alloc (.cells ZU 30)) (HS.out _ hb3) (fun hHeld => ?_)
    clear hK K
    try simp only [Act.put, List.setIfInBounds_toArray, List.set_cons_zero, List.set_cons_succ]
    refine wpAnyH_take (i := 9) (oi := ⟨some 3, _, _, _, _, _⟩) (v := ?_) rfl (by kernel_rfl) (by decide +kernel) (by decide +kernel) (fun _ _ _ h => h) (Or.inl ⟨by rfl, ?_⟩) (by assumption) ?_
    rotate_left 1
    · (intro w' hSw; go_simp; try with_reducible rfl)
    try simp only [Act.put, List.setIfInBounds_toArray, List.set_cons_zero, List.set_cons_succ]
    refine wpAnyH_ready (rs := [10]) (by decide +kernel) (by simp) ?_
    refine AllReadyH.cons rfl (fun K hK => ?_) AllReadyH.nil
    rw [if_pos (by kernel_rfl)]
    refine wp_store_row (o := ⟨none, .store _ (.tmp 4) _, _, _, _, _⟩) 30 (.tmp 4) (.tmp 20) rfl w2.heap.size UL.toArray rfl rfl 30 ZU hn3 SEA.out SLZ.out SO.out ?_
    have hb4 := below_setRow hb3 (Nat.le_refl _) UL.toArray
    have hn4 := setRow_heap _ w2.heap.size _ UL.toArray _ (0, 0) hn3
    refine hK.out _ (World.setRow (w2.drew.alloc (.cells ZU 30)) w2.heap.size UL.toArray) (HS.out _ hb4) (fun hHeld => ?_)
    clear hK K
    simp only [Act.put]
    refine wpAnyH_take (i := 11) (oi := ⟨some 5, _, _, _, _, _⟩) (v := ?_) rfl (by kernel_rfl) (by decide +kernel) (by decide +kernel) (fun _ _ _ h => h) (Or.inl ⟨by rfl, ?_⟩) (by assumption) ?_
    rotate_left 1
    · (intro w' hSw; go_simp; try with_reducible rfl)
    try simp only [Act.put, List.setIfInBounds_toArray, List.set_cons_zero, List.set_cons_succ]
    refine wpAnyH_take (i := 12) (oi := ⟨some 6, _, _, _, _, _⟩) (v := ?_) rfl (by kernel_rfl) (by decide +kernel) (by decide +kernel) (fun _ _ _ h => h) (Or.inl ⟨by rfl, ?_⟩) (by assumption) ?_
    rotate_left 1
    · (intro w' hSw; go_simp; try with_reducible rfl)
    try simp only [Act.put, List.setIfInBounds_toArray, List.set_cons_zero, List.set_cons_succ]
    refine wpAnyH_done (by decide +kernel) ?_ _
    refine NoPanic.normal ?_
    have HB4 := Lib.hid (HB2.out.trans (hb4.mono HB2.out.size))
    have H4 := Lib.hid (show (World.setRow (w2.drew.alloc (.cells ZU 30)) w2.heap.size UL.toArray).heap[w2.heap.size]? = some (.cells UL.toArray 30 (0, 0)) from hn4)
    clear hb3 hn3 hb4 hn4 HB2 HS hHeld
    generalize World.setRow (w2.drew.alloc (.cells ZU 30)) w2.heap.size UL.toArray = w4 at *
    obtain ⟨V, hV⟩ : ∃ V, w2.heap.size = V := ⟨_, rfl⟩
    rw [hV] at H4 ⊢
    clear hV
    by_cases hmu : mayU u = true
    · have HP := Lib.hid (uput_ok k (.slice ka nk kc) u w4 (HKT.out.below HB4.out HKT.out.pos) (HB0.out.kept HB4.out) HRM.out HKL.out hmu)
      rw [HUL.out] at HP
      go_wp2_with (first
        | (with_reducible refine wpList_load_row (o := ⟨some 27, _, _, _, _, _⟩) rfl 30 _ rfl V rfl 30 UL.toArray (0, 0) _ H4.out Tryd.underlying30 rfl SEA.out ?_))
      refine HP.out.mono ?_
      rintro e w5 ⟨aB, cB, rfl, hcB, hmB, hsB, hb5⟩
      have HB5 := Lib.hid (HB4.out.trans (hb5.mono HB4.out.size))
      have H5 := Lib.hid ((hb5.block V (Array.getElem?_eq_some_iff.1 H4.out).1).trans H4.out)
      have HSB := Lib.hid hsB
      have HLB := Lib.hid (And.intro hcB hmB)
      clear hb5 hsB hcB hmB HP HB4 H4
      go_wp2_with fail
      go_ret
      exact ⟨rfl, HB5.out⟩
    · have HP := Lib.hid (uput_bad (.slice ka nk kc) u w4 (by simpa using hmu))
      rw [HUL.out] at HP
      clear hmu
      go_wp2_with (first
        | (with_reducible refine wpList_load_row (o := ⟨some 27, _, _, _, _, _⟩) rfl 30 _ rfl V rfl 30 UL.toArray (0, 0) _ H4.out Tryd.underlying30 rfl SEA.out ?_))
      refine HP.out.mono ?_
      rintro e w5 ⟨rfl, hb5⟩
      have HB5 := Lib.hid (HB4.out.trans (hb5.mono HB4.out.size))
      clear hb5 HP HB4 H4
      go_wp2_with fail
      go_ret
      exact ⟨rfl, HB5.out⟩
  have hsI : (nk : Int) ≤ 200 := by omega
  have HKS := Lib.hid (show k.length ≤ 900000 by rw [hk]; omega)
  clear hbig i1
  go_enter Tryd.func6, Tryd.ntmps6
  go_upto_region 1 with fail
  try rw [hwb]
  clear hwb
  go_wp2_with fail
  refine (HAL.out wb HBB.out).mono ?_
  rintro e w2 ⟨rfl, hb2⟩
  have HB2 := Lib.hid (HBB.out.trans (hb2.mono HBB.out.size))
  have hA2 := (hb2.block w.heap.size (Array.getElem?_eq_some_iff.1 HBX.out).1).trans HBX.out
  have HS := Lib.hid (show ∀ W, Below w2.heap.size w2 W → W.cell? ⟨w.heap.size, 0, none⟩ = some (.slice ka nk kc) ∧ W.rangeAt w.heap.size 1 UL ∧ W.cell? ⟨w.heap.size, 37, none⟩ = some (.int .u16 t) ∧ W.cell? ⟨w.heap.size, 38, none⟩ = some (.int .u8 z) from fun W hb => by
    have q := turned_at ((hb.block w.heap.size (Array.getElem?_eq_some_iff.1 hA2).1).trans hA2)
    rw [hk, HUL.out] at q
    exact q)
  clear hb2 hA2 HAL HBX HBB hk
  obtain ⟨B, hB⟩ : ∃ B, w.heap.size = B := ⟨_, rfl⟩
  go_upto_region 3 with fail
  rw [hB] at HS
  try rw [hB]
  try simp only [Act.put]
  refine wp_region_noPanic ?_
  refine wp_region_held_drew (S := fun W => W.cell? ⟨B, 0, none⟩ = some (.slice ka nk kc) ∧ W.rangeAt B 1 UL ∧ W.cell? ⟨B, 37, none⟩ = some (.int .u16 t) ∧ W.cell? ⟨B, 38, none⟩ = some (.int .u8 z)) (by kernel_rfl) (HS.out w2.drew (Below.refl _ w2).drew) (fun hHeld => ?_)
  refine wpAnyH_take (i := 0) (oi := ⟨some 17, _, _, _, _, _⟩) (v := ?_) rfl (by kernel_rfl) (by decide +kernel) (by decide +kernel) (fun _ _ _ h => h) (Or.inl ⟨by rfl, ?_⟩) (by assumption) ?_
  rotate_left 1
  · (intro w' hSw; go_simp; try with_reducible rfl)
  try simp only [Act.put, List.setIfInBounds_toArray, List.set_cons_zero, List.set_cons_succ]
  refine wpAnyH_take (i := 1) (oi := ⟨some 18, _, _, _, _, _⟩) (v := ?_) rfl (by kernel_rfl) (by decide +kernel) (by decide +kernel) (fun _ _ _ h => h) (Or.inl ⟨by rfl, ?_⟩) (by assumption) ?_
  rotate_left 1
  · (intro w' hSw; obtain ⟨d0, _, d2, d3⟩ := hSw; go_simp; try with_reducible rfl)
  try simp only [Act.put, List.setIfInBounds_toArray, List.set_cons_zero, List.set_cons_succ]
  refine wpAnyH_take (i := 2) (oi := ⟨some 19, _, _, _, _, _⟩) (v := ?_) rfl (by kernel_rfl) (by decide +kernel) (by decide +kernel) (fun _ _ _ h => h) (Or.inl ⟨by rfl, ?_⟩) (by assumption) ?_
  rotate_left 1
  · (intro w' hSw; go_simp; try with_reducible rfl)
  try simp only [Act.put, List.setIfInBounds_toArray, List.set_cons_zero, List.set_cons_succ]
  refine wpAnyH_take (i := 3) (oi := ⟨some 20, _, _, _, _, _⟩) rfl (by kernel_rfl) (by decide +kernel) (by decide +kernel) (fun _ _ _ h => h) (yieldsIf_load_mid (by rfl) _ _ rfl B 1 rfl UL _ (fun w' h => h.2.1) Tryd.underlying30 rfl SE.out) (by assumption) ?_
  try simp only [Act.put, List.setIfInBounds_toArray, List.set_cons_zero, List.set_cons_succ]
  refine wpAnyH_take (i := 4) (oi := ⟨some 21, _, _, _, _, _⟩) (v := ?_) rfl (by kernel_rfl) (by decide +kernel) (by decide +kernel) (fun _ _ _ h => h) (Or.inl ⟨by rfl, ?_⟩) (by assumption) ?_
  rotate_left 1
  · (intro w' hSw; go_simp; try with_reducible rfl)
  try simp only [Act.put, List.setIfInBounds_toArray, List.set_cons_zero, List.set_cons_succ]
  refine wpAnyH_take (i := 5) (oi := ⟨some 22, _, _, _, _, _⟩) (v := ?_) rfl (by kernel_rfl) (by decide +kernel) (by decide +kernel) (fun _ _ _ h => h) (Or.inl ⟨by rfl, ?_⟩) (by assumption) ?_
  rotate_left 1
  · (intro w' hSw; obtain ⟨d0, _, d2, d3⟩ := hSw; go_simp; try with_reducible rfl)
  try simp only [Act.put, List.setIfInBounds_toArray, List.set_cons_zero, List.set_cons_succ]
  refine wpAnyH_take (i := 6) (oi := ⟨some 23, _, _, _, _, _⟩) (v := ?_) rfl (by kernel_rfl) (by decide +kernel) (by decide +kernel) (fun _ _ _ h => h) (Or.inl ⟨by rfl, ?_⟩) (by assumption) ?_
  rotate_left 1
  · (intro w' hSw; go_simp; try with_reducible rfl)
  try simp only [Act.put, List.setIfInBounds_toArray, List.set_cons_zero, List.set_cons_succ]
  refine wpAnyH_take (i := 7) (oi := ⟨some 24, _, _, _, _, _⟩) (v := ?_) rfl (by kernel_rfl) (by decide +kernel) (by decide +kernel) (fun _ _ _ h => h) (Or.inl ⟨by rfl, ?_⟩) (by assumption) ?_
  rotate_left 1
  · (intro w' hSw; obtain ⟨d0, _, d2, d3⟩ := hSw; go_simp; try with_reducible rfl)
  try simp only [Act.put, List.setIfInBounds_toArray, List.set_cons_zero, List.set_cons_succ]
  have hb3 := (Below.refl w2.heap.size w2).drew.alloc (Nat.le_refl _) (.cells ZU 30)
  have hn3 := heap_alloc_new w2.drew (.cells ZU 30)
  refine wpAnyH_ready (rs := [8]) (by decide +kernel) (by simp) ?_
  refine AllReadyH.cons rfl (fun K hK => ?_) AllReadyH.nil
  go_simp
  refine hK.out _ (w2.drew.alloc (.cells ZU 30)) (HS.out _ hb3) (fun hHeld => ?_)
  clear hK K
  try simp only [Act.put, List.setIfInBounds_toArray, List.set_cons_zero, List.set_cons_succ]
  refine wpAnyH_take (i := 9) (oi := ⟨some 3, _, _, _, _, _⟩) (v := ?_) rfl (by kernel_rfl) (by decide +kernel) (by decide +kernel) (fun _ _ _ h => h) (Or.inl ⟨by rfl, ?_⟩) (by assumption) ?_
  rotate_left 1
  · (intro w' hSw; go_simp; try with_reducible rfl)
  try simp only [Act.put, List.setIfInBounds_toArray, List.set_cons_zero, List.set_cons_succ]
  refine wpAnyH_ready (rs := [10]) (by decide +kernel) (by simp) ?_
  refine AllReadyH.cons rfl (fun K hK => ?_) AllReadyH.nil
  rw [if_pos (by kernel_rfl)]
  refine wp_store_row (o := ⟨none, .store _ (.tmp 4) _, _, _, _, _⟩) 30 (.tmp 4) (.tmp 20) rfl w2.heap.size UL.toArray rfl rfl 30 ZU hn3 SEA.out SLZ.out SO.out ?_
  have hb4 := below_setRow hb3 (Nat.le_refl _) UL.toArray
  have hn4 := setRow_heap _ w2.heap.size _ UL.toArray _ (0, 0) hn3
  refine hK.out _ (World.setRow (w2.drew.alloc (.cells ZU 30)) w2.heap.size UL.toArray) (HS.out _ hb4) (fun hHeld => ?_)
  clear hK K
  simp only [Act.put]
  refine wpAnyH_take (i := 11) (oi := ⟨some 5, _, _, _, _, _⟩) (v := ?_) rfl (by kernel_rfl) (by decide +kernel) (by decide +kernel) (fun _ _ _ h => h) (Or.inl ⟨by rfl, ?_⟩) (by assumption) ?_
  rotate_left 1
  · (intro w' hSw; go_simp; try with_reducible rfl)
  try simp only [Act.put, List.setIfInBounds_toArray, List.set_cons_zero, List.set_cons_succ]
  refine wpAnyH_take (i := 12) (oi := ⟨some 6, _, _, _, _, _⟩) (v := ?_) rfl (by kernel_rfl) (by decide +kernel) (by decide +kernel) (fun _ _ _ h => h) (Or.inl ⟨by rfl, ?_⟩) (by assumption) ?_
  rotate_left 1
  · (intro w' hSw; go_simp; try with_reducible rfl)
  try simp only [Act.put, List.setIfInBounds_toArray, List.set_cons_zero, List.set_cons_succ]
  refine wpAnyH_done (by decide +kernel) ?_ _
  refine NoPanic.normal ?_
  have HB4 := Lib.hid (HB2.out.trans (hb4.mono HB2.out.size))
  have H4 := Lib.hid (show (World.setRow (w2.drew.alloc (.cells ZU 30)) w2.heap.size UL.toArray).heap[w2.heap.size]? = some (.cells UL.toArray 30 (0, 0)) from hn4)
  clear hb3 hn3 hb4 hn4 HB2 HS hHeld
  generalize World.setRow (w2.drew.alloc (.cells ZU 30)) w2.heap.size UL.toArray = w4 at *
  obtain ⟨V, hV⟩ : ∃ V, w2.heap.size = V := ⟨_, rfl⟩
  rw [hV] at H4 ⊢
  clear hV
  by_cases hmu : mayU u = true
  · have HP := Lib.hid (uput_ok k (.slice ka nk kc) u w4 (HKT.out.below HB4.out HKT.out.pos) (HB0.out.kept HB4.out) HRM.out HKL.out hmu)
    rw [HUL.out] at HP
    go_wp2_with (first
      | (with_reducible refine wpList_load_row (o := ⟨some 27, _, _, _, _, _⟩) rfl 30 _ rfl V rfl 30 UL.toArray (0, 0) _ H4.out Tryd.underlying30 rfl SEA.out ?_))
    refine HP.out.mono ?_
    rintro e w5 ⟨aB, cB, rfl, hcB, hmB, hsB, hb5⟩
    have HB5 := Lib.hid (HB4.out.trans (hb5.mono HB4.out.size))
    have H5 := Lib.hid ((hb5.block V (Array.getElem?_eq_some_iff.1 H4.out).1).trans H4.out)
    have HSB := Lib.hid hsB
    have HLB := Lib.hid (And.intro hcB hmB)
    clear hb5 hsB hcB hmB HP HB4 H4
    have HMU := Lib.hid hmu
    have HPL := Lib.hid (putU_length k u)
    have HG5 := Lib.hid (uget_any k (putU k u) (.slice ka nk kc) aB 512 cB w5 (HKT.out.below HB5.out HKT.out.pos) (HB0.out.kept HB5.out) HRM.out HKS.out HSB.out (putU_length k u) HLB.out.1 (by decide) HLB.out.2)
    rw [getU_putU k u hmu, show (ubRow ((u, (0 : Int)) : UbV × Int).1).toArray = UL.toArray by rw [HUL.out]] at HG5
    clear hmu
    go_wp2_with fail
    refine HG5.out.mono ?_
    rintro e w6 ⟨rfl, hb6⟩
    have HB6 := Lib.hid (HB5.out.trans (hb6.mono HB5.out.size))
    have H6 := Lib.hid ((hb6.block V (Array.getElem?_eq_some_iff.1 H5.out).1).trans H5.out)
    have HS6 := Lib.hid (HSB.out.kept hb6)
    have HH := Lib.hid (heap_alloc_new w6 (.cells ZU 30))
    clear hb6 HG5 HB5 H5 HSB
    go_upto_region 8 with (first
      | (with_reducible refine wpList_store_row (o := ⟨none, .store _ (.tmp 9) _, _, _, _, _⟩) rfl 30 _ _ rfl w6.heap.size UL.toArray rfl rfl 30 ZU HH.out SEA.out SLZ.out SO.out ?_))
    have h7 := setRow_heap (w6.alloc (.cells ZU 30)) w6.heap.size _ UL.toArray _ _ HH.out
    have hb7 : Below w6.heap.size w6 ((w6.alloc (.cells ZU 30)).setRow w6.heap.size UL.toArray) := ybelow_row ((Below.refl w6.heap.size w6).alloc (Nat.le_refl _) _) (Nat.le_refl _) _
    generalize (w6.alloc (.cells ZU 30)).setRow w6.heap.size UL.toArray = w7 at *
    have HB7 := Lib.hid (HB6.out.trans (hb7.mono HB6.out.size))
    have HV7 := Lib.hid ((hb7.block V (Array.getElem?_eq_some_iff.1 H6.out).1).trans H6.out)
    have HS7 := Lib.hid (HS6.out.kept hb7)
    obtain ⟨T9, hT⟩ : ∃ T, w6.heap.size = T := ⟨_, rfl⟩
    rw [hT] at h7 ⊢
    have H7 := Lib.hid h7
    have heU := HEU.out
    clear h7 hb7 hT HH HB6 H6 HS6
    go_upto_region 10 with (first
      | (with_reducible refine wpList_load_guarded (o := ⟨some 47, _, _, _, _, _⟩) (by kernel_rfl) 30 _ rfl T9 rfl 30 UL.toArray (0, 0) _ H7.out Tryd.underlying30 rfl SEA.out ?_)
      | (with_reducible refine wpList_load_guarded (o := ⟨some 48, _, _, _, _, _⟩) (by kernel_rfl) 30 _ rfl V rfl 30 UL.toArray (0, 0) _ HV7.out Tryd.underlying30 rfl SEA.out ?_))
    clear H7 HV7 heU
    by_cases hz0 : z = 0
    · have hzb : (z == 0) = true := by simp [hz0]
      clear hz0
      go_wp2_with fail
      go_ret
      exact ⟨rfl, HB7.out⟩
    have hzb : (z == 0) = false := by simp [hz0]
    clear hz0
    obtain ⟨PU, hPU⟩ : ∃ x, putU k u = x := ⟨_, rfl⟩
    rw [hPU] at HPL HS7
    clear hPU HMU
    have hln := lit_u8 w7
    have hm8 : Below w7.heap.size w7 (w7.alloc (.cells #[] 5)) := (Below.refl _ w7).alloc (Nat.le_refl _) _
    have how : (w7.alloc (.cells #[] 5)).ownsRow w7.heap.size 5 1 (.slice (some ⟨w7.heap.size, 0, none⟩) 0 0) ([] : List Int).length (([] : List Int).map (Value.int .u8)) :=
      World.ownsRow_lit (base := w7.heap.size) (e := 5) (size := 1) w7 #[] 0 (Nat.le_refl _) (by decide) rfl
    obtain ⟨a9, cC, w9, hr9, hO9⟩ := append_ostep _ _ w7.heap.size _ (.slice aB 512 cB) [] PU how (Below.refl _ _) (HS7.out.kept hm8) (by rw [HPL.out]; decide) hm8.size
    rw [HPL.out, show ([] : List Int).length + 512 = 512 from rfl] at hr9 hO9
    rw [List.nil_append] at hO9
    have ho9 := hO9.own
    rw [HPL.out] at ho9
    obtain ⟨gC, hgC⟩ : ∃ g, a9 = some ⟨g, 0, none⟩ := by
      rcases ho9.2 with ⟨h, _⟩ | ⟨g, c, cur, h, _⟩
      · injection h with h1 h2 h3; omega
      · injection h with h1 h2 h3; exact ⟨g, h1⟩
    subst hgC
    have hnb : w7.heap.size ≤ gC := (ho9.lt gC rfl).1
    have hb9 : Below w7.heap.size w7 w9 := hm8.trans (hO9.touch.below hm8.size (fun g hg => by simp [Value.ownBlock] at hg; subst hg; exact Nat.le_refl _))
    have HB9 := Lib.hid (HB7.out.trans (hb9.mono HB7.out.size))
    have HO9 := Lib.hid (own_low10 ho9 HB7.out.size)
    have HPB := Lib.hid HS7.out.byt
    have HR9 := Lib.hid hr9
    have HGW := Lib.hid (show w.heap.size ≤ gC from Nat.le_trans HB7.out.size hnb)
    clear hm8 how hr9 hO9 ho9 hnb hb9 HS7
    go_upto_region 13 with (first
      | (at_builtin; refine wpList_append_run (o := ⟨some 60, _, _, _, _, _⟩) rfl _ _ _ _ rfl _ _ _ _ rfl rfl HR9.out ?_))
    clear hln HR9 HB7
    -- the place, and what is turned there
    obtain ⟨j, hj, hjl⟩ : ∃ j : Nat, t.tmod 512 = (j : Int) ∧ j < 512 := ⟨(t % 512).toNat, by rw [Int.tmod_eq_emod_of_nonneg HTZ.out.1.1, Int.toNat_of_nonneg (by omega)], by omega⟩
    have hwt : IntKind.i64.wrap t = t := IntWalk.i64_in _ (by have := HTZ.out.1; omega)
    have hce : w9.cell? ⟨gC, j, none⟩ = some (.int .u8 (PU.getD j 0)) := (HO9.out.cellAt j (by omega)).trans (by rw [List.getElem?_map, List.getElem?_eq_getElem (by rw [HPL.out]; exact hjl)]; simp [List.getD, HPL.out, hjl])
    have hfr := HO9.out.frozenAt j
    have HST := Lib.hid (HO9.out.stored j (.int .u8 (bits BinOp.xor IntKind.u8 (PU.getD j 0) z)))
    have HPJ := Lib.hid (byt_at PU HPB.out j)
    obtain ⟨qj, hqj⟩ : ∃ q, PU.getD j 0 = q := ⟨_, rfl⟩
    have hxb := xb_byt qj z (by rw [← hqj]; exact HPJ.out.1) (by rw [← hqj]; exact HPJ.out.2) HTZ.out.2.1 HTZ.out.2.2
    unfold xb at hxb
    rw [hqj] at hce HST
    have HXB := Lib.hid hxb
    obtain ⟨xv, hxv⟩ : ∃ x, bits BinOp.xor IntKind.u8 qj z = x := ⟨_, rfl⟩
    rw [hxv] at HST HXB
    have jI : (j : Int) < 512 := by omega
    have j0 : (0 : Int) ≤ (j : Int) := by omega
    clear hxb hqj HPJ
    go_upto_region 14 with fail
    obtain ⟨ho10, hb10'⟩ := HST.out
    have hb10 : Below w.heap.size w (w9.setCell ⟨gC, j, none⟩ (.int .u8 xv)) := HB9.out.setCell (p := ⟨gC, j, none⟩) HGW.out _
    clear hce hfr hj hwt hxv HST HB9 HO9
    generalize w9.setCell ⟨gC, j, none⟩ (.int .u8 xv) = w10 at *
    obtain ⟨CL, hCL⟩ : ∃ CL : List Int, PU.set j xv = CL := ⟨_, rfl⟩
    have hCm : (PU.map (Value.int .u8)).set j (.int .u8 xv) = CL.map (Value.int .u8) := by rw [← hCL, List.map_set]
    rw [hCm] at ho10
    have HCL := Lib.hid (show CL.length = 512 ∧ Byt CL from by
      rw [← hCL]
      refine ⟨by rw [List.length_set]; exact HPL.out, fun y hy => ?_⟩
      rcases List.mem_or_eq_of_mem_set hy with h | h
      · exact HPB.out y h
      · subst h; exact HXB.out)
    have HC10 := Lib.hid (BS.of_own ho10 HCL.out.1 HCL.out.2)
    have HRC := Lib.hid (room_of_own ho10 _ _ _ rfl)
    have HB10 := Lib.hid hb10
    clear ho10 hb10' hb10 hCm hCL HXB HPB HPL jI j0 hjl HGW
    obtain ⟨aC, haC⟩ : ∃ a, (some ⟨gC, 0, none⟩ : Option Addr) = a := ⟨_, rfl⟩
    rw [haC] at HC10 ⊢
    clear haC
    obtain ⟨ax, _, e2, _, b2⟩ := slice_cut w10 aC 512 cC 480 512 CL HC10.out HCL.out.1 (by decide) (by decide) HRC.out.1
    have e2 := e2 rfl
    obtain ⟨ay, _, _, e1, b1⟩ := slice_cut w10 aC 512 cC 0 480 CL HC10.out HCL.out.1 (by decide) (by decide) HRC.out.1
    have e1 := e1 rfl
    have hX : CL.drop 480 = (CL.drop 480).take 32 := (List.take_of_length_le (by rw [List.length_drop, HCL.out.1]; decide)).symm
    simp only [Nat.sub_zero, List.drop_zero] at e1 b1
    rw [show (512 - 480 : Nat) = 32 from rfl, ← hX] at b2
    rw [show (512 - 480 : Nat) = 32 from rfl] at e2
    rw [show ((480 : Nat) : Int) = 480 from rfl] at e1 e2
    have hXl : (CL.drop 480).length = 32 := by rw [List.length_drop, HCL.out.1]
    have hYl : (CL.take 480).length = 480 := by rw [List.length_take, HCL.out.1]; decide
    obtain ⟨bx, ox, hax, hx32, hcx⟩ := bs_cells b2 (by omega)
    clear hx32
    rw [hax] at e2 b2
    have HGC := Lib.hid (show macS k (CL.take 480) ≠ CL.drop 480 → getU k CL = (zeroUb, 5) from fun h => by unfold getU; rw [if_neg (by simp [HCL.out.1]), if_pos (Ne.symm h)])
    obtain ⟨X, hX'⟩ : ∃ X, CL.drop 480 = X := ⟨_, rfl⟩
    rw [hX'] at HGC hXl hcx b2
    have HX := Lib.hid (And.intro hXl b2.byt)
    have HFW := Lib.hid (fun (W : World) (hb : Below w10.heap.size w10 W) => fits_any k (CL.take 480) X (.slice ka nk kc) (.slice ay 480 cC) W (HKT.out.below (HB10.out.trans (hb.mono HB10.out.size)) HKT.out.pos) (HB0.out.kept (HB10.out.trans (hb.mono HB10.out.size))) HRM.out (b1.kept hb) (room_of _ _ _ (by have := HRC.out.1; omega) HRC.out.2) HKL.out (by omega) hXl b2.byt)
    have HGW := Lib.hid (fun (W : World) (hb : Below w10.heap.size w10 W) => uget_any k CL (.slice ka nk kc) aC 512 cC W (HKT.out.below (HB10.out.trans (hb.mono HB10.out.size)) HKT.out.pos) (HB0.out.kept (HB10.out.trans (hb.mono HB10.out.size))) HRM.out HKS.out (HC10.out.kept hb) HCL.out.1 HRC.out.1 (by decide) HRC.out.2)
    have HBX := Lib.hid (fun (W : World) (hb : Below w10.heap.size w10 W) => show ∀ j v, (X.map (Value.int .u8))[j]? = some v → W.cell? ((⟨bx, ox, none⟩ : Addr).add j) = some v from fun j v hj => by
      have q := hcx j v hj
      rw [Addr.add_mid]
      exact (hb.cell (block_lt_of_cell q)).trans q)
    have hsl := slice_hash7
    clear hX hX' b1 b2 hcx hYl hax
    obtain ⟨ZH, hZH⟩ : ∃ Z, u8s (List.replicate 32 0) = Z := ⟨_, rfl⟩
    have HZH := Lib.hid (show ZH.size = 32 by rw [← hZH]; rfl)
    have hzh : ∀ W : World, (zeroValue 26).run Tryd.prog W = .ok (.agg ZH) W := fun W => by rw [← hZH]; exact zero_hash7 W
    clear hZH
    have HH12 := Lib.hid (heap_alloc_new w10 (.cells ZH 26))
    have hb12 := (Below.refl w10.heap.size w10).alloc (Nat.le_refl _) (.cells ZH 26)
    go_upto_region 15 with fail
    clear hzh
    have HB12 := Lib.hid hb12
    try generalize hw12 : World.alloc w10 _ = w12 at *
    obtain ⟨TC, hTC⟩ : ∃ T, w10.heap.size = T := ⟨_, rfl⟩
    have HTC := Lib.hid hTC
    rw [hTC] at HH12 ⊢
    have HC15 := Lib.hid (show w12.drew.heap[TC]? = some (.cells ZH.toList.toArray 26 (0, 0)) by rw [Array.toArray_toList]; exact HH12.out)
    have HSRC := Lib.hid (HBX.out w12.drew HB12.out.drew)
    have HCP := Lib.hid (show (X.map (Value.int .u8)).length = Nat.min 32 32 ∧ 0 + (X.map (Value.int .u8)).length ≤ ZH.toList.length ∧ ∀ v ∈ X.map (Value.int .u8), v.oneCell' = true by
      refine ⟨by rw [List.length_map, hXl]; rfl, by rw [List.length_map, hXl, Array.length_toList, HZH.out]; decide, ?_⟩
      intro v hv
      obtain ⟨y, _, rfl⟩ := List.mem_map.1 hv
      rfl)
    clear hXl hb12 hTC HH12 HBX
    try simp only [Act.put]
    refine wp_region_noPanic ?_
    refine wp_region_held_drew (S := fun _ => True) (by kernel_rfl) trivial (fun hHeld => ?_)
    refine wpAnyH_take (i := 0) (oi := ⟨some 72, _, _, _, _, _⟩) (v := ?_) rfl (by kernel_rfl) (by decide +kernel) (by decide +kernel) (fun _ _ _ h => h) (Or.inl ⟨by rfl, ?_⟩) (by assumption) ?_
    rotate_left 1
    · (intro w' hSw; go_simp; try with_reducible rfl)
    try simp only [Act.put, List.setIfInBounds_toArray, List.set_cons_zero, List.set_cons_succ]
    refine wpAnyH_take (i := 1) (oi := ⟨some 73, _, _, _, _, _⟩) (v := ?_) rfl (by kernel_rfl) (by decide +kernel) (by decide +kernel) (fun _ _ _ h => h) (Or.inl ⟨by rfl, ?_⟩) (by assumption) ?_
    rotate_left 1
    · (intro w' hSw; go_simp; try with_reducible rfl)
    try simp only [Act.put, List.setIfInBounds_toArray, List.set_cons_zero, List.set_cons_succ]
    refine wpAnyH_take (i := 2) (oi := ⟨some 74, _, _, _, _, _⟩) (v := ?_) rfl (by kernel_rfl) (by decide +kernel) (by decide +kernel) (fun _ _ _ h => h) (Or.inl ⟨by rfl, ?_⟩) (by assumption) ?_
    rotate_left 1
    · (intro w' hSw; go_simp; try with_reducible rfl)
    try simp only [Act.put, List.setIfInBounds_toArray, List.set_cons_zero, List.set_cons_succ]
    refine wpAnyH_ready (rs := [3]) (by decide +kernel) (by simp) ?_
    refine AllReadyH.cons rfl (fun K hK => ?_) AllReadyH.nil
    refine ystep_copy (o := ⟨some 75, _, _, _, _, _⟩) rfl (.tmp 72) (.tmp 74) 22 22 (by rfl) 5 Tryd.underlying22 yone TC 0 32 32 ⟨bx, ox, none⟩ 32 (cC - 480) (by rfl) (by rfl) ZH.toList 26 HC15.out (X.map (Value.int .u8)) HCP.out.1 HSRC.out HCP.out.2.1 HCP.out.2.2 ?_
    refine hK.out _ _ trivial (fun hHeld => ?_)
    clear hK K hHeld
    refine wpAnyH_done (by decide +kernel) ?_ _
    refine NoPanic.normal ?_
    have hHE : (List.take 0 ZH.toList ++ (X.map (Value.int .u8) ++ List.drop (0 + (X.map (Value.int .u8)).length) ZH.toList)).toArray = u8s X := by
      rw [List.drop_eq_nil_of_le (by rw [List.length_map, HX.out.1, Array.length_toList, HZH.out]; decide)]
      simp [u8s]
    rw [hHE]
    clear hHE
    have hb13 : Below w10.heap.size w10 (w12.drew.setRow TC (u8s X)) := ybelow_row HB12.out.drew (by rw [HTC.out]; exact Nat.le_refl _) _
    have h13 := setRow_heap w12.drew TC _ (u8s X) _ _ HC15.out
    generalize w12.drew.setRow TC (u8s X) = w13 at *
    have HB13 := Lib.hid hb13
    have H13 := Lib.hid h13
    have HG13 := Lib.hid (HGW.out w13 hb13)
    have SEg := Lib.hid (size_ubA (getU k CL).1)
    have SLg := Lib.hid (show ZU.size = (ubRow (getU k CL).1).toArray.size by rw [← HZU.out]; simp [ubRow_length])
    have SOg := Lib.hid (ubRow_one (getU k CL).1)
    have SZg := Lib.hid (size_ub (getU k CL).1)
    obtain ⟨gc, hgc⟩ : ∃ g, (getU k CL).2 = g := ⟨_, rfl⟩
    obtain ⟨gl, hgl⟩ : ∃ g, ubRow (getU k CL).1 = g := ⟨_, rfl⟩
    have HGV := Lib.hid (show macS k (CL.take 480) ≠ X → gc = 5 ∧ gl.toArray = ZU from fun h => by
      have := HGC.out h
      rw [← hgc, ← hgl, this]
      exact ⟨rfl, HZU.out⟩)
    rw [hgc, hgl] at HG13
    rw [hgl] at SEg SLg SOg SZg
    clear hgc hgl hb13 h13 HC15 HSRC HCP HB12 e2 HGC
    go_wp2_with fail
    refine HG13.out.mono ?_
    rintro e w14 ⟨rfl, hb14⟩
    have HB14 := Lib.hid (HB13.out.trans (hb14.mono HB13.out.size))
    have H14 := Lib.hid ((hb14.block TC (Array.getElem?_eq_some_iff.1 H13.out).1).trans H13.out)
    have HH := Lib.hid (heap_alloc_new w14 (.cells ZU 30))
    clear hb14 HG13 HB13 H13
    go_upto_region 17 with (first
      | (with_reducible refine wpList_store_row (o := ⟨none, .store _ (.tmp 13) _, _, _, _, _⟩) rfl 30 _ _ rfl w14.heap.size gl.toArray rfl rfl 30 ZU HH.out SEg.out SLg.out SOg.out ?_))
    have h15 := setRow_heap (w14.alloc (.cells ZU 30)) w14.heap.size _ gl.toArray _ _ HH.out
    have hb15 : Below w14.heap.size w14 ((w14.alloc (.cells ZU 30)).setRow w14.heap.size gl.toArray) := ybelow_row ((Below.refl w14.heap.size w14).alloc (Nat.le_refl _) _) (Nat.le_refl _) _
    generalize (w14.alloc (.cells ZU 30)).setRow w14.heap.size gl.toArray = w15 at *
    have HB15 := Lib.hid (HB14.out.trans (hb15.mono HB14.out.size))
    have H15 := Lib.hid ((hb15.block TC (Array.getElem?_eq_some_iff.1 H14.out).1).trans H14.out)
    obtain ⟨TG, hTG⟩ : ∃ T, w14.heap.size = T := ⟨_, rfl⟩
    rw [hTG] at h15 ⊢
    have HRGC := Lib.hid (by_range (range_of_row (cs := (u8s X).toList) (show w15.heap[TC]? = some (.cells (u8s X).toList.toArray 26 (0, 0)) by rw [Array.toArray_toList]; exact H15.out)))
    have HRGG := Lib.hid (by_range (range_of_row h15))
    have HF := Lib.hid (show ∀ p : BelowBy w15, Calls Tryd.prog 21 _ p.now _ from fun p => HFW.out p.now (HB15.out.trans (p.bel.mono HB15.out.size)))
    have SHX := Lib.hid (show (Tryd.prog.info? 26).map (·.size) = some (u8s X).toList.length by rw [Array.length_toList]; exact size_h32 X HX.out.1)
    have hbn := build_nou
    rw [HZU.out] at hbn
    have heZ := eq_ub zeroUb zeroUb
    rw [show decide (zeroUb = zeroUb) = true by simp] at heZ
    have heY : ∀ W : World, (Op.equalIn 10000 30 (.agg ZU) (.agg #[.int .u64 0, .int .u32 0, .int .u32 0, .int .u64 0, .int .u8 0, .int .u8 0, .int .u8 0, .int .u8 0, .int .u8 0, .int .u8 0, .int .u8 0, .int .u8 0, .int .u8 0, .int .u8 0, .int .u8 0, .int .u8 0, .int .u8 0, .int .u8 0, .int .u8 0, .int .u8 0, .int .u8 0, .int .u8 0, .int .u8 0, .int .u8 0, .int .u8 0, .int .u8 0, .int .u8 0, .int .u8 0, .int .u8 0, .int .u8 0, .int .u8 0, .int .u8 0, .int .u8 0, .int .u8 0, .int .u8 0, .int .u8 0])).run Tryd.prog W = .ok true W := fun W => by rw [← HZU.out]; exact heZ W
    rw [HZU.out] at heZ
    clear h15 hb15 hTG HB14 H14 HH HFW HGW H15 hz
    by_cases hfit : macS k (CL.take 480) = X
    · rw [decide_eq_true hfit] at HF
      clear hfit HGV
      try simp only [Act.put]
      refine wp_region_below (by kernel_rfl) (by kernel_rfl) ?_
      repeat (first
        | (with_reducible refine quiet_load_row (o := ⟨some 85, _, _, _, _, _⟩) (by kernel_rfl) 26 _ rfl TC 0 rfl (u8s X).toList _ HRGC.out Tryd.underlying26 rfl SHX.out ?_
           simp only [Act.put, List.setIfInBounds_toArray, List.set_cons_zero, List.set_cons_succ, Array.toArray_toList])
        | (go_big_quiet_step (first
            | (go_at_call 21; exact calls_below (HF.out _)))))
      refine wpQuiet_nil ?_
      intro _ hw'
      obtain ⟨p, hw''⟩ := hw'
      subst hw''
      go_wp2_with fail
      go_ret
      rw [← hB]
      exact ⟨rfl, HB10.out.trans ((HB15.out.trans (p.bel.mono HB15.out.size)).mono HB10.out.size)⟩
    · obtain ⟨hg5, hgz⟩ := HGV.out hfit
      rw [decide_eq_false hfit] at HF
      clear hfit HGV
      subst hg5
      try simp only [Act.put]
      refine wp_region_below (by kernel_rfl) (by kernel_rfl) ?_
      repeat (first
        | (with_reducible refine quiet_load_row (o := ⟨some 85, _, _, _, _, _⟩) (by kernel_rfl) 26 _ rfl TC 0 rfl (u8s X).toList _ HRGC.out Tryd.underlying26 rfl SHX.out ?_
           simp only [Act.put, List.setIfInBounds_toArray, List.set_cons_zero, List.set_cons_succ, Array.toArray_toList])
        | (with_reducible refine quiet_load_row (o := ⟨some 91, _, _, _, _, _⟩) (by kernel_rfl) 30 _ rfl TG 0 rfl gl _ HRGG.out Tryd.underlying30 rfl SZg.out ?_
           simp only [Act.put, List.setIfInBounds_toArray, List.set_cons_zero, List.set_cons_succ, hgz])
        | (go_big_quiet_step (first
            | (go_at_call 21; exact calls_below (HF.out _)))))
      refine wpQuiet_nil ?_
      intro _ hw'
      obtain ⟨p, hw''⟩ := hw'
      subst hw''
      go_wp2_with fail
      go_ret
      rw [← hB]
      exact ⟨rfl, HB10.out.trans ((HB15.out.trans (p.bel.mono HB15.out.size)).mono HB10.out.size)⟩
  · have HP := Lib.hid (uput_bad (.slice ka nk kc) u w4 (by simpa using hmu))
    rw [HUL.out] at HP
    clear hmu
    go_wp2_with (first
      | (with_reducible refine wpList_load_row (o := ⟨some 27, _, _, _, _, _⟩) rfl 30 _ rfl V rfl 30 UL.toArray (0, 0) _ H4.out Tryd.underlying30 rfl SEA.out ?_))
    refine HP.out.mono ?_
    rintro e w5 ⟨rfl, hb5⟩
    have HB5 := Lib.hid (HB4.out.trans (hb5.mono HB4.out.size))
    clear hb5 HP HB4 H4
    go_wp2_with fail
    go_ret
    exact ⟨rfl, HB5.out⟩
set_option maxRecDepth 100000 in
theorem lifted (os : Os) (started : os.Started) (H : Type) (enc : TypeId × Value → H) :
    ReturnsInHanded {} Tryd.checked os 6 .any (fun w args => (Rows.uberBackSpec.pre enc Tryd.prog Tryd.f6 [] false w args ∧ laidMetH Tryd.prog [("banyan/sha.roundNumbers", Rows.laid_banyan_sha_roundNumbers)] w) ∧ sizedMet enc Tryd.prog Tryd.f6 (OpenSpec.ofChange Rows.uberBackSpec) false w args)
      (Rows.uberBackSpec.post enc Tryd.prog Tryd.f6 false true false false) := by
  refine returnsInHanded_of_change_and (C := Tryd.checked) (X := fun w _ => laidMetH Tryd.prog [("banyan/sha.roundNumbers", Rows.laid_banyan_sha_roundNumbers)] w) (fun _ _ _ hh h => h.of_heap hh) own2 started (by kernel_rfl) Tryd.func6
    (ChangeSpec.witness_shaped (enc := enc) (C := Tryd.checked) (os := os) (X := fun w _ => laidMetH Tryd.prog [("banyan/sha.roundNumbers", Rows.laid_banyan_sha_roundNumbers)] w) false (World.doorLaid Tryd.prog 400 os) #[.agg ([Value.slice none 0 0] ++ (([Value.int .u64 0, .int .u32 0, .int .u32 0, .int .u64 0] ++ List.replicate 32 (Value.int .u8 0)) ++ ([Value.int .u16 0] ++ ([Value.int .u8 0])))).toArray] 8 rfl (World.shaped_of_RefB (by kernel_rfl) (by kernel_rfl)) (by kernel_rfl) (by kernel_rfl) (by kernel_rfl) (door_met os _)) ?_
  intro W base args ds gs before hval0 hW _ hsz0 hL _
  have hval : ∀ (j : Nat) t v, Tryd.f6.params[j]? = some t → args[j]? = some v → Value.okWide Tryd.prog W .any base t v := hval0
  have hsz : (DataW.weightsEach Tryd.prog (Tryd.f6.params.toList ++ Rows.uberBackSpec.plain.varTypes Tryd.prog) (ds ++ gs)).all (· ≤ reachBytes) = true := hsz0
  clear hsz0
  have hW' := hW
  obtain ⟨p, q, hA0, hV, rfl, hfz, hnd⟩ := hW
  have hA : DataW.TrodAll enc Tryd.prog W 0 (fun _ => true) true Tryd.f6.params.toList args.toList ds p := hA0
  rw [Tryd.params6] at hA hval hsz
  obtain ⟨v0, vs0, d0, ds0, p0, q0, hargs, rfl, rfl, h0, r0⟩ := trodAll_cons hA
  obtain ⟨rfl, rfl, rfl⟩ := trodAll_nil r0
  obtain rfl : args = #[v0] := by cases args; simp_all
  obtain ⟨rfl, rfl⟩ := trodVars_none hV
  have k0 := h0
  have lt0 : ∀ x ∈ p0, x.block < W.heap.size := by obtain ⟨m, hm⟩ := k0; exact DataW.trod_lt m _ _ _ hm
  obtain ⟨ka, kc, k, u, t, z, rfl, qf⟩ := par_turned10 (j := 0) (hval 0 49 v0 rfl rfl) h0 hsz rfl rfl
  have hK := of_laid hL
  clear hA0 hval0
  refine (walk W ka kc k u t z qf hK).mono fun e W' ⟨he, bel⟩ => ?_
  subst he
  exact ⟨_, rfl, _, _, _, [], _, [], hW', trodAll_mk1 (shut_bool Tryd.underlying4 _), (trodAll_cons_mk (Below.trod laidOut2 (by kernel_rfl) (of_decide_eq_true (by kernel_rfl)) k0 bel lt0) trodAll_mk0), rfl, bel.frame _, fun h => by cases h⟩

theorem over : Rows.UberBackSaid :=
  OpenClaim.holds_of_wide 6 Tryd.f6 rfl rfl rfl rfl rfl rfl rfl ⟨rfl, rfl, rfl, rfl, rfl⟩ rfl rfl rfl rfl rfl (by kernel_rfl) Tryd.func6 (by kernel_rfl)
    (of_decide_eq_true (by kernel_rfl)) (by unfold Func.isWrapper; first | (rw [if_pos (by decide +kernel)]; kernel_rfl) | (rw [if_neg (by decide +kernel)]; exact ⟨rfl, rfl⟩))
    (fun os started H enc _ => lifted os started H enc)

/-- The statement. -/
theorem proved : Rows.UberBackCardSaid :=
  Claim7.holds_tied_plain_at .later [] [.data] true (true, "c9a66c9fc03c74372b55c74d61d048c4ab6c3d06d9801e353e7a9c1603144487") false
    over (fun _ h => by cases h) (by kernel_rfl) (fun _ h => by cases h) uberBack_row_tie rfl ⟨rfl, rfl⟩ (by kernel_rfl) rfl
    (fun f fn hf hfn => by
      obtain rfl : f = 6 := Option.some.inj ((show Tryd.prog.funcNamed "banyan/banyanlaw10.UberBack" = some 6 by kernel_rfl).symm.trans hf) |>.symm
      obtain rfl : fn = Tryd.f6 := (Option.some.inj (Tryd.func6.symm.trans hfn)).symm
      exact ⟨by kernel_rfl, fun j t ht => by
        rw [Tryd.params6] at ht
        have hm : t ∈ [49] := by simpa using Array.mem_of_getElem? ht
        have hall : ([49].all fun u => !Tryd.prog.wantsStandIn u) = true := by kernel_rfl
        exact (show Tryd.prog.wantsStandIn t = false by simpa using List.all_eq_true.1 hall t hm)⟩)
    (by kernel_rfl)
#print axioms proved
end Go.Proofs.YtocdjaenhllemaaDoor.uberBack
