/-
  'UberNewer' returns true at every input, and each argument reads behind the call as it read before. Conditions: the package-level variable that the row lists starts as the program's text lays it (the card ties that).
-/
import Derived.Test.YtocdjaenhllemaaDoorLaid
import Derived.Test.YtocdjaenhllemaaDoorCards
import Derived.Test.YtocdjaenhllemaaDoorTie
import Derived.Test.YtocdjaenhllemaaDoorUn
import Derived.Test.YtocdjaenhllemaaDoorUon
namespace Go.Proofs.YtocdjaenhllemaaDoor.uberNewer
open Go.ChangeShapes Go.WideShapes Go.ChangeAt Go.RowKit
set_option linter.unusedVariables false


set_option maxRecDepth 100000 in
set_option maxHeartbeats 1600000 in
theorem walk (w : World) (ka : Option Addr) (kc : Nat) (k : List Int) (s : Int) (t : Int) (ra : Option Addr) (rc : Nat) (r : List Int) (qf : (k.length ≤ kc ∧ kc ≤ 140737488351232 ∧ BS w (.slice ka k.length kc) k) ∧ (0 ≤ s ∧ s ≤ 18446744073709551615) ∧ (0 ≤ t ∧ t ≤ 18446744073709551615) ∧ (r.length ≤ rc ∧ rc ≤ 140737488351232 ∧ BS w (.slice ra r.length rc) r)) (hK : KT w) :
    Calls Tryd.prog 7 #[.agg (newer10Cells ka kc k s t ra rc r).toArray] w fun e w' => e = .returned (.bool true) ∧ Below w.heap.size w w' := by
  obtain ⟨⟨mk, nk0, bk⟩, hs01, ht01, mr, nr0, br⟩ := qf
  have HAL := Lib.hid (fun (W : World) (hb : Below w.heap.size w W) => alive10_any W (hK.below hb hK.pos))
  have HBB := Lib.hid ((Below.refl w.heap.size w).alloc (Nat.le_refl _) (.cells (newer10Cells ka kc k s t ra rc r).toArray 53))
  have HBX := Lib.hid (heap_alloc_new w (.cells (newer10Cells ka kc k s t ra rc r).toArray 53))
  obtain ⟨nk, hk⟩ : ∃ n, k.length = n := ⟨_, rfl⟩
  obtain ⟨nr, hr⟩ : ∃ n, r.length = n := ⟨_, rfl⟩
  rw [hk] at mk bk
  rw [hr] at mr br
  have i0 : (0 : Int) ≤ (nk : Int) := by omega
  have i1 : (nk : Int) ≤ 140737488351232 := by omega
  have j0 : (0 : Int) ≤ (nr : Int) := by omega
  have j1 : (nr : Int) ≤ 140737488351232 := by omega
  have han := andnot_one s hs01.1 hs01.2
  have hor := or_one t ht01.1 ht01.2
  obtain ⟨A, hA⟩ : ∃ A, s - s % 2 = A := ⟨_, rfl⟩
  obtain ⟨B, hB⟩ : ∃ B, t + 1 - t % 2 = B := ⟨_, rfl⟩
  have HAB := Lib.hid (show (0 ≤ A ∧ A ≤ 18446744073709551615 ∧ A % 2 = 0) ∧ (1 ≤ B ∧ B ≤ 18446744073709551615 ∧ B % 2 = 1) by omega)
  rw [hA] at han
  rw [hB] at hor
  have HKT := Lib.hid hK
  have HB0 := Lib.hid bk
  have HR0 := Lib.hid br
  have HHR := Lib.hid hr
  have HHK := Lib.hid hk
  have HMM := Lib.hid (And.intro (And.intro mk nk0) (And.intro mr nr0))
  clear mk nk0 mr nr0 hK bk br hs01 ht01 hA hB
  generalize hwb : w.alloc (.cells (newer10Cells ka kc k s t ra rc r).toArray 53) = wb at *
  by_cases hbig : 200 < nk
  · have hbI : (200 : Int) < (nk : Int) := by omega
    clear hbig HKT HB0 HR0
    go_enter Tryd.func7, Tryd.ntmps7
    go_upto_region 1 with fail
    try rw [hwb]
    clear hwb
    go_wp2_with fail
    refine (HAL.out wb HBB.out).mono ?_
    rintro e w2 ⟨rfl, hb2⟩
    have HB2 := Lib.hid (HBB.out.trans (hb2.mono HBB.out.size))
    have hA2 := (hb2.block w.heap.size (Array.getElem?_eq_some_iff.1 HBX.out).1).trans HBX.out
    have c0 : ∀ p : BelowBy w2, p.now.cell? ⟨w.heap.size, 0, none⟩ = some (.slice ka nk kc) := fun p => by rw [← hk]; exact by_cell (cell_of_row _ w.heap.size 0 _ _ _ hA2) p
    have c1 : ∀ p : BelowBy w2, p.now.cell? ⟨w.heap.size, 1, none⟩ = some (.int .u64 s) := fun p => by_cell (cell_of_row _ w.heap.size 1 _ _ _ hA2) p
    have c2 : ∀ p : BelowBy w2, p.now.cell? ⟨w.heap.size, 2, none⟩ = some (.int .u64 t) := fun p => by_cell (cell_of_row _ w.heap.size 2 _ _ _ hA2) p
    have c3 : ∀ p : BelowBy w2, p.now.cell? ⟨w.heap.size, 3, none⟩ = some (.slice ra nr rc) := fun p => by rw [← hr]; exact by_cell (cell_of_row _ w.heap.size 3 _ _ _ hA2) p
    clear hb2 hA2 HAL HBX HBB hk hr
    go_upto_region 3 with fail
    try simp only [Act.put]
    refine wp_region_below (by kernel_rfl) (by kernel_rfl) ?_
    repeat (go_big_quiet_step (fail))
    refine wpQuiet_nil ?_
    intro _ hw'
    obtain ⟨p, hw''⟩ := hw'
    subst hw''
    have HB3 := Lib.hid (HB2.out.trans (p.bel.mono HB2.out.size))
    clear c0 c1 c2 c3 HB2
    generalize p.now = w3 at *
    go_wp2_with fail
    go_ret
    exact ⟨rfl, HB3.out⟩
  by_cases hbig1 : 600 < nr
  · have hsI : (nk : Int) ≤ 200 := by omega
    have hbI : (600 : Int) < (nr : Int) := by omega
    clear hbig hbig1 HKT HB0 HR0
    go_enter Tryd.func7, Tryd.ntmps7
    go_upto_region 1 with fail
    try rw [hwb]
    clear hwb
    go_wp2_with fail
    refine (HAL.out wb HBB.out).mono ?_
    rintro e w2 ⟨rfl, hb2⟩
    have HB2 := Lib.hid (HBB.out.trans (hb2.mono HBB.out.size))
    have hA2 := (hb2.block w.heap.size (Array.getElem?_eq_some_iff.1 HBX.out).1).trans HBX.out
    have c0 : ∀ p : BelowBy w2, p.now.cell? ⟨w.heap.size, 0, none⟩ = some (.slice ka nk kc) := fun p => by rw [← hk]; exact by_cell (cell_of_row _ w.heap.size 0 _ _ _ hA2) p
    have c1 : ∀ p : BelowBy w2, p.now.cell? ⟨w.heap.size, 1, none⟩ = some (.int .u64 s) := fun p => by_cell (cell_of_row _ w.heap.size 1 _ _ _ hA2) p
    have c2 : ∀ p : BelowBy w2, p.now.cell? ⟨w.heap.size, 2, none⟩ = some (.int .u64 t) := fun p => by_cell (cell_of_row _ w.heap.size 2 _ _ _ hA2) p
    have c3 : ∀ p : BelowBy w2, p.now.cell? ⟨w.heap.size, 3, none⟩ = some (.slice ra nr rc) := fun p => by rw [← hr]; exact by_cell (cell_of_row _ w.heap.size 3 _ _ _ hA2) p
    clear hb2 hA2 HAL HBX HBB hk hr
    go_upto_region 3 with fail
    try simp only [Act.put]
    refine wp_region_below (by kernel_rfl) (by kernel_rfl) ?_
    repeat (go_big_quiet_step (fail))
    refine wpQuiet_nil ?_
    intro _ hw'
    obtain ⟨p, hw''⟩ := hw'
    subst hw''
    have HB3 := Lib.hid (HB2.out.trans (p.bel.mono HB2.out.size))
    clear c0 c1 c2 c3 HB2
    generalize p.now = w3 at *
    go_wp2_with fail
    go_ret
    exact ⟨rfl, HB3.out⟩
  by_cases hA1 : A = 0
  · have hsI : (nk : Int) ≤ 200 := by omega
    have hsJ : (nr : Int) ≤ 600 := by omega
    have hbI : (A == 0) = true := by simp [hA1]
    clear hbig hbig1 hA1 HKT HB0 HR0
    go_enter Tryd.func7, Tryd.ntmps7
    go_upto_region 1 with fail
    try rw [hwb]
    clear hwb
    go_wp2_with fail
    refine (HAL.out wb HBB.out).mono ?_
    rintro e w2 ⟨rfl, hb2⟩
    have HB2 := Lib.hid (HBB.out.trans (hb2.mono HBB.out.size))
    have hA2 := (hb2.block w.heap.size (Array.getElem?_eq_some_iff.1 HBX.out).1).trans HBX.out
    have c0 : ∀ p : BelowBy w2, p.now.cell? ⟨w.heap.size, 0, none⟩ = some (.slice ka nk kc) := fun p => by rw [← hk]; exact by_cell (cell_of_row _ w.heap.size 0 _ _ _ hA2) p
    have c1 : ∀ p : BelowBy w2, p.now.cell? ⟨w.heap.size, 1, none⟩ = some (.int .u64 s) := fun p => by_cell (cell_of_row _ w.heap.size 1 _ _ _ hA2) p
    have c2 : ∀ p : BelowBy w2, p.now.cell? ⟨w.heap.size, 2, none⟩ = some (.int .u64 t) := fun p => by_cell (cell_of_row _ w.heap.size 2 _ _ _ hA2) p
    have c3 : ∀ p : BelowBy w2, p.now.cell? ⟨w.heap.size, 3, none⟩ = some (.slice ra nr rc) := fun p => by rw [← hr]; exact by_cell (cell_of_row _ w.heap.size 3 _ _ _ hA2) p
    clear hb2 hA2 HAL HBX HBB hk hr
    go_upto_region 3 with fail
    try simp only [Act.put]
    refine wp_region_below (by kernel_rfl) (by kernel_rfl) ?_
    repeat (go_big_quiet_step (fail))
    refine wpQuiet_nil ?_
    intro _ hw'
    obtain ⟨p, hw''⟩ := hw'
    subst hw''
    have HB3 := Lib.hid (HB2.out.trans (p.bel.mono HB2.out.size))
    clear c0 c1 c2 c3 HB2
    generalize p.now = w3 at *
    go_wp2_with fail
    go_ret
    exact ⟨rfl, HB3.out⟩
  have hsI : (nk : Int) ≤ 200 := by omega
  have hsJ : (nr : Int) ≤ 600 := by omega
  have hAz : (A == 0) = false := by simp [hA1]
  have HRM := Lib.hid (room_of ka nk kc HMM.out.1.1 (by have := HMM.out.1.2; omega))
  have HLX := Lib.hid (show k.length ≤ 900000 by rw [HHK.out]; omega)
  clear hbig hbig1 i1 j1
  have hz := zero_ub
  have hA0 : 0 ≤ A ∧ A ≤ 18446744073709551615 := by have := HAB.out.1; omega
  have hB0 : 0 ≤ B ∧ B ≤ 18446744073709551615 := by have := HAB.out.2; omega
  have HO4 := Lib.hid (fun W => uofI_any A hA0 W)
  have HO5 := Lib.hid (fun W => uofI_any B hB0 W)
  have HMA := Lib.hid (mayU_ofI A hA0 hA1)
  have HMB := Lib.hid (mayU_ofI B hB0 (by have := HAB.out.2; omega))
  have HTA := Lib.hid (show (ofUI A hA0).tx = A from rfl)
  have HTB := Lib.hid (show (ofUI B hB0).tx = B from rfl)
  obtain ⟨UA, hUA⟩ : ∃ u, ofUI A hA0 = u := ⟨_, rfl⟩
  obtain ⟨UB, hUB⟩ : ∃ u, ofUI B hB0 = u := ⟨_, rfl⟩
  rw [hUA] at HO4 HMA HTA
  rw [hUB] at HO5 HMB HTB
  have HVAB := Lib.hid (choose_both k UA UB HMA.out HMB.out (by rw [HTA.out]; have := HAB.out.1; omega) (by rw [HTB.out]; have := HAB.out.2; omega))
  have HVBA := Lib.hid (choose_none k (putU k UB) (putU k UA) (by rw [getU_putU k UB HMB.out]; exact pick_other (by show UB.tx % 2 ≠ 0; rw [HTB.out]; have := HAB.out.2; omega)) (by rw [getU_putU k UA HMA.out]; exact pick_other (by show UA.tx % 2 ≠ 1; rw [HTA.out]; have := HAB.out.1; omega)))
  have SEA := Lib.hid (size_ubA UA)
  have SEB := Lib.hid (size_ubA UB)
  have SEZ := Lib.hid (size_ubA zeroUb)
  clear hA1
  go_enter Tryd.func7, Tryd.ntmps7
  go_upto_region 1 with fail
  try rw [hwb]
  clear hwb
  go_wp2_with fail
  refine (HAL.out wb HBB.out).mono ?_
  rintro e w2 ⟨rfl, hb2⟩
  have HB2 := Lib.hid (HBB.out.trans (hb2.mono HBB.out.size))
  have hA2 := (hb2.block w.heap.size (Array.getElem?_eq_some_iff.1 HBX.out).1).trans HBX.out
  have c0 : ∀ p : BelowBy w2, p.now.cell? ⟨w.heap.size, 0, none⟩ = some (.slice ka nk kc) := fun p => by rw [← hk]; exact by_cell (cell_of_row _ w.heap.size 0 _ _ _ hA2) p
  have c1 : ∀ p : BelowBy w2, p.now.cell? ⟨w.heap.size, 1, none⟩ = some (.int .u64 s) := fun p => by_cell (cell_of_row _ w.heap.size 1 _ _ _ hA2) p
  have c2 : ∀ p : BelowBy w2, p.now.cell? ⟨w.heap.size, 2, none⟩ = some (.int .u64 t) := fun p => by_cell (cell_of_row _ w.heap.size 2 _ _ _ hA2) p
  have c3 : ∀ p : BelowBy w2, p.now.cell? ⟨w.heap.size, 3, none⟩ = some (.slice ra nr rc) := fun p => by rw [← hr]; exact by_cell (cell_of_row _ w.heap.size 3 _ _ _ hA2) p
  clear hb2 hA2 HAL HBX HBB hk hr
  go_upto_region 3 with fail
  try simp only [Act.put]
  refine wp_region_below (by kernel_rfl) (by kernel_rfl) ?_
  repeat (go_big_quiet_step (fail))
  refine wpQuiet_nil ?_
  intro _ hw'
  obtain ⟨p, hw''⟩ := hw'
  subst hw''
  have HB3 := Lib.hid (HB2.out.trans (p.bel.mono HB2.out.size))
  clear c0 c1 c2 c3 HB2
  generalize p.now = w3 at *
  clear hA0 hB0 hUA hUB
  go_upto_region 5 with fail
  go_wp2_with fail
  refine (HO4.out w3).mono ?_
  rintro e w4 ⟨rfl, hb4⟩
  have HB4 := Lib.hid (HB3.out.trans (hb4.mono HB3.out.size))
  have HP4 := Lib.hid (uput_ok k (.slice ka nk kc) UA w4 (HKT.out.below HB4.out HKT.out.pos) (HB0.out.kept HB4.out) HRM.out HLX.out HMA.out)
  clear hb4 HB3
  go_wp2_with fail
  refine HP4.out.mono ?_
  rintro e w5 ⟨aA, cA, rfl, hcA, hmA, hsA, hb5⟩
  have HB5 := Lib.hid (HB4.out.trans (hb5.mono HB4.out.size))
  have HS5 := Lib.hid hsA
  have HLA := Lib.hid (And.intro hcA hmA)
  clear hb5 hsA hcA hmA HP4 HB4
  go_wp2_with fail
  refine (HO5.out w5).mono ?_
  rintro e w6 ⟨rfl, hb6⟩
  have HB6 := Lib.hid (HB5.out.trans (hb6.mono HB5.out.size))
  have HS6 := Lib.hid (HS5.out.kept hb6)
  have HP6 := Lib.hid (uput_ok k (.slice ka nk kc) UB w6 (HKT.out.below HB6.out HKT.out.pos) (HB0.out.kept HB6.out) HRM.out HLX.out HMB.out)
  clear hb6 HB5 HS5
  go_wp2_with fail
  refine HP6.out.mono ?_
  rintro e w7 ⟨aB, cB, rfl, hcB, hmB, hsB, hb7⟩
  have HB7 := Lib.hid (HB6.out.trans (hb7.mono HB6.out.size))
  have HSA := Lib.hid (HS6.out.kept hb7)
  have HSB := Lib.hid hsB
  have HLB := Lib.hid (And.intro hcB hmB)
  have HC7 := Lib.hid (Below.refl w7.heap.size w7)
  have HGR := Lib.hid (uget_any k r (.slice ka nk kc) ra nr rc w7 (HKT.out.below HB7.out HKT.out.pos) (HB0.out.kept HB7.out) HRM.out HLX.out (HR0.out.kept HB7.out) HHR.out HMM.out.2.1 (by have := HMM.out.2.2; have := HMM.out.2.1; omega) (by have := HMM.out.2.2; omega))
  clear hb7 hsB hcB hmB HP6 HB6 HS6
  have SEg := Lib.hid (size_ubA (getU k r).1)
  have HVX := Lib.hid (show (getU k r).2 ≠ 0 → chooseU k (putU k UA) r = (UA, 0) ∧ chooseU k r (putU k UB) = (UB, 0) ∧ chooseU k r r = (zeroUb, 8) from fun h =>
    ⟨choose_first k UA r HMA.out (by rw [HTA.out]; have := HAB.out.1; omega) h, choose_second k UB r HMB.out (by rw [HTB.out]; have := HAB.out.2; omega) h, choose_none k r r (pick_bad h) (pick_bad h)⟩)
  obtain ⟨ZL, hZL⟩ : ∃ Z, ubRow zeroUb = Z := ⟨_, rfl⟩
  obtain ⟨ZU, hZU⟩ : ∃ Z, (ubRow zeroUb).toArray = Z := ⟨_, rfl⟩
  have HZZ := Lib.hid (show ZL.toArray = ZU by rw [← hZL, ← hZU])
  have HAL' := Lib.hid (show ∀ u : UbV, ZU.size = (ubRow u).toArray.size from fun u => by rw [← hZU]; simp [ubRow_length])
  have SLg := Lib.hid (HAL'.out (getU k r).1)
  have SOg := Lib.hid (ubRow_one (getU k r).1)
  obtain ⟨g, hg⟩ : ∃ g, ubRow (getU k r).1 = g := ⟨_, rfl⟩
  obtain ⟨gc, hgc⟩ : ∃ g, (getU k r).2 = g := ⟨_, rfl⟩
  rw [hg] at HGR SEg SLg SOg
  rw [hgc] at HGR HVX
  rw [hZU] at hz
  clear hg hgc
  have HGX := Lib.hid HGR.out
  clear HGR
  go_wp2_with fail
  refine HGX.out.mono ?_
  rintro e w8 ⟨rfl, hb8⟩
  have HC8 := Lib.hid (HC7.out.trans (hb8.mono HC7.out.size))
  have HH := Lib.hid (heap_alloc_new w8 (.cells ZU 30))
  clear hb8 HGX HC7 
  go_upto_region 12 with (first
    | (with_reducible refine wpList_store_row (o := ⟨none, .store _ (.tmp 11) _, _, _, _, _⟩) rfl 30 _ _ rfl w8.heap.size g.toArray rfl rfl 30 ZU HH.out SEg.out SLg.out SOg.out ?_))
  have h9 := setRow_heap (w8.alloc (.cells ZU 30)) w8.heap.size _ g.toArray _ _ HH.out
  have hb9 : Below w8.heap.size w8 ((w8.alloc (.cells ZU 30)).setRow w8.heap.size g.toArray) := ybelow_row ((Below.refl w8.heap.size w8).alloc (Nat.le_refl _) _) (Nat.le_refl _) _
  generalize (w8.alloc (.cells ZU 30)).setRow w8.heap.size g.toArray = w9 at *
  have HC9 := Lib.hid (HC8.out.trans (hb9.mono HC8.out.size))
  obtain ⟨T11, hT⟩ : ∃ T, w8.heap.size = T := ⟨_, rfl⟩
  rw [hT] at h9 ⊢
  have HT119 := Lib.hid h9
  clear h9 hb9 hT HH HC8 
  by_cases hgz : gc = 0
  · have hgb : (gc == 0) = true := by simp [hgz]
    clear hgz HVX
    go_wp2_with fail
    go_ret
    exact ⟨rfl, HB7.out.trans (HC9.out.mono HB7.out.size)⟩
  have hgb : (gc == 0) = false := by simp [hgz]
  obtain ⟨hv1, hv2, hv3⟩ := HVX.out hgz
  have HVAR := Lib.hid hv1
  have HVRB := Lib.hid hv2
  have HVRR := Lib.hid hv3
  clear HVX hgz hv1 hv2 hv3 HT119
  obtain ⟨UM, hUM⟩ : ∃ u, (if UA.tx < UB.tx then UB else UA) = u := ⟨_, rfl⟩
  rw [hUM] at HVAB
  have HUM := Lib.hid hUM
  clear hUM
  have SEM := Lib.hid (size_ubA UM)
  have SLM := Lib.hid (HAL'.out UM)
  have SOM := Lib.hid (ubRow_one UM)
  have SLA := Lib.hid (HAL'.out UA)
  have SOA := Lib.hid (ubRow_one UA)
  have SLB := Lib.hid (HAL'.out UB)
  have SOB := Lib.hid (ubRow_one UB)
  have SLZ := Lib.hid (show ZU.size = ZL.toArray.size by rw [HZZ.out])
  have SOZ := Lib.hid (show ZL.toArray.all (·.oneCell') = true by rw [← hZL]; exact ubRow_one zeroUb)
  rw [hZL] at SEZ
  have heM := eq_ub UM UM
  rw [show decide (UM = UM) = true by simp] at heM
  have heA := eq_ub UA UA
  rw [show decide (UA = UA) = true by simp] at heA
  have heB := eq_ub UB UB
  rw [show decide (UB = UB) = true by simp] at heB
  have SZM := Lib.hid (size_ub UM)
  have SZA := Lib.hid (size_ub UA)
  have SZB := Lib.hid (size_ub UB)
  have HLL := Lib.hid hZL
  clear hZL hZU
  have HSL0 := Lib.hid (fun W => uslot_any A W (by have := HAB.out.1; omega))
  have HSL1 := Lib.hid (fun W => uslot_any B W (by have := HAB.out.2; omega))
  rw [show A % 2 = 0 by have := HAB.out.1; omega] at HSL0
  rw [show B % 2 = 1 by have := HAB.out.2; omega] at HSL1
  obtain ⟨ML, hML⟩ : ∃ L, ubRow UM = L := ⟨_, rfl⟩
  have HHM := Lib.hid hML
  rw [hML] at SEM SLM SOM heM SZM
  clear hML
  obtain ⟨AL, hAL⟩ : ∃ L, ubRow UA = L := ⟨_, rfl⟩
  obtain ⟨BL, hBL⟩ : ∃ L, ubRow UB = L := ⟨_, rfl⟩
  have HHA := Lib.hid hAL
  have HHB := Lib.hid hBL
  rw [hAL] at SEA SLA SOA heA SZA HO4
  rw [hBL] at SEB SLB SOB heB SZB HO5
  clear hAL hBL
  have HX9 := Lib.hid (show Calls Tryd.prog 19 #[.slice ka nk kc, .slice aA 512 cA, .slice aB 512 cB] w9 (fun e w' => e = .returned (.tuple #[.agg ML.toArray, .int .i64 0]) ∧ Below w9.heap.size w9 w') from by
    have h := uchoose_any k (putU k UA) (putU k UB) (.slice ka nk kc) aA aB 512 cA 512 cB w9 (HKT.out.below (HB7.out.trans (HC9.out.mono HB7.out.size)) HKT.out.pos) (HB0.out.kept (HB7.out.trans (HC9.out.mono HB7.out.size))) HRM.out HLX.out (HSA.out.kept HC9.out) (putU_length _ _) HLA.out.1 (by decide) HLA.out.2 (HSB.out.kept HC9.out) (putU_length _ _) HLB.out.1 (by decide) HLB.out.2
    rw [HVAB.out] at h
    rw [← HHM.out]
    exact h)
  go_wp2_with fail
  refine HX9.out.mono ?_
  rintro e w10 ⟨rfl, hb10⟩
  have HC10 := Lib.hid (HC9.out.trans (hb10.mono HC9.out.size))
  have HH := Lib.hid (heap_alloc_new w10 (.cells ZU 30))
  clear hb10 HX9 HC9 
  go_upto_region 15 with (first
    | (with_reducible refine wpList_store_row (o := ⟨none, .store _ (.tmp 13) _, _, _, _, _⟩) rfl 30 _ _ rfl w10.heap.size ML.toArray rfl rfl 30 ZU HH.out SEM.out SLM.out SOM.out ?_))
  have h11 := setRow_heap (w10.alloc (.cells ZU 30)) w10.heap.size _ ML.toArray _ _ HH.out
  have hb11 : Below w10.heap.size w10 ((w10.alloc (.cells ZU 30)).setRow w10.heap.size ML.toArray) := ybelow_row ((Below.refl w10.heap.size w10).alloc (Nat.le_refl _) _) (Nat.le_refl _) _
  generalize (w10.alloc (.cells ZU 30)).setRow w10.heap.size ML.toArray = w11 at *
  have HC11 := Lib.hid (HC10.out.trans (hb11.mono HC10.out.size))
  obtain ⟨T13, hT⟩ : ∃ T, w10.heap.size = T := ⟨_, rfl⟩
  rw [hT] at h11 ⊢
  have HT1311 := Lib.hid h11
  clear h11 hb11 hT HH HC10 
  have HX11 := Lib.hid (show Calls Tryd.prog 19 #[.slice ka nk kc, .slice aA 512 cA, .slice ra nr rc] w11 (fun e w' => e = .returned (.tuple #[.agg AL.toArray, .int .i64 0]) ∧ Below w11.heap.size w11 w') from by
    have h := uchoose_any k (putU k UA) (r) (.slice ka nk kc) aA ra 512 cA nr rc w11 (HKT.out.below (HB7.out.trans (HC11.out.mono HB7.out.size)) HKT.out.pos) (HB0.out.kept (HB7.out.trans (HC11.out.mono HB7.out.size))) HRM.out HLX.out (HSA.out.kept HC11.out) (putU_length _ _) HLA.out.1 (by decide) HLA.out.2 (HR0.out.kept (HB7.out.trans (HC11.out.mono HB7.out.size))) HHR.out HMM.out.2.1 (by have := HMM.out.2.2; have := HMM.out.2.1; omega) (by have := HMM.out.2.2; omega)
    rw [HVAR.out] at h
    rw [← HHA.out]
    exact h)
  go_wp2_with fail
  refine HX11.out.mono ?_
  rintro e w12 ⟨rfl, hb12⟩
  have HC12 := Lib.hid (HC11.out.trans (hb12.mono HC11.out.size))
  have HT1312 := Lib.hid ((hb12.block T13 (Array.getElem?_eq_some_iff.1 HT1311.out).1).trans HT1311.out)
  have HH := Lib.hid (heap_alloc_new w12 (.cells ZU 30))
  clear hb12 HX11 HC11 HT1311
  go_upto_region 16 with (first
    | (with_reducible refine wpList_store_row (o := ⟨none, .store _ (.tmp 15) _, _, _, _, _⟩) rfl 30 _ _ rfl w12.heap.size AL.toArray rfl rfl 30 ZU HH.out SEA.out SLA.out SOA.out ?_))
  have h13 := setRow_heap (w12.alloc (.cells ZU 30)) w12.heap.size _ AL.toArray _ _ HH.out
  have hb13 : Below w12.heap.size w12 ((w12.alloc (.cells ZU 30)).setRow w12.heap.size AL.toArray) := ybelow_row ((Below.refl w12.heap.size w12).alloc (Nat.le_refl _) _) (Nat.le_refl _) _
  generalize (w12.alloc (.cells ZU 30)).setRow w12.heap.size AL.toArray = w13 at *
  have HC13 := Lib.hid (HC12.out.trans (hb13.mono HC12.out.size))
  have HT1313 := Lib.hid ((hb13.block T13 (Array.getElem?_eq_some_iff.1 HT1312.out).1).trans HT1312.out)
  obtain ⟨T15, hT⟩ : ∃ T, w12.heap.size = T := ⟨_, rfl⟩
  rw [hT] at h13 ⊢
  have HT1513 := Lib.hid h13
  clear h13 hb13 hT HH HC12 HT1312
  have HX13 := Lib.hid (show Calls Tryd.prog 19 #[.slice ka nk kc, .slice ra nr rc, .slice aB 512 cB] w13 (fun e w' => e = .returned (.tuple #[.agg BL.toArray, .int .i64 0]) ∧ Below w13.heap.size w13 w') from by
    have h := uchoose_any k (r) (putU k UB) (.slice ka nk kc) ra aB nr rc 512 cB w13 (HKT.out.below (HB7.out.trans (HC13.out.mono HB7.out.size)) HKT.out.pos) (HB0.out.kept (HB7.out.trans (HC13.out.mono HB7.out.size))) HRM.out HLX.out (HR0.out.kept (HB7.out.trans (HC13.out.mono HB7.out.size))) HHR.out HMM.out.2.1 (by have := HMM.out.2.2; have := HMM.out.2.1; omega) (by have := HMM.out.2.2; omega) (HSB.out.kept HC13.out) (putU_length _ _) HLB.out.1 (by decide) HLB.out.2
    rw [HVRB.out] at h
    rw [← HHB.out]
    exact h)
  go_wp2_with fail
  refine HX13.out.mono ?_
  rintro e w14 ⟨rfl, hb14⟩
  have HC14 := Lib.hid (HC13.out.trans (hb14.mono HC13.out.size))
  have HT1314 := Lib.hid ((hb14.block T13 (Array.getElem?_eq_some_iff.1 HT1313.out).1).trans HT1313.out)
  have HT1514 := Lib.hid ((hb14.block T15 (Array.getElem?_eq_some_iff.1 HT1513.out).1).trans HT1513.out)
  have HH := Lib.hid (heap_alloc_new w14 (.cells ZU 30))
  clear hb14 HX13 HC13 HT1313 HT1513
  go_upto_region 17 with (first
    | (with_reducible refine wpList_store_row (o := ⟨none, .store _ (.tmp 17) _, _, _, _, _⟩) rfl 30 _ _ rfl w14.heap.size BL.toArray rfl rfl 30 ZU HH.out SEB.out SLB.out SOB.out ?_))
  have h15 := setRow_heap (w14.alloc (.cells ZU 30)) w14.heap.size _ BL.toArray _ _ HH.out
  have hb15 : Below w14.heap.size w14 ((w14.alloc (.cells ZU 30)).setRow w14.heap.size BL.toArray) := ybelow_row ((Below.refl w14.heap.size w14).alloc (Nat.le_refl _) _) (Nat.le_refl _) _
  generalize (w14.alloc (.cells ZU 30)).setRow w14.heap.size BL.toArray = w15 at *
  have HC15 := Lib.hid (HC14.out.trans (hb15.mono HC14.out.size))
  have HT1315 := Lib.hid ((hb15.block T13 (Array.getElem?_eq_some_iff.1 HT1314.out).1).trans HT1314.out)
  have HT1515 := Lib.hid ((hb15.block T15 (Array.getElem?_eq_some_iff.1 HT1514.out).1).trans HT1514.out)
  obtain ⟨T17, hT⟩ : ∃ T, w14.heap.size = T := ⟨_, rfl⟩
  rw [hT] at h15 ⊢
  have HT1715 := Lib.hid h15
  clear h15 hb15 hT HH HC14 HT1314 HT1514
  have HX15 := Lib.hid (show Calls Tryd.prog 19 #[.slice ka nk kc, .slice aB 512 cB, .slice aA 512 cA] w15 (fun e w' => e = .returned (.tuple #[.agg ZL.toArray, .int .i64 8]) ∧ Below w15.heap.size w15 w') from by
    have h := uchoose_any k (putU k UB) (putU k UA) (.slice ka nk kc) aB aA 512 cB 512 cA w15 (HKT.out.below (HB7.out.trans (HC15.out.mono HB7.out.size)) HKT.out.pos) (HB0.out.kept (HB7.out.trans (HC15.out.mono HB7.out.size))) HRM.out HLX.out (HSB.out.kept HC15.out) (putU_length _ _) HLB.out.1 (by decide) HLB.out.2 (HSA.out.kept HC15.out) (putU_length _ _) HLA.out.1 (by decide) HLA.out.2
    rw [HVBA.out] at h
    rw [← HLL.out]
    exact h)
  go_wp2_with fail
  refine HX15.out.mono ?_
  rintro e w16 ⟨rfl, hb16⟩
  have HC16 := Lib.hid (HC15.out.trans (hb16.mono HC15.out.size))
  have HT1316 := Lib.hid ((hb16.block T13 (Array.getElem?_eq_some_iff.1 HT1315.out).1).trans HT1315.out)
  have HT1516 := Lib.hid ((hb16.block T15 (Array.getElem?_eq_some_iff.1 HT1515.out).1).trans HT1515.out)
  have HT1716 := Lib.hid ((hb16.block T17 (Array.getElem?_eq_some_iff.1 HT1715.out).1).trans HT1715.out)
  have HH := Lib.hid (heap_alloc_new w16 (.cells ZU 30))
  clear hb16 HX15 HC15 HT1315 HT1515 HT1715
  go_upto_region 18 with (first
    | (with_reducible refine wpList_store_row (o := ⟨none, .store _ (.tmp 19) _, _, _, _, _⟩) rfl 30 _ _ rfl w16.heap.size ZL.toArray rfl rfl 30 ZU HH.out SEZ.out SLZ.out SOZ.out ?_))
  have h17 := setRow_heap (w16.alloc (.cells ZU 30)) w16.heap.size _ ZL.toArray _ _ HH.out
  have hb17 : Below w16.heap.size w16 ((w16.alloc (.cells ZU 30)).setRow w16.heap.size ZL.toArray) := ybelow_row ((Below.refl w16.heap.size w16).alloc (Nat.le_refl _) _) (Nat.le_refl _) _
  generalize (w16.alloc (.cells ZU 30)).setRow w16.heap.size ZL.toArray = w17 at *
  have HC17 := Lib.hid (HC16.out.trans (hb17.mono HC16.out.size))
  have HT1317 := Lib.hid ((hb17.block T13 (Array.getElem?_eq_some_iff.1 HT1316.out).1).trans HT1316.out)
  have HT1517 := Lib.hid ((hb17.block T15 (Array.getElem?_eq_some_iff.1 HT1516.out).1).trans HT1516.out)
  have HT1717 := Lib.hid ((hb17.block T17 (Array.getElem?_eq_some_iff.1 HT1716.out).1).trans HT1716.out)
  obtain ⟨T19, hT⟩ : ∃ T, w16.heap.size = T := ⟨_, rfl⟩
  rw [hT] at h17 ⊢
  have HT1917 := Lib.hid h17
  clear h17 hb17 hT HH HC16 HT1316 HT1516 HT1716
  have HX17 := Lib.hid (show Calls Tryd.prog 19 #[.slice ka nk kc, .slice ra nr rc, .slice ra nr rc] w17 (fun e w' => e = .returned (.tuple #[.agg ZL.toArray, .int .i64 8]) ∧ Below w17.heap.size w17 w') from by
    have h := uchoose_any k (r) (r) (.slice ka nk kc) ra ra nr rc nr rc w17 (HKT.out.below (HB7.out.trans (HC17.out.mono HB7.out.size)) HKT.out.pos) (HB0.out.kept (HB7.out.trans (HC17.out.mono HB7.out.size))) HRM.out HLX.out (HR0.out.kept (HB7.out.trans (HC17.out.mono HB7.out.size))) HHR.out HMM.out.2.1 (by have := HMM.out.2.2; have := HMM.out.2.1; omega) (by have := HMM.out.2.2; omega) (HR0.out.kept (HB7.out.trans (HC17.out.mono HB7.out.size))) HHR.out HMM.out.2.1 (by have := HMM.out.2.2; have := HMM.out.2.1; omega) (by have := HMM.out.2.2; omega)
    rw [HVRR.out] at h
    rw [← HLL.out]
    exact h)
  go_wp2_with fail
  refine HX17.out.mono ?_
  rintro e w18 ⟨rfl, hb18⟩
  have HC18 := Lib.hid (HC17.out.trans (hb18.mono HC17.out.size))
  have HT1318 := Lib.hid ((hb18.block T13 (Array.getElem?_eq_some_iff.1 HT1317.out).1).trans HT1317.out)
  have HT1518 := Lib.hid ((hb18.block T15 (Array.getElem?_eq_some_iff.1 HT1517.out).1).trans HT1517.out)
  have HT1718 := Lib.hid ((hb18.block T17 (Array.getElem?_eq_some_iff.1 HT1717.out).1).trans HT1717.out)
  have HH := Lib.hid (heap_alloc_new w18 (.cells ZU 30))
  clear hb18 HX17 HC17 HT1317 HT1517 HT1717
  go_upto_region 19 with (first
    | (with_reducible refine wpList_store_row (o := ⟨none, .store _ (.tmp 21) _, _, _, _, _⟩) rfl 30 _ _ rfl w18.heap.size ZL.toArray rfl rfl 30 ZU HH.out SEZ.out SLZ.out SOZ.out ?_))
  have h19 := setRow_heap (w18.alloc (.cells ZU 30)) w18.heap.size _ ZL.toArray _ _ HH.out
  have hb19 : Below w18.heap.size w18 ((w18.alloc (.cells ZU 30)).setRow w18.heap.size ZL.toArray) := ybelow_row ((Below.refl w18.heap.size w18).alloc (Nat.le_refl _) _) (Nat.le_refl _) _
  generalize (w18.alloc (.cells ZU 30)).setRow w18.heap.size ZL.toArray = w19 at *
  have HC19 := Lib.hid (HC18.out.trans (hb19.mono HC18.out.size))
  have HT1319 := Lib.hid ((hb19.block T13 (Array.getElem?_eq_some_iff.1 HT1318.out).1).trans HT1318.out)
  have HT1519 := Lib.hid ((hb19.block T15 (Array.getElem?_eq_some_iff.1 HT1518.out).1).trans HT1518.out)
  have HT1719 := Lib.hid ((hb19.block T17 (Array.getElem?_eq_some_iff.1 HT1718.out).1).trans HT1718.out)
  obtain ⟨T21, hT⟩ : ∃ T, w18.heap.size = T := ⟨_, rfl⟩
  rw [hT] at h19 ⊢
  have HT2119 := Lib.hid h19
  clear h19 hb19 hT HH HC18 HT1318 HT1518 HT1718
  have HRG13 := Lib.hid (by_range (range_of_row HT1319.out))
  have HRG15 := Lib.hid (by_range (range_of_row HT1519.out))
  have HRG17 := Lib.hid (by_range (range_of_row HT1719.out))
  try simp only [Act.put]
  by_cases hab : A < B
  · have hml : BL = ML := Eq.symm (by rw [← HHM.out, ← HHB.out, ← HUM.out, HTA.out, HTB.out, if_pos hab])
    clear HHM
    subst hml
    have hba : ¬ B < A := by omega
    refine wp_region_below (by kernel_rfl) (by kernel_rfl) ?_
    repeat (first
      | (with_reducible refine quiet_load_row (o := ⟨some 115, _, _, _, _, _⟩) (by kernel_rfl) 30 _ rfl T13 0 rfl BL _ HRG13.out Tryd.underlying30 rfl SZM.out ?_
         simp only [Act.put, List.setIfInBounds_toArray, List.set_cons_zero, List.set_cons_succ])
      | (with_reducible refine quiet_load_row (o := ⟨some 127, _, _, _, _, _⟩) (by kernel_rfl) 30 _ rfl T15 0 rfl AL _ HRG15.out Tryd.underlying30 rfl SZA.out ?_
         simp only [Act.put, List.setIfInBounds_toArray, List.set_cons_zero, List.set_cons_succ])
      | (with_reducible refine quiet_load_row (o := ⟨some 137, _, _, _, _, _⟩) (by kernel_rfl) 30 _ rfl T17 0 rfl BL _ HRG17.out Tryd.underlying30 rfl SZB.out ?_
         simp only [Act.put, List.setIfInBounds_toArray, List.set_cons_zero, List.set_cons_succ])
      | (go_big_quiet_step (first
          | (go_at_call 22; first | exact calls_below (HO4.out _) | exact calls_below (HO5.out _))
          | (go_at_call 15; first | exact calls_below_same (HSL0.out _) | exact calls_below_same (HSL1.out _)))))
    refine wpQuiet_nil ?_
    intro _ hw'
    obtain ⟨p, hw''⟩ := hw'
    subst hw''
    go_wp2_with fail
    go_ret
    exact ⟨rfl, HB7.out.trans ((HC19.out.trans (p.bel.mono HC19.out.size)).mono HB7.out.size)⟩
  · have hml : AL = ML := Eq.symm (by rw [← HHM.out, ← HHA.out, ← HUM.out, HTA.out, HTB.out, if_neg (by omega)])
    clear HHM
    subst hml
    have hba : B < A := by have := HAB.out.1; have := HAB.out.2; omega
    refine wp_region_below (by kernel_rfl) (by kernel_rfl) ?_
    repeat (first
      | (with_reducible refine quiet_load_row (o := ⟨some 115, _, _, _, _, _⟩) (by kernel_rfl) 30 _ rfl T13 0 rfl AL _ HRG13.out Tryd.underlying30 rfl SZM.out ?_
         simp only [Act.put, List.setIfInBounds_toArray, List.set_cons_zero, List.set_cons_succ])
      | (with_reducible refine quiet_load_row (o := ⟨some 127, _, _, _, _, _⟩) (by kernel_rfl) 30 _ rfl T15 0 rfl AL _ HRG15.out Tryd.underlying30 rfl SZA.out ?_
         simp only [Act.put, List.setIfInBounds_toArray, List.set_cons_zero, List.set_cons_succ])
      | (with_reducible refine quiet_load_row (o := ⟨some 137, _, _, _, _, _⟩) (by kernel_rfl) 30 _ rfl T17 0 rfl BL _ HRG17.out Tryd.underlying30 rfl SZB.out ?_
         simp only [Act.put, List.setIfInBounds_toArray, List.set_cons_zero, List.set_cons_succ])
      | (go_big_quiet_step (first
          | (go_at_call 22; first | exact calls_below (HO4.out _) | exact calls_below (HO5.out _))
          | (go_at_call 15; first | exact calls_below_same (HSL0.out _) | exact calls_below_same (HSL1.out _)))))
    refine wpQuiet_nil ?_
    intro _ hw'
    obtain ⟨p, hw''⟩ := hw'
    subst hw''
    go_wp2_with fail
    go_ret
    exact ⟨rfl, HB7.out.trans ((HC19.out.trans (p.bel.mono HC19.out.size)).mono HB7.out.size)⟩
set_option maxRecDepth 100000 in
theorem lifted (os : Os) (started : os.Started) (H : Type) (enc : TypeId × Value → H) :
    ReturnsInHanded {} Tryd.checked os 7 .any (fun w args => (Rows.uberNewerSpec.pre enc Tryd.prog Tryd.f7 [] false w args ∧ laidMetH Tryd.prog [("banyan/sha.roundNumbers", Rows.laid_banyan_sha_roundNumbers)] w) ∧ sizedMet enc Tryd.prog Tryd.f7 (OpenSpec.ofChange Rows.uberNewerSpec) false w args)
      (Rows.uberNewerSpec.post enc Tryd.prog Tryd.f7 false true false false) := by
  refine returnsInHanded_of_change_and (C := Tryd.checked) (X := fun w _ => laidMetH Tryd.prog [("banyan/sha.roundNumbers", Rows.laid_banyan_sha_roundNumbers)] w) (fun _ _ _ hh h => h.of_heap hh) own2 started (by kernel_rfl) Tryd.func7
    (ChangeSpec.witness_shaped (enc := enc) (C := Tryd.checked) (os := os) (X := fun w _ => laidMetH Tryd.prog [("banyan/sha.roundNumbers", Rows.laid_banyan_sha_roundNumbers)] w) false (World.doorLaid Tryd.prog 400 os) #[.agg ([Value.slice none 0 0] ++ ([Value.int .u64 0] ++ ([Value.int .u64 0] ++ ([Value.slice none 0 0])))).toArray] 8 rfl (World.shaped_of_RefB (by kernel_rfl) (by kernel_rfl)) (by kernel_rfl) (by kernel_rfl) (by kernel_rfl) (door_met os _)) ?_
  intro W base args ds gs before hval0 hW _ hsz0 hL _
  have hval : ∀ (j : Nat) t v, Tryd.f7.params[j]? = some t → args[j]? = some v → Value.okWide Tryd.prog W .any base t v := hval0
  have hsz : (DataW.weightsEach Tryd.prog (Tryd.f7.params.toList ++ Rows.uberNewerSpec.plain.varTypes Tryd.prog) (ds ++ gs)).all (· ≤ reachBytes) = true := hsz0
  clear hsz0
  have hW' := hW
  obtain ⟨p, q, hA0, hV, rfl, hfz, hnd⟩ := hW
  have hA : DataW.TrodAll enc Tryd.prog W 0 (fun _ => true) true Tryd.f7.params.toList args.toList ds p := hA0
  rw [Tryd.params7] at hA hval hsz
  obtain ⟨v0, vs0, d0, ds0, p0, q0, hargs, rfl, rfl, h0, r0⟩ := trodAll_cons hA
  obtain ⟨rfl, rfl, rfl⟩ := trodAll_nil r0
  obtain rfl : args = #[v0] := by cases args; simp_all
  obtain ⟨rfl, rfl⟩ := trodVars_none hV
  have k0 := h0
  have lt0 : ∀ x ∈ p0, x.block < W.heap.size := by obtain ⟨m, hm⟩ := k0; exact DataW.trod_lt m _ _ _ hm
  obtain ⟨ka, kc, k, s, t, ra, rc, r, rfl, qf⟩ := par_newer10 (j := 0) (hval 0 53 v0 rfl rfl) h0 hsz rfl rfl
  have hK := of_laid hL
  clear hA0 hval0
  refine (walk W ka kc k s t ra rc r qf hK).mono fun e W' ⟨he, bel⟩ => ?_
  subst he
  exact ⟨_, rfl, _, _, _, [], _, [], hW', trodAll_mk1 (shut_bool Tryd.underlying4 _), (trodAll_cons_mk (Below.trod laidOut2 (by kernel_rfl) (of_decide_eq_true (by kernel_rfl)) k0 bel lt0) trodAll_mk0), rfl, bel.frame _, fun h => by cases h⟩

theorem over : Rows.UberNewerSaid :=
  OpenClaim.holds_of_wide 7 Tryd.f7 rfl rfl rfl rfl rfl rfl rfl ⟨rfl, rfl, rfl, rfl, rfl⟩ rfl rfl rfl rfl rfl (by kernel_rfl) Tryd.func7 (by kernel_rfl)
    (of_decide_eq_true (by kernel_rfl)) (by unfold Func.isWrapper; first | (rw [if_pos (by decide +kernel)]; kernel_rfl) | (rw [if_neg (by decide +kernel)]; exact ⟨rfl, rfl⟩))
    (fun os started H enc _ => lifted os started H enc)

/-- The statement. -/
theorem proved : Rows.UberNewerCardSaid :=
  Claim7.holds_tied_plain_at .later [] [.data] true (true, "c9a66c9fc03c74372b55c74d61d048c4ab6c3d06d9801e353e7a9c1603144487") false
    over (fun _ h => by cases h) (by kernel_rfl) (fun _ h => by cases h) uberNewer_row_tie rfl ⟨rfl, rfl⟩ (by kernel_rfl) rfl
    (fun f fn hf hfn => by
      obtain rfl : f = 7 := Option.some.inj ((show Tryd.prog.funcNamed "banyan/banyanlaw10.UberNewer" = some 7 by kernel_rfl).symm.trans hf) |>.symm
      obtain rfl : fn = Tryd.f7 := (Option.some.inj (Tryd.func7.symm.trans hfn)).symm
      exact ⟨by kernel_rfl, fun j t ht => by
        rw [Tryd.params7] at ht
        have hm : t ∈ [53] := by simpa using Array.mem_of_getElem? ht
        have hall : ([53].all fun u => !Tryd.prog.wantsStandIn u) = true := by kernel_rfl
        exact (show Tryd.prog.wantsStandIn t = false by simpa using List.all_eq_true.1 hall t hm)⟩)
    (by kernel_rfl)
#print axioms proved
end Go.Proofs.YtocdjaenhllemaaDoor.uberNewer
