/-
  'UberChooses' returns true at every input, and each argument reads behind the call as it read before. Conditions: the package-level variable that the row lists starts as the program's text lays it (the card ties that).
-/
import Derived.Test.YtocdjaenhllemaaDoorLaid
import Derived.Test.YtocdjaenhllemaaDoorCards
import Derived.Test.YtocdjaenhllemaaDoorTie
import Derived.Test.YtocdjaenhllemaaDoorUl
import Derived.Test.YtocdjaenhllemaaDoorUj
import Derived.Test.YtocdjaenhllemaaDoorUo
namespace Go.Proofs.YtocdjaenhllemaaDoor.uberChooses
open Go.ChangeShapes Go.WideShapes Go.ChangeAt Go.RowKit
set_option linter.unusedVariables false


set_option maxRecDepth 100000 in
set_option maxHeartbeats 1600000 in
theorem walk (w : World) (ka : Option Addr) (kc : Nat) (k : List Int) (fa : Option Addr) (fc : Nat) (f : List Int) (ga : Option Addr) (gc : Nat) (g : List Int) (o : Bool) (qf : (k.length ≤ kc ∧ kc ≤ 140737488351232 ∧ BS w (.slice ka k.length kc) k) ∧ (f.length ≤ fc ∧ fc ≤ 140737488351232 ∧ BS w (.slice fa f.length fc) f) ∧ (g.length ≤ gc ∧ gc ≤ 140737488351232 ∧ BS w (.slice ga g.length gc) g)) (hK : KT w) :
    Calls Tryd.prog 5 #[.agg (two10Cells ka kc k fa fc f ga gc g o).toArray] w fun e w' => e = .returned (.bool true) ∧ Below w.heap.size w w' := by
  obtain ⟨⟨mk, nk0, bk⟩, ⟨mf, nf0, bf⟩, mg, ng0, bg⟩ := qf
  have HAL := Lib.hid (fun (W : World) (hb : Below w.heap.size w W) => alive10_any W (hK.below hb hK.pos))
  have HBB := Lib.hid ((Below.refl w.heap.size w).alloc (Nat.le_refl _) (.cells (two10Cells ka kc k fa fc f ga gc g o).toArray 44))
  have HBX := Lib.hid (heap_alloc_new w (.cells (two10Cells ka kc k fa fc f ga gc g o).toArray 44))
  obtain ⟨nk, hk⟩ : ∃ n, k.length = n := ⟨_, rfl⟩
  obtain ⟨nf, hf⟩ : ∃ n, f.length = n := ⟨_, rfl⟩
  obtain ⟨ng, hg⟩ : ∃ n, g.length = n := ⟨_, rfl⟩
  rw [hk] at mk bk
  rw [hf] at mf bf
  rw [hg] at mg bg
  have i0 : (0 : Int) ≤ (nk : Int) := by omega
  have i1 : (nk : Int) ≤ 140737488351232 := by omega
  have j0 : (0 : Int) ≤ (nf : Int) := by omega
  have j1 : (nf : Int) ≤ 140737488351232 := by omega
  have l0 : (0 : Int) ≤ (ng : Int) := by omega
  have l1 : (ng : Int) ≤ 140737488351232 := by omega
  have hws : IntKind.i64.wrap ((nf : Int) + (ng : Int)) = (nf : Int) + (ng : Int) := IntWalk.i64_in _ (by omega)
  have HKT := Lib.hid hK
  have HB0 := Lib.hid bk
  have HF0 := Lib.hid bf
  have HG0 := Lib.hid bg
  have HHF := Lib.hid hf
  have HHG := Lib.hid hg
  have HMM := Lib.hid (And.intro (And.intro mk nk0) (And.intro (And.intro mf nf0) (And.intro mg ng0)))
  have HHK := Lib.hid hk
  clear mk nk0 mf nf0 mg ng0 hK bk bf bg
  generalize hwb : w.alloc (.cells (two10Cells ka kc k fa fc f ga gc g o).toArray 44) = wb at *
  by_cases hbig : 200 < nk
  · have hbI : (200 : Int) < (nk : Int) := by omega
    clear hbig HKT HB0 HF0 HG0
    go_enter Tryd.func5, Tryd.ntmps5
    go_upto_region 1 with fail
    try rw [hwb]
    clear hwb
    go_wp2_with fail
    refine (HAL.out wb HBB.out).mono ?_
    rintro e w2 ⟨rfl, hb2⟩
    have HB2 := Lib.hid (HBB.out.trans (hb2.mono HBB.out.size))
    have hA2 := (hb2.block w.heap.size (Array.getElem?_eq_some_iff.1 HBX.out).1).trans HBX.out
    have c0 : ∀ p : BelowBy w2, p.now.cell? ⟨w.heap.size, 0, none⟩ = some (.slice ka nk kc) := fun p => by rw [← hk]; exact by_cell (cell_of_row _ w.heap.size 0 _ _ _ hA2) p
    have c1 : ∀ p : BelowBy w2, p.now.cell? ⟨w.heap.size, 1, none⟩ = some (.slice fa nf fc) := fun p => by rw [← hf]; exact by_cell (cell_of_row _ w.heap.size 1 _ _ _ hA2) p
    have c2 : ∀ p : BelowBy w2, p.now.cell? ⟨w.heap.size, 2, none⟩ = some (.slice ga ng gc) := fun p => by rw [← hg]; exact by_cell (cell_of_row _ w.heap.size 2 _ _ _ hA2) p
    have c3 : ∀ p : BelowBy w2, p.now.cell? ⟨w.heap.size, 3, none⟩ = some (.bool o) := fun p => by_cell (cell_of_row _ w.heap.size 3 _ _ _ hA2) p
    clear hb2 hA2 HAL HBX HBB hk hf hg
    go_upto_region 3 with fail
    try simp only [Act.put]
    refine wp_region_below (by kernel_rfl) (by kernel_rfl) ?_
    repeat (go_big_quiet_step (fail))
    refine wpQuiet_nil ?_
    intro _ hw'
    obtain ⟨p, hw''⟩ := hw'
    subst hw''
    have HB3 := Lib.hid (HB2.out.trans (p.bel.mono HB2.out.size))
    clear c0 c1 c2 c3 HB2
    generalize p.now = w3 at *
    go_wp2_with fail
    go_ret
    exact ⟨rfl, HB3.out⟩
  by_cases hbig1 : 1200 < nf + ng
  · have hsI : (nk : Int) ≤ 200 := by omega
    have hbI : (1200 : Int) < (nf : Int) + (ng : Int) := by omega
    clear hbig hbig1 HKT HB0 HF0 HG0
    go_enter Tryd.func5, Tryd.ntmps5
    go_upto_region 1 with fail
    try rw [hwb]
    clear hwb
    go_wp2_with fail
    refine (HAL.out wb HBB.out).mono ?_
    rintro e w2 ⟨rfl, hb2⟩
    have HB2 := Lib.hid (HBB.out.trans (hb2.mono HBB.out.size))
    have hA2 := (hb2.block w.heap.size (Array.getElem?_eq_some_iff.1 HBX.out).1).trans HBX.out
    have c0 : ∀ p : BelowBy w2, p.now.cell? ⟨w.heap.size, 0, none⟩ = some (.slice ka nk kc) := fun p => by rw [← hk]; exact by_cell (cell_of_row _ w.heap.size 0 _ _ _ hA2) p
    have c1 : ∀ p : BelowBy w2, p.now.cell? ⟨w.heap.size, 1, none⟩ = some (.slice fa nf fc) := fun p => by rw [← hf]; exact by_cell (cell_of_row _ w.heap.size 1 _ _ _ hA2) p
    have c2 : ∀ p : BelowBy w2, p.now.cell? ⟨w.heap.size, 2, none⟩ = some (.slice ga ng gc) := fun p => by rw [← hg]; exact by_cell (cell_of_row _ w.heap.size 2 _ _ _ hA2) p
    have c3 : ∀ p : BelowBy w2, p.now.cell? ⟨w.heap.size, 3, none⟩ = some (.bool o) := fun p => by_cell (cell_of_row _ w.heap.size 3 _ _ _ hA2) p
    clear hb2 hA2 HAL HBX HBB hk hf hg
    go_upto_region 3 with fail
    try simp only [Act.put]
    refine wp_region_below (by kernel_rfl) (by kernel_rfl) ?_
    repeat (go_big_quiet_step (fail))
    refine wpQuiet_nil ?_
    intro _ hw'
    obtain ⟨p, hw''⟩ := hw'
    subst hw''
    have HB3 := Lib.hid (HB2.out.trans (p.bel.mono HB2.out.size))
    clear c0 c1 c2 c3 HB2
    generalize p.now = w3 at *
    go_wp2_with fail
    go_ret
    exact ⟨rfl, HB3.out⟩
  have hsI : (nk : Int) ≤ 200 := by omega
  have hsJ : (nf : Int) + (ng : Int) ≤ 1200 := by omega
  have HSM := Lib.hid (And.intro (show nk ≤ 200 by omega) (show nf + ng ≤ 1200 by omega))
  have hz := zero_ub
  have HRM := Lib.hid (room_of ka nk kc HMM.out.1.1 (by have := HMM.out.1.2; omega))
  have HLX := Lib.hid (show k.length ≤ 900000 by rw [HHK.out]; have := HSM.out.1; omega)
  clear hbig hbig1
  cases o with
  | true =>
    have HSE := Lib.hid (fun (W : World) (hb : Below w.heap.size w W) => usealed_any k f (.slice ka nk kc) fa nf fc W (HKT.out.below hb HKT.out.pos) (HB0.out.kept hb) HRM.out HLX.out (HF0.out.kept hb) HHF.out HMM.out.2.1.1 (by have := HSM.out.2; omega) (by have := HMM.out.2.1.2; omega))
    have HSG := Lib.hid (fun (W : World) (hb : Below w.heap.size w W) => usealed_any k g (.slice ka nk kc) ga ng gc W (HKT.out.below hb HKT.out.pos) (HB0.out.kept hb) HRM.out HLX.out (HG0.out.kept hb) HHG.out HMM.out.2.2.1 (by have := HSM.out.2; omega) (by have := HMM.out.2.2.2; omega))
    unfold Looks at HSE HSG
    go_enter Tryd.func5, Tryd.ntmps5
    go_upto_region 1 with fail
    try rw [hwb]
    clear hwb
    go_wp2_with fail
    refine (HAL.out wb HBB.out).mono ?_
    rintro e w2 ⟨rfl, hb2⟩
    have HB2 := Lib.hid (HBB.out.trans (hb2.mono HBB.out.size))
    have hA2 := (hb2.block w.heap.size (Array.getElem?_eq_some_iff.1 HBX.out).1).trans HBX.out
    have c0 : ∀ p : BelowBy w2, p.now.cell? ⟨w.heap.size, 0, none⟩ = some (.slice ka nk kc) := fun p => by rw [← hk]; exact by_cell (cell_of_row _ w.heap.size 0 _ _ _ hA2) p
    have c1 : ∀ p : BelowBy w2, p.now.cell? ⟨w.heap.size, 1, none⟩ = some (.slice fa nf fc) := fun p => by rw [← hf]; exact by_cell (cell_of_row _ w.heap.size 1 _ _ _ hA2) p
    have c2 : ∀ p : BelowBy w2, p.now.cell? ⟨w.heap.size, 2, none⟩ = some (.slice ga ng gc) := fun p => by rw [← hg]; exact by_cell (cell_of_row _ w.heap.size 2 _ _ _ hA2) p
    have c3 : ∀ p : BelowBy w2, p.now.cell? ⟨w.heap.size, 3, none⟩ = some (.bool true) := fun p => by_cell (cell_of_row _ w.heap.size 3 _ _ _ hA2) p
    clear hb2 hA2 HAL HBX HBB hk hf hg
    go_upto_region 3 with fail
    try simp only [Act.put]
    refine wp_region_below (by kernel_rfl) (by kernel_rfl) ?_
    repeat (go_big_quiet_step (fail))
    refine wpQuiet_nil ?_
    intro _ hw'
    obtain ⟨p, hw''⟩ := hw'
    subst hw''
    have HB3 := Lib.hid (HB2.out.trans (p.bel.mono HB2.out.size))
    clear c0 c1 c2 c3 HB2
    generalize p.now = w3 at *
    have HS3 := Lib.hid (HSE.out w3 HB3.out)
    clear i1 j1 l1 HSE
    go_wp2_with fail
    refine HS3.out.mono ?_
    rintro e w4 ⟨a1, n1, c1, la, rfl, hl4, hln, hc4, hn4, hm4, hb4⟩
    have HB4 := Lib.hid (HB3.out.trans (hb4.mono HB3.out.size))
    have HL4 := Lib.hid hl4
    have HLN4 := Lib.hid (And.intro hln (And.intro hc4 (And.intro (show n1 ≤ 140737488351232 by omega) hm4)))
    have HS4 := Lib.hid (HSG.out w4 HB4.out)
    clear hl4 hln hc4 hn4 hm4 hb4 HS3 HB3 HSG
    go_wp2_with fail
    refine HS4.out.mono ?_
    rintro e w5 ⟨a2, n2, c2, lb, rfl, hl5, hln, hc5, hn5, hm5, hb5⟩
    have HB5 := Lib.hid (HB4.out.trans (hb5.mono HB4.out.size))
    have HLA := Lib.hid (HL4.out.kept hb5)
    have HLB := Lib.hid hl5
    have HLN := Lib.hid (And.intro HLN4.out (And.intro hln (And.intro hc5 (And.intro (show n2 ≤ 140737488351232 by omega) hm5))))
    clear hl5 hln hc5 hn5 hm5 hb5 HS4 HB4 HL4 HLN4
    have HG := Lib.hid (uchoose_any k la lb (.slice ka nk kc) a1 a2 n1 c1 n2 c2 w5 (HKT.out.below HB5.out HKT.out.pos) (HB0.out.kept HB5.out) HRM.out HLX.out HLA.out HLN.out.1.1 HLN.out.1.2.1 HLN.out.1.2.2.1 HLN.out.1.2.2.2 HLB.out HLN.out.2.1 HLN.out.2.2.1 HLN.out.2.2.2.1 HLN.out.2.2.2.2)
    have HR := Lib.hid (fun (W : World) (hb : Below w5.heap.size w5 W) => ruchoose_any k la lb (.slice ka nk kc) a1 a2 n1 c1 n2 c2 W (HB0.out.kept (HB5.out.trans (hb.mono HB5.out.size))) HRM.out HLX.out (HLA.out.kept hb) HLN.out.1.1 HLN.out.1.2.1 HLN.out.1.2.2.1 (HLB.out.kept hb) HLN.out.2.1 HLN.out.2.2.1 HLN.out.2.2.2.1)
    generalize chooseU k la lb = G at *
    have heq := eq_ub G.1 G.1
    rw [show decide (G.1 = G.1) = true by simp] at heq
    have hcc : (G.2 == G.2) = true := by simp
    have SE := Lib.hid (size_ubA G.1)
    have SL := Lib.hid (show (ubRow zeroUb).toArray.size = (ubRow G.1).toArray.size by simp [ubRow_length])
    have SO := Lib.hid (ubRow_one G.1)
    generalize (ubRow G.1).toArray = GR at *
    generalize (ubRow zeroUb).toArray = ZU at *
    generalize G.2 = gcd at *
    clear HKT HB0 HRM HLX HLA HLB HLN
    go_wp2_with fail
    refine HG.out.mono ?_
    rintro e w6 ⟨rfl, hb6⟩
    have HB6 := Lib.hid (HB5.out.trans (hb6.mono HB5.out.size))
    have HB56 := Lib.hid hb6
    have HH := Lib.hid (heap_alloc_new w6 (.cells ZU 30))
    clear hb6 HG
    go_upto_region 9 with (first
      | (with_reducible refine wpList_store_row (o := ⟨none, .store _ (.tmp 7) _, _, _, _, _⟩) rfl 30 _ _ rfl w6.heap.size GR rfl rfl 30 ZU HH.out SE.out SL.out SO.out ?_))
    have h7 := setRow_heap (w6.alloc (.cells ZU 30)) w6.heap.size _ GR _ _ HH.out
    have hb7 : Below w6.heap.size w6 ((w6.alloc (.cells ZU 30)).setRow w6.heap.size GR) := ybelow_row ((Below.refl w6.heap.size w6).alloc (Nat.le_refl _) _) (Nat.le_refl _) _
    generalize (w6.alloc (.cells ZU 30)).setRow w6.heap.size GR = w7 at *
    have HB7 := Lib.hid (HB6.out.trans (hb7.mono HB6.out.size))
    have HR7 := Lib.hid (HR.out w7 (HB56.out.trans (hb7.mono HB56.out.size)))
    obtain ⟨T, hT⟩ : ∃ T, w6.heap.size = T := ⟨_, rfl⟩
    rw [hT] at h7 ⊢
    have H7 := Lib.hid h7
    clear h7 hb7 hT HH HB6 HB56 HR HB5
    go_wp2_with fail
    refine HR7.out.mono ?_
    rintro e w8 ⟨rfl, hb8⟩
    have HB8 := Lib.hid (HB7.out.trans (hb8.mono HB7.out.size))
    have H8 := Lib.hid ((hb8.block T (Array.getElem?_eq_some_iff.1 H7.out).1).trans H7.out)
    have HH := Lib.hid (heap_alloc_new w8 (.cells ZU 30))
    clear hb8 HR7 HB7 H7
    go_upto_region 10 with (first
      | (with_reducible refine wpList_store_row (o := ⟨none, .store _ (.tmp 9) _, _, _, _, _⟩) rfl 30 _ _ rfl w8.heap.size GR rfl rfl 30 ZU HH.out SE.out SL.out SO.out ?_))
    have h9 := setRow_heap (w8.alloc (.cells ZU 30)) w8.heap.size _ GR _ _ HH.out
    have hb9 : Below w8.heap.size w8 ((w8.alloc (.cells ZU 30)).setRow w8.heap.size GR) := ybelow_row ((Below.refl w8.heap.size w8).alloc (Nat.le_refl _) _) (Nat.le_refl _) _
    generalize (w8.alloc (.cells ZU 30)).setRow w8.heap.size GR = w9 at *
    have HB9 := Lib.hid (HB8.out.trans (hb9.mono HB8.out.size))
    have H9a := Lib.hid ((hb9.block T (Array.getElem?_eq_some_iff.1 H8.out).1).trans H8.out)
    obtain ⟨U, hU⟩ : ∃ U, w8.heap.size = U := ⟨_, rfl⟩
    rw [hU] at h9 ⊢
    have H9 := Lib.hid h9
    clear h9 hb9 hU HH HB8 H8 hz
    go_wp2_with (first
      | (with_reducible refine wpList_load_row (o := ⟨some 53, _, _, _, _, _⟩) rfl 30 _ rfl T rfl 30 GR (0, 0) _ H9a.out Tryd.underlying30 rfl SE.out ?_)
      | (with_reducible refine wpList_load_row (o := ⟨some 54, _, _, _, _, _⟩) rfl 30 _ rfl U rfl 30 GR (0, 0) _ H9.out Tryd.underlying30 rfl SE.out ?_))
    go_ret
    exact ⟨rfl, HB9.out⟩
  | false =>
    go_enter Tryd.func5, Tryd.ntmps5
    go_upto_region 1 with fail
    try rw [hwb]
    clear hwb
    go_wp2_with fail
    refine (HAL.out wb HBB.out).mono ?_
    rintro e w2 ⟨rfl, hb2⟩
    have HB2 := Lib.hid (HBB.out.trans (hb2.mono HBB.out.size))
    have hA2 := (hb2.block w.heap.size (Array.getElem?_eq_some_iff.1 HBX.out).1).trans HBX.out
    have c0 : ∀ p : BelowBy w2, p.now.cell? ⟨w.heap.size, 0, none⟩ = some (.slice ka nk kc) := fun p => by rw [← hk]; exact by_cell (cell_of_row _ w.heap.size 0 _ _ _ hA2) p
    have c1 : ∀ p : BelowBy w2, p.now.cell? ⟨w.heap.size, 1, none⟩ = some (.slice fa nf fc) := fun p => by rw [← hf]; exact by_cell (cell_of_row _ w.heap.size 1 _ _ _ hA2) p
    have c2 : ∀ p : BelowBy w2, p.now.cell? ⟨w.heap.size, 2, none⟩ = some (.slice ga ng gc) := fun p => by rw [← hg]; exact by_cell (cell_of_row _ w.heap.size 2 _ _ _ hA2) p
    have c3 : ∀ p : BelowBy w2, p.now.cell? ⟨w.heap.size, 3, none⟩ = some (.bool false) := fun p => by_cell (cell_of_row _ w.heap.size 3 _ _ _ hA2) p
    clear hb2 hA2 HAL HBX HBB hk hf hg
    go_upto_region 3 with fail
    try simp only [Act.put]
    refine wp_region_below (by kernel_rfl) (by kernel_rfl) ?_
    repeat (go_big_quiet_step (fail))
    refine wpQuiet_nil ?_
    intro _ hw'
    obtain ⟨p, hw''⟩ := hw'
    subst hw''
    have HB3 := Lib.hid (HB2.out.trans (p.bel.mono HB2.out.size))
    clear c0 c1 c2 c3 HB2
    generalize p.now = w3 at *
    have HB5 := Lib.hid HB3.out
    have HLA := Lib.hid (HF0.out.kept HB3.out)
    have HLB := Lib.hid (HG0.out.kept HB3.out)
    have HLN := Lib.hid (And.intro (And.intro HHF.out (And.intro HMM.out.2.1.1 (And.intro (show nf ≤ 140737488351232 by omega) (show fc ≤ 9223372036854775807 by have := HMM.out.2.1.2; omega)))) (And.intro HHG.out (And.intro HMM.out.2.2.1 (And.intro (show ng ≤ 140737488351232 by omega) (show gc ≤ 9223372036854775807 by have := HMM.out.2.2.2; omega)))))
    clear i1 j1 l1 HB3 HF0 HG0
    generalize w3 = w5 at *
    have HG := Lib.hid (uchoose_any k f g (.slice ka nk kc) fa ga nf fc ng gc w5 (HKT.out.below HB5.out HKT.out.pos) (HB0.out.kept HB5.out) HRM.out HLX.out HLA.out HLN.out.1.1 HLN.out.1.2.1 HLN.out.1.2.2.1 HLN.out.1.2.2.2 HLB.out HLN.out.2.1 HLN.out.2.2.1 HLN.out.2.2.2.1 HLN.out.2.2.2.2)
    have HR := Lib.hid (fun (W : World) (hb : Below w5.heap.size w5 W) => ruchoose_any k f g (.slice ka nk kc) fa ga nf fc ng gc W (HB0.out.kept (HB5.out.trans (hb.mono HB5.out.size))) HRM.out HLX.out (HLA.out.kept hb) HLN.out.1.1 HLN.out.1.2.1 HLN.out.1.2.2.1 (HLB.out.kept hb) HLN.out.2.1 HLN.out.2.2.1 HLN.out.2.2.2.1)
    generalize chooseU k f g = G at *
    have heq := eq_ub G.1 G.1
    rw [show decide (G.1 = G.1) = true by simp] at heq
    have hcc : (G.2 == G.2) = true := by simp
    have SE := Lib.hid (size_ubA G.1)
    have SL := Lib.hid (show (ubRow zeroUb).toArray.size = (ubRow G.1).toArray.size by simp [ubRow_length])
    have SO := Lib.hid (ubRow_one G.1)
    generalize (ubRow G.1).toArray = GR at *
    generalize (ubRow zeroUb).toArray = ZU at *
    generalize G.2 = gcd at *
    clear HKT HB0 HRM HLX HLA HLB HLN
    go_wp2_with fail
    refine HG.out.mono ?_
    rintro e w6 ⟨rfl, hb6⟩
    have HB6 := Lib.hid (HB5.out.trans (hb6.mono HB5.out.size))
    have HB56 := Lib.hid hb6
    have HH := Lib.hid (heap_alloc_new w6 (.cells ZU 30))
    clear hb6 HG
    go_upto_region 9 with (first
      | (with_reducible refine wpList_store_row (o := ⟨none, .store _ (.tmp 7) _, _, _, _, _⟩) rfl 30 _ _ rfl w6.heap.size GR rfl rfl 30 ZU HH.out SE.out SL.out SO.out ?_))
    have h7 := setRow_heap (w6.alloc (.cells ZU 30)) w6.heap.size _ GR _ _ HH.out
    have hb7 : Below w6.heap.size w6 ((w6.alloc (.cells ZU 30)).setRow w6.heap.size GR) := ybelow_row ((Below.refl w6.heap.size w6).alloc (Nat.le_refl _) _) (Nat.le_refl _) _
    generalize (w6.alloc (.cells ZU 30)).setRow w6.heap.size GR = w7 at *
    have HB7 := Lib.hid (HB6.out.trans (hb7.mono HB6.out.size))
    have HR7 := Lib.hid (HR.out w7 (HB56.out.trans (hb7.mono HB56.out.size)))
    obtain ⟨T, hT⟩ : ∃ T, w6.heap.size = T := ⟨_, rfl⟩
    rw [hT] at h7 ⊢
    have H7 := Lib.hid h7
    clear h7 hb7 hT HH HB6 HB56 HR HB5
    go_wp2_with fail
    refine HR7.out.mono ?_
    rintro e w8 ⟨rfl, hb8⟩
    have HB8 := Lib.hid (HB7.out.trans (hb8.mono HB7.out.size))
    have H8 := Lib.hid ((hb8.block T (Array.getElem?_eq_some_iff.1 H7.out).1).trans H7.out)
    have HH := Lib.hid (heap_alloc_new w8 (.cells ZU 30))
    clear hb8 HR7 HB7 H7
    go_upto_region 10 with (first
      | (with_reducible refine wpList_store_row (o := ⟨none, .store _ (.tmp 9) _, _, _, _, _⟩) rfl 30 _ _ rfl w8.heap.size GR rfl rfl 30 ZU HH.out SE.out SL.out SO.out ?_))
    have h9 := setRow_heap (w8.alloc (.cells ZU 30)) w8.heap.size _ GR _ _ HH.out
    have hb9 : Below w8.heap.size w8 ((w8.alloc (.cells ZU 30)).setRow w8.heap.size GR) := ybelow_row ((Below.refl w8.heap.size w8).alloc (Nat.le_refl _) _) (Nat.le_refl _) _
    generalize (w8.alloc (.cells ZU 30)).setRow w8.heap.size GR = w9 at *
    have HB9 := Lib.hid (HB8.out.trans (hb9.mono HB8.out.size))
    have H9a := Lib.hid ((hb9.block T (Array.getElem?_eq_some_iff.1 H8.out).1).trans H8.out)
    obtain ⟨U, hU⟩ : ∃ U, w8.heap.size = U := ⟨_, rfl⟩
    rw [hU] at h9 ⊢
    have H9 := Lib.hid h9
    clear h9 hb9 hU HH HB8 H8 hz
    go_wp2_with (first
      | (with_reducible refine wpList_load_row (o := ⟨some 53, _, _, _, _, _⟩) rfl 30 _ rfl T rfl 30 GR (0, 0) _ H9a.out Tryd.underlying30 rfl SE.out ?_)
      | (with_reducible refine wpList_load_row (o := ⟨some 54, _, _, _, _, _⟩) rfl 30 _ rfl U rfl 30 GR (0, 0) _ H9.out Tryd.underlying30 rfl SE.out ?_))
    go_ret
    exact ⟨rfl, HB9.out⟩
set_option maxRecDepth 100000 in
theorem lifted (os : Os) (started : os.Started) (H : Type) (enc : TypeId × Value → H) :
    ReturnsInHanded {} Tryd.checked os 5 .any (fun w args => (Rows.uberChoosesSpec.pre enc Tryd.prog Tryd.f5 [] false w args ∧ laidMetH Tryd.prog [("banyan/sha.roundNumbers", Rows.laid_banyan_sha_roundNumbers)] w) ∧ sizedMet enc Tryd.prog Tryd.f5 (OpenSpec.ofChange Rows.uberChoosesSpec) false w args)
      (Rows.uberChoosesSpec.post enc Tryd.prog Tryd.f5 false true false false) := by
  refine returnsInHanded_of_change_and (C := Tryd.checked) (X := fun w _ => laidMetH Tryd.prog [("banyan/sha.roundNumbers", Rows.laid_banyan_sha_roundNumbers)] w) (fun _ _ _ hh h => h.of_heap hh) own2 started (by kernel_rfl) Tryd.func5
    (ChangeSpec.witness_shaped (enc := enc) (C := Tryd.checked) (os := os) (X := fun w _ => laidMetH Tryd.prog [("banyan/sha.roundNumbers", Rows.laid_banyan_sha_roundNumbers)] w) false (World.doorLaid Tryd.prog 400 os) #[.agg ([Value.slice none 0 0] ++ ([Value.slice none 0 0] ++ ([Value.slice none 0 0] ++ ([Value.bool false])))).toArray] 8 rfl (World.shaped_of_RefB (by kernel_rfl) (by kernel_rfl)) (by kernel_rfl) (by kernel_rfl) (by kernel_rfl) (door_met os _)) ?_
  intro W base args ds gs before hval0 hW _ hsz0 hL _
  have hval : ∀ (j : Nat) t v, Tryd.f5.params[j]? = some t → args[j]? = some v → Value.okWide Tryd.prog W .any base t v := hval0
  have hsz : (DataW.weightsEach Tryd.prog (Tryd.f5.params.toList ++ Rows.uberChoosesSpec.plain.varTypes Tryd.prog) (ds ++ gs)).all (· ≤ reachBytes) = true := hsz0
  clear hsz0
  have hW' := hW
  obtain ⟨p, q, hA0, hV, rfl, hfz, hnd⟩ := hW
  have hA : DataW.TrodAll enc Tryd.prog W 0 (fun _ => true) true Tryd.f5.params.toList args.toList ds p := hA0
  rw [Tryd.params5] at hA hval hsz
  obtain ⟨v0, vs0, d0, ds0, p0, q0, hargs, rfl, rfl, h0, r0⟩ := trodAll_cons hA
  obtain ⟨rfl, rfl, rfl⟩ := trodAll_nil r0
  obtain rfl : args = #[v0] := by cases args; simp_all
  obtain ⟨rfl, rfl⟩ := trodVars_none hV
  have k0 := h0
  have lt0 : ∀ x ∈ p0, x.block < W.heap.size := by obtain ⟨m, hm⟩ := k0; exact DataW.trod_lt m _ _ _ hm
  obtain ⟨ka, kc, k, fa, fc, f, ga, gc, g, o, rfl, qf⟩ := par_two10 (j := 0) (hval 0 44 v0 rfl rfl) h0 hsz rfl rfl
  have hK := of_laid hL
  clear hA0 hval0
  refine (walk W ka kc k fa fc f ga gc g o qf hK).mono fun e W' ⟨he, bel⟩ => ?_
  subst he
  exact ⟨_, rfl, _, _, _, [], _, [], hW', trodAll_mk1 (shut_bool Tryd.underlying4 _), (trodAll_cons_mk (Below.trod laidOut2 (by kernel_rfl) (of_decide_eq_true (by kernel_rfl)) k0 bel lt0) trodAll_mk0), rfl, bel.frame _, fun h => by cases h⟩

theorem over : Rows.UberChoosesSaid :=
  OpenClaim.holds_of_wide 5 Tryd.f5 rfl rfl rfl rfl rfl rfl rfl ⟨rfl, rfl, rfl, rfl, rfl⟩ rfl rfl rfl rfl rfl (by kernel_rfl) Tryd.func5 (by kernel_rfl)
    (of_decide_eq_true (by kernel_rfl)) (by unfold Func.isWrapper; first | (rw [if_pos (by decide +kernel)]; kernel_rfl) | (rw [if_neg (by decide +kernel)]; exact ⟨rfl, rfl⟩))
    (fun os started H enc _ => lifted os started H enc)

/-- The statement. -/
theorem proved : Rows.UberChoosesCardSaid :=
  Claim7.holds_tied_plain_at .later [] [.data] true (true, "c9a66c9fc03c74372b55c74d61d048c4ab6c3d06d9801e353e7a9c1603144487") false
    over (fun _ h => by cases h) (by kernel_rfl) (fun _ h => by cases h) uberChooses_row_tie rfl ⟨rfl, rfl⟩ (by kernel_rfl) rfl
    (fun f fn hf hfn => by
      obtain rfl : f = 5 := Option.some.inj ((show Tryd.prog.funcNamed "banyan/banyanlaw10.UberChooses" = some 5 by kernel_rfl).symm.trans hf) |>.symm
      obtain rfl : fn = Tryd.f5 := (Option.some.inj (Tryd.func5.symm.trans hfn)).symm
      exact ⟨by kernel_rfl, fun j t ht => by
        rw [Tryd.params5] at ht
        have hm : t ∈ [44] := by simpa using Array.mem_of_getElem? ht
        have hall : ([44].all fun u => !Tryd.prog.wantsStandIn u) = true := by kernel_rfl
        exact (show Tryd.prog.wantsStandIn t = false by simpa using List.all_eq_true.1 hall t hm)⟩)
    (by kernel_rfl)
#print axioms proved
end Go.Proofs.YtocdjaenhllemaaDoor.uberChooses
