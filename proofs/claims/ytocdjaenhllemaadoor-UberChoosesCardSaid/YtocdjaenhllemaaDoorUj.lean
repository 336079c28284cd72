/-
  Ubers: the reference's Choose.
-/
import Derived.Test.YtocdjaenhllemaaDoorUh
namespace Go.Proofs.YtocdjaenhllemaaDoor
set_option maxRecDepth 4000
open Go.ChangeShapes Go.WideShapes Go.ChangeAt Go.RowKit

set_option maxRecDepth 100000 in
set_option maxHeartbeats 3200000 in
theorem ruchoose_any (k la lb : List Int) (v : Value) (aa ab : Option Addr) (na ca nb cb : Nat) (w : World) (hv : BS w v k) (hr : Room v) (hn : k.length ≤ 900000)
    (hla : BS w (.slice aa na ca) la) (hna : la.length = na) (hca : na ≤ ca) (hna63 : na ≤ 140737488351232) (hlb : BS w (.slice ab nb cb) lb) (hnb : lb.length = nb) (hcb : nb ≤ cb) (hnb63 : nb ≤ 140737488351232) :
    Calls Tryd.prog 20 #[v, .slice aa na ca, .slice ab nb cb] w fun e w' => e = .returned (.tuple #[.agg (ubRow (chooseU k la lb).1).toArray, .int .i64 (chooseU k la lb).2]) ∧ Below w.heap.size w w' := by
  have hz := zero_ub
  have HA := Lib.hid (heap_alloc_new w (.cells (ubRow zeroUb).toArray 30))
  have HB := Lib.hid ((Below.refl w.heap.size w).alloc (Nat.le_refl _) (.cells (ubRow zeroUb).toArray 30))
  have HGA := Lib.hid (fun (W : World) (hb : Below w.heap.size w W) => ruget_any k la v aa na ca W (hv.kept hb) hr hn (hla.kept hb) hna hca hna63)
  have HGB := Lib.hid (fun (W : World) (hb : Below w.heap.size w W) => ruget_any k lb v ab nb cb W (hv.kept hb) hr hn (hlb.kept hb) hnb hcb hnb63)
  have HBN := Lib.hid build_nou
  have SEZ := Lib.hid (size_ubA zeroUb)
  have SOZ := Lib.hid (ubRow_one zeroUb)
  have HC1 := Lib.hid (show pickU 0 (getU k la) = true → pickU 1 (getU k lb) = true → (getU k lb).1.tx < (getU k la).1.tx → chooseU k la lb = ((getU k la).1, 0) from fun p _ h => by unfold chooseU; rw [if_pos ⟨p, fun _ => h⟩])
  have HC2 := Lib.hid (show pickU 0 (getU k la) = true → ¬ pickU 1 (getU k lb) = true → chooseU k la lb = ((getU k la).1, 0) from fun p q => by unfold chooseU; rw [if_pos ⟨p, fun h => absurd h q⟩])
  have HC3 := Lib.hid (show pickU 0 (getU k la) = true → pickU 1 (getU k lb) = true → ¬ (getU k lb).1.tx < (getU k la).1.tx → chooseU k la lb = ((getU k lb).1, 0) from fun p q h => by unfold chooseU; rw [if_neg (show ¬ (pickU 0 (getU k la) = true ∧ (pickU 1 (getU k lb) = true → (getU k lb).1.tx < (getU k la).1.tx)) from fun z => h (z.2 q)), if_pos q])
  have HC4 := Lib.hid (show ¬ pickU 0 (getU k la) = true → pickU 1 (getU k lb) = true → chooseU k la lb = ((getU k lb).1, 0) from fun p q => by unfold chooseU; rw [if_neg (show ¬ (pickU 0 (getU k la) = true ∧ (pickU 1 (getU k lb) = true → (getU k lb).1.tx < (getU k la).1.tx)) from fun z => p z.1), if_pos q])
  have HC5 := Lib.hid (show ¬ pickU 0 (getU k la) = true → ¬ pickU 1 (getU k lb) = true → chooseU k la lb = (zeroUb, 8) from fun p q => by unfold chooseU; rw [if_neg (show ¬ (pickU 0 (getU k la) = true ∧ (pickU 1 (getU k lb) = true → (getU k lb).1.tx < (getU k la).1.tx)) from fun z => p z.1), if_neg q])
  clear hv hr hn hla hna hca hna63 hlb hnb hcb hnb63
  generalize chooseU k la lb = CH at *
  generalize getU k la = ga at *
  generalize getU k lb = gb at *
  have SEA := Lib.hid (size_ubA ga.1)
  have SLA := Lib.hid (show (ubRow zeroUb).toArray.size = (ubRow ga.1).toArray.size by simp [ubRow_length])
  have SOA := Lib.hid (ubRow_one ga.1)
  have SEB := Lib.hid (size_ubA gb.1)
  have SLB := Lib.hid (show (ubRow zeroUb).toArray.size = (ubRow gb.1).toArray.size by simp [ubRow_length])
  have SOB := Lib.hid (ubRow_one gb.1)
  have HPA := Lib.hid (show ga.2 = 0 → ga.1.tx % 2 = 0 → pickU 0 ga = true from fun h1 h2 => by simp only [pickU, Bool.and_eq_true, decide_eq_true_eq]; exact ⟨h1, h2⟩)
  have HPB := Lib.hid (show gb.2 = 0 → gb.1.tx % 2 = 1 → pickU 1 gb = true from fun h1 h2 => by simp only [pickU, Bool.and_eq_true, decide_eq_true_eq]; exact ⟨h1, h2⟩)
  have HNPA := Lib.hid (show ¬ (ga.2 = 0 ∧ ga.1.tx % 2 = 0) → ¬ pickU 0 ga = true from fun h q => h (by simpa only [pickU, Bool.and_eq_true, decide_eq_true_eq] using q))
  have HNPB := Lib.hid (show ¬ (gb.2 = 0 ∧ gb.1.tx % 2 = 1) → ¬ pickU 1 gb = true from fun h q => h (by simpa only [pickU, Bool.and_eq_true, decide_eq_true_eq] using q))
  have HTA := Lib.hid (fun (W : World) (T : Nat) (h : W.heap[T]? = some (.cells (ubRow ga.1).toArray 30 (0, 0))) => (ub_at h).1)
  have HTB := Lib.hid (fun (W : World) (T : Nat) (h : W.heap[T]? = some (.cells (ubRow gb.1).toArray 30 (0, 0))) => (ub_at h).1)
  have ta := ga.1.t0
  have tb := gb.1.t0
  have hma : ga.1.tx.tmod 2 = ga.1.tx % 2 := Int.tmod_eq_emod_of_nonneg ta.1
  have hmb : gb.1.tx.tmod 2 = gb.1.tx % 2 := Int.tmod_eq_emod_of_nonneg tb.1
  have ax0 := ta.1
  have bx0 := tb.1
  clear ta tb
  generalize ga.1.tx = ax at *
  generalize gb.1.tx = bx at *
  generalize ga.2 = ac at *
  generalize gb.2 = bc at *
  generalize pickU 0 ga = PA0 at *
  generalize pickU 1 gb = PB0 at *
  obtain ⟨RA, hRA⟩ : ∃ RA, (ubRow ga.1).toArray = RA := ⟨_, rfl⟩
  obtain ⟨RB, hRB⟩ : ∃ RB, (ubRow gb.1).toArray = RB := ⟨_, rfl⟩
  obtain ⟨ZU, hZU⟩ : ∃ ZU, (ubRow zeroUb).toArray = ZU := ⟨_, rfl⟩
  have HZU := Lib.hid hZU
  have HRA := Lib.hid hRA
  have HRB := Lib.hid hRB
  rw [hZU] at HA HB SEZ SOZ SLA SLB hz HBN
  rw [hRA] at HGA SEA SLA SOA HTA
  rw [hRB] at HGB SEB SLB SOB HTB
  clear hZU hRA hRB
  generalize hw1 : w.alloc (.cells ZU 30) = w1 at *
  go_enter Tryd.func20, Tryd.ntmps20
  go_upto_region 1 with fail
  try rw [hw1]
  clear hw1
  go_wp2_with fail
  refine (HGA.out w1 HB.out).mono ?_
  rintro e w2 ⟨rfl, hb2⟩
  have HB2 := Lib.hid (HB.out.trans (hb2.mono HB.out.size))
  have HA2 := Lib.hid ((hb2.block w.heap.size (Array.getElem?_eq_some_iff.1 HA.out).1).trans HA.out)
  have HH := Lib.hid (heap_alloc_new w2 (.cells ZU 30))
  clear hb2 HGA HA HB
  go_upto_region 2 with (first
    | (with_reducible refine wpList_store_row (o := ⟨none, .store _ (.tmp 8) _, _, _, _, _⟩) rfl 30 _ _ rfl w2.heap.size RA rfl rfl 30 ZU HH.out SEA.out SLA.out SOA.out ?_))
  have h3 := setRow_heap (w2.alloc (.cells ZU 30)) w2.heap.size _ RA _ _ HH.out
  have hb3 : Below w2.heap.size w2 ((w2.alloc (.cells ZU 30)).setRow w2.heap.size RA) := ybelow_row ((Below.refl w2.heap.size w2).alloc (Nat.le_refl _) _) (Nat.le_refl _) _
  generalize (w2.alloc (.cells ZU 30)).setRow w2.heap.size RA = w3 at *
  have HB3 := Lib.hid (HB2.out.trans (hb3.mono HB2.out.size))
  have HA3 := Lib.hid ((hb3.block w.heap.size (Array.getElem?_eq_some_iff.1 HA2.out).1).trans HA2.out)
  obtain ⟨TA, hTA⟩ : ∃ TA, w2.heap.size = TA := ⟨_, rfl⟩
  rw [hTA] at h3 ⊢
  have HGA3 := Lib.hid h3
  clear h3 hb3 hTA HH HB2 HA2
  go_wp2_with fail
  refine (HGB.out w3 HB3.out).mono ?_
  rintro e w4 ⟨rfl, hb4⟩
  have HB4 := Lib.hid (HB3.out.trans (hb4.mono HB3.out.size))
  have HA4 := Lib.hid ((hb4.block w.heap.size (Array.getElem?_eq_some_iff.1 HA3.out).1).trans HA3.out)
  have HGA4 := Lib.hid ((hb4.block TA (Array.getElem?_eq_some_iff.1 HGA3.out).1).trans HGA3.out)
  have HH := Lib.hid (heap_alloc_new w4 (.cells ZU 30))
  clear hb4 HGB HA3 HB3 HGA3
  go_upto_region 3 with (first
    | (with_reducible refine wpList_store_row (o := ⟨none, .store _ (.tmp 10) _, _, _, _, _⟩) rfl 30 _ _ rfl w4.heap.size RB rfl rfl 30 ZU HH.out SEB.out SLB.out SOB.out ?_))
  have h5 := setRow_heap (w4.alloc (.cells ZU 30)) w4.heap.size _ RB _ _ HH.out
  have hb5 : Below w4.heap.size w4 ((w4.alloc (.cells ZU 30)).setRow w4.heap.size RB) := ybelow_row ((Below.refl w4.heap.size w4).alloc (Nat.le_refl _) _) (Nat.le_refl _) _
  generalize (w4.alloc (.cells ZU 30)).setRow w4.heap.size RB = w6 at *
  have HB6 := Lib.hid (HB4.out.trans (hb5.mono HB4.out.size))
  have HA6 := Lib.hid ((hb5.block w.heap.size (Array.getElem?_eq_some_iff.1 HA4.out).1).trans HA4.out)
  have HGA6 := Lib.hid ((hb5.block TA (Array.getElem?_eq_some_iff.1 HGA4.out).1).trans HGA4.out)
  obtain ⟨TB, hTB⟩ : ∃ TB, w4.heap.size = TB := ⟨_, rfl⟩
  rw [hTB] at h5 ⊢
  have HGB6 := Lib.hid h5
  have ca := HTA.out w6 TA HGA6.out
  have cb' := HTB.out w6 TB HGB6.out
  clear h5 hb5 hTB HH HB4 HA4 HGA4 HTA HTB hz
  by_cases ka1 : ac = 0
  · have ka1' : (ac == 0) = true := by simp [ka1]
    by_cases ka2 : ax % 2 = 0
    · have ka2' : (ax % 2 == 0) = true := by simp [ka2]
      have PA := HPA.out ka1 ka2
      clear ka1 ka2
      by_cases kb1 : bc = 0
      · have kb1' : (bc == 0) = true := by simp [kb1]
        by_cases kb2 : bx % 2 = 1
        · have kb2' : (bx % 2 == 1) = true := by simp [kb2]
          have PB := HPB.out kb1 kb2
          clear kb1 kb2
          by_cases hc : bx < ax
          · have HC := Lib.hid (HC1.out PA PB hc)
            have hcd : decide (bx < ax) = true := decide_eq_true hc
            clear PA PB HC1 HC2 HC3 HC4 HC5 hc
            go_wp2_with (first
              | (with_reducible refine wpList_load_row (o := ⟨some 54, _, _, _, _, _⟩) rfl 30 _ rfl TA rfl 30 RA (0, 0) _ HGA6.out Tryd.underlying30 rfl SEA.out ?_)
              | (with_reducible refine wpList_store_row (o := ⟨none, .store _ (.tmp 6) _, _, _, _, _⟩) rfl 30 _ _ rfl w.heap.size RA rfl rfl 30 ZU HA6.out SEA.out SLA.out SOA.out ?_))
            have h5 : Below w.heap.size w (w6.setRow w.heap.size RA) := ybelow_row HB6.out (Nat.le_refl _) _
            refine bodyPost_ret (v := .tuple #[.agg RA, .int .i64 0]) (results_cell_two Tryd.results20 _ _ w.heap.size 30 RA (0, 0) _ rfl (setRow_heap _ w.heap.size _ RA _ _ HA6.out) Tryd.underlying30 rfl SEA.out _ (by simp)) rfl ⟨?_, h5⟩
            rw [HC.out]
            rw [← HRA.out]
          · have HC := Lib.hid (HC3.out PA PB (by omega))
            have hcd : decide (bx < ax) = false := decide_eq_false hc
            clear PA PB HC1 HC2 HC3 HC4 HC5 hc
            go_wp2_with (first
              | (with_reducible refine wpList_load_row (o := ⟨some 56, _, _, _, _, _⟩) rfl 30 _ rfl TB rfl 30 RB (0, 0) _ HGB6.out Tryd.underlying30 rfl SEB.out ?_)
              | (with_reducible refine wpList_store_row (o := ⟨none, .store _ (.tmp 6) _, _, _, _, _⟩) rfl 30 _ _ rfl w.heap.size RB rfl rfl 30 ZU HA6.out SEB.out SLB.out SOB.out ?_))
            have h5 : Below w.heap.size w (w6.setRow w.heap.size RB) := ybelow_row HB6.out (Nat.le_refl _) _
            refine bodyPost_ret (v := .tuple #[.agg RB, .int .i64 0]) (results_cell_two Tryd.results20 _ _ w.heap.size 30 RB (0, 0) _ rfl (setRow_heap _ w.heap.size _ RB _ _ HA6.out) Tryd.underlying30 rfl SEB.out _ (by simp)) rfl ⟨?_, h5⟩
            rw [HC.out]
            rw [← HRB.out]
        · have kb2' : (bx % 2 == 1) = false := by simp [kb2]
          have PB := HNPB.out (fun h => kb2 h.2)
          clear kb1 kb2
          have HC := Lib.hid (HC2.out PA PB)
          clear PA PB HC1 HC2 HC3 HC4 HC5
          go_wp2_with (first
            | (with_reducible refine wpList_load_row (o := ⟨some 54, _, _, _, _, _⟩) rfl 30 _ rfl TA rfl 30 RA (0, 0) _ HGA6.out Tryd.underlying30 rfl SEA.out ?_)
            | (with_reducible refine wpList_store_row (o := ⟨none, .store _ (.tmp 6) _, _, _, _, _⟩) rfl 30 _ _ rfl w.heap.size RA rfl rfl 30 ZU HA6.out SEA.out SLA.out SOA.out ?_))
          have h5 : Below w.heap.size w (w6.setRow w.heap.size RA) := ybelow_row HB6.out (Nat.le_refl _) _
          refine bodyPost_ret (v := .tuple #[.agg RA, .int .i64 0]) (results_cell_two Tryd.results20 _ _ w.heap.size 30 RA (0, 0) _ rfl (setRow_heap _ w.heap.size _ RA _ _ HA6.out) Tryd.underlying30 rfl SEA.out _ (by simp)) rfl ⟨?_, h5⟩
          rw [HC.out]
          rw [← HRA.out]
      · have kb1' : (bc == 0) = false := by simp [kb1]
        have PB := HNPB.out (fun h => kb1 h.1)
        clear kb1
        have HC := Lib.hid (HC2.out PA PB)
        clear PA PB HC1 HC2 HC3 HC4 HC5
        go_wp2_with (first
          | (with_reducible refine wpList_load_row (o := ⟨some 54, _, _, _, _, _⟩) rfl 30 _ rfl TA rfl 30 RA (0, 0) _ HGA6.out Tryd.underlying30 rfl SEA.out ?_)
          | (with_reducible refine wpList_store_row (o := ⟨none, .store _ (.tmp 6) _, _, _, _, _⟩) rfl 30 _ _ rfl w.heap.size RA rfl rfl 30 ZU HA6.out SEA.out SLA.out SOA.out ?_))
        have h5 : Below w.heap.size w (w6.setRow w.heap.size RA) := ybelow_row HB6.out (Nat.le_refl _) _
        refine bodyPost_ret (v := .tuple #[.agg RA, .int .i64 0]) (results_cell_two Tryd.results20 _ _ w.heap.size 30 RA (0, 0) _ rfl (setRow_heap _ w.heap.size _ RA _ _ HA6.out) Tryd.underlying30 rfl SEA.out _ (by simp)) rfl ⟨?_, h5⟩
        rw [HC.out]
        rw [← HRA.out]
    · have ka2' : (ax % 2 == 0) = false := by simp [ka2]
      have PA := HNPA.out (fun h => ka2 h.2)
      clear ka1 ka2
      by_cases kb1 : bc = 0
      · have kb1' : (bc == 0) = true := by simp [kb1]
        by_cases kb2 : bx % 2 = 1
        · have kb2' : (bx % 2 == 1) = true := by simp [kb2]
          have PB := HPB.out kb1 kb2
          clear kb1 kb2
          have HC := Lib.hid (HC4.out PA PB)
          clear PA PB HC1 HC2 HC3 HC4 HC5
          go_wp2_with (first
            | (with_reducible refine wpList_load_row (o := ⟨some 56, _, _, _, _, _⟩) rfl 30 _ rfl TB rfl 30 RB (0, 0) _ HGB6.out Tryd.underlying30 rfl SEB.out ?_)
            | (with_reducible refine wpList_store_row (o := ⟨none, .store _ (.tmp 6) _, _, _, _, _⟩) rfl 30 _ _ rfl w.heap.size RB rfl rfl 30 ZU HA6.out SEB.out SLB.out SOB.out ?_))
          have h5 : Below w.heap.size w (w6.setRow w.heap.size RB) := ybelow_row HB6.out (Nat.le_refl _) _
          refine bodyPost_ret (v := .tuple #[.agg RB, .int .i64 0]) (results_cell_two Tryd.results20 _ _ w.heap.size 30 RB (0, 0) _ rfl (setRow_heap _ w.heap.size _ RB _ _ HA6.out) Tryd.underlying30 rfl SEB.out _ (by simp)) rfl ⟨?_, h5⟩
          rw [HC.out]
          rw [← HRB.out]
        · have kb2' : (bx % 2 == 1) = false := by simp [kb2]
          have PB := HNPB.out (fun h => kb2 h.2)
          clear kb1 kb2
          have HC := Lib.hid (HC5.out PA PB)
          clear PA PB HC1 HC2 HC3 HC4 HC5
          go_wp2_with (first
            | (with_reducible refine wpList_build_run (o := ⟨some 57, _, _, _, _, _⟩) rfl 30 _ rfl #[] (by simp) (.agg ZU) (HBN.out _) ?_)
            | (with_reducible refine wpList_store_row (o := ⟨none, .store _ (.tmp 6) _, _, _, _, _⟩) rfl 30 _ _ rfl w.heap.size ZU rfl rfl 30 ZU HA6.out SEZ.out rfl SOZ.out ?_))
          have h5 : Below w.heap.size w (w6.setRow w.heap.size ZU) := ybelow_row HB6.out (Nat.le_refl _) _
          refine bodyPost_ret (v := .tuple #[.agg ZU, .int .i64 8]) (results_cell_two Tryd.results20 _ _ w.heap.size 30 ZU (0, 0) _ rfl (setRow_heap _ w.heap.size _ ZU _ _ HA6.out) Tryd.underlying30 rfl SEZ.out _ (by simp)) rfl ⟨?_, h5⟩
          rw [HC.out]
          rw [← HZU.out]
      · have kb1' : (bc == 0) = false := by simp [kb1]
        have PB := HNPB.out (fun h => kb1 h.1)
        clear kb1
        have HC := Lib.hid (HC5.out PA PB)
        clear PA PB HC1 HC2 HC3 HC4 HC5
        go_wp2_with (first
          | (with_reducible refine wpList_build_run (o := ⟨some 57, _, _, _, _, _⟩) rfl 30 _ rfl #[] (by simp) (.agg ZU) (HBN.out _) ?_)
          | (with_reducible refine wpList_store_row (o := ⟨none, .store _ (.tmp 6) _, _, _, _, _⟩) rfl 30 _ _ rfl w.heap.size ZU rfl rfl 30 ZU HA6.out SEZ.out rfl SOZ.out ?_))
        have h5 : Below w.heap.size w (w6.setRow w.heap.size ZU) := ybelow_row HB6.out (Nat.le_refl _) _
        refine bodyPost_ret (v := .tuple #[.agg ZU, .int .i64 8]) (results_cell_two Tryd.results20 _ _ w.heap.size 30 ZU (0, 0) _ rfl (setRow_heap _ w.heap.size _ ZU _ _ HA6.out) Tryd.underlying30 rfl SEZ.out _ (by simp)) rfl ⟨?_, h5⟩
        rw [HC.out]
        rw [← HZU.out]
  · have ka1' : (ac == 0) = false := by simp [ka1]
    have PA := HNPA.out (fun h => ka1 h.1)
    clear ka1
    by_cases kb1 : bc = 0
    · have kb1' : (bc == 0) = true := by simp [kb1]
      by_cases kb2 : bx % 2 = 1
      · have kb2' : (bx % 2 == 1) = true := by simp [kb2]
        have PB := HPB.out kb1 kb2
        clear kb1 kb2
        have HC := Lib.hid (HC4.out PA PB)
        clear PA PB HC1 HC2 HC3 HC4 HC5
        go_wp2_with (first
          | (with_reducible refine wpList_load_row (o := ⟨some 56, _, _, _, _, _⟩) rfl 30 _ rfl TB rfl 30 RB (0, 0) _ HGB6.out Tryd.underlying30 rfl SEB.out ?_)
          | (with_reducible refine wpList_store_row (o := ⟨none, .store _ (.tmp 6) _, _, _, _, _⟩) rfl 30 _ _ rfl w.heap.size RB rfl rfl 30 ZU HA6.out SEB.out SLB.out SOB.out ?_))
        have h5 : Below w.heap.size w (w6.setRow w.heap.size RB) := ybelow_row HB6.out (Nat.le_refl _) _
        refine bodyPost_ret (v := .tuple #[.agg RB, .int .i64 0]) (results_cell_two Tryd.results20 _ _ w.heap.size 30 RB (0, 0) _ rfl (setRow_heap _ w.heap.size _ RB _ _ HA6.out) Tryd.underlying30 rfl SEB.out _ (by simp)) rfl ⟨?_, h5⟩
        rw [HC.out]
        rw [← HRB.out]
      · have kb2' : (bx % 2 == 1) = false := by simp [kb2]
        have PB := HNPB.out (fun h => kb2 h.2)
        clear kb1 kb2
        have HC := Lib.hid (HC5.out PA PB)
        clear PA PB HC1 HC2 HC3 HC4 HC5
        go_wp2_with (first
          | (with_reducible refine wpList_build_run (o := ⟨some 57, _, _, _, _, _⟩) rfl 30 _ rfl #[] (by simp) (.agg ZU) (HBN.out _) ?_)
          | (with_reducible refine wpList_store_row (o := ⟨none, .store _ (.tmp 6) _, _, _, _, _⟩) rfl 30 _ _ rfl w.heap.size ZU rfl rfl 30 ZU HA6.out SEZ.out rfl SOZ.out ?_))
        have h5 : Below w.heap.size w (w6.setRow w.heap.size ZU) := ybelow_row HB6.out (Nat.le_refl _) _
        refine bodyPost_ret (v := .tuple #[.agg ZU, .int .i64 8]) (results_cell_two Tryd.results20 _ _ w.heap.size 30 ZU (0, 0) _ rfl (setRow_heap _ w.heap.size _ ZU _ _ HA6.out) Tryd.underlying30 rfl SEZ.out _ (by simp)) rfl ⟨?_, h5⟩
        rw [HC.out]
        rw [← HZU.out]
    · have kb1' : (bc == 0) = false := by simp [kb1]
      have PB := HNPB.out (fun h => kb1 h.1)
      clear kb1
      have HC := Lib.hid (HC5.out PA PB)
      clear PA PB HC1 HC2 HC3 HC4 HC5
      go_wp2_with (first
        | (with_reducible refine wpList_build_run (o := ⟨some 57, _, _, _, _, _⟩) rfl 30 _ rfl #[] (by simp) (.agg ZU) (HBN.out _) ?_)
        | (with_reducible refine wpList_store_row (o := ⟨none, .store _ (.tmp 6) _, _, _, _, _⟩) rfl 30 _ _ rfl w.heap.size ZU rfl rfl 30 ZU HA6.out SEZ.out rfl SOZ.out ?_))
      have h5 : Below w.heap.size w (w6.setRow w.heap.size ZU) := ybelow_row HB6.out (Nat.le_refl _) _
      refine bodyPost_ret (v := .tuple #[.agg ZU, .int .i64 8]) (results_cell_two Tryd.results20 _ _ w.heap.size 30 ZU (0, 0) _ rfl (setRow_heap _ w.heap.size _ ZU _ _ HA6.out) Tryd.underlying30 rfl SEZ.out _ (by simp)) rfl ⟨?_, h5⟩
      rw [HC.out]
      rw [← HZU.out]
end Go.Proofs.YtocdjaenhllemaaDoor
