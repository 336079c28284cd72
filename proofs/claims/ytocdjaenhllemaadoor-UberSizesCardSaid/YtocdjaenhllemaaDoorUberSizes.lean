/-
  'UberSizes' returns true at every input, and each argument reads behind the call as it read before. Conditions: the package-level variable that the row lists starts as the program's text lays it (the card ties that).
-/
import Derived.Test.YtocdjaenhllemaaDoorLaid
import Derived.Test.YtocdjaenhllemaaDoorCards
import Derived.Test.YtocdjaenhllemaaDoorTie
import Derived.Test.YtocdjaenhllemaaDoorUk
import Derived.Test.YtocdjaenhllemaaDoorUh
namespace Go.Proofs.YtocdjaenhllemaaDoor.uberSizes
open Go.ChangeShapes Go.WideShapes Go.ChangeAt Go.RowKit
set_option linter.unusedVariables false

theorem may_grows (q : PtrV) (n m : Int) (h : mayB q n = true) (hm : n ≤ m) : mayB q m = true := by
  unfold mayB at h ⊢
  split at h
  · rename_i h0
    rw [if_pos h0]
    exact h
  · rename_i h0
    rw [if_neg h0]
    simp only [Bool.and_eq_true, decide_eq_true_eq] at h ⊢
    exact ⟨⟨h.1.1, by omega⟩, h.2⟩
theorem may_more (u : UbV) (t s : Int) (ht hs) (h : mayU u = true) (h1 : u.tx ≤ t) (h2 : u.sz ≤ s) (h3 : s ≤ 4096) : mayU ⟨t, s, u.q, ht, hs⟩ = true := by
  have h0 := u.t0.1
  unfold mayU at h ⊢
  simp only [Bool.and_eq_true, decide_eq_true_eq] at h ⊢
  exact ⟨⟨⟨by omega, by omega⟩, h3⟩, may_grows _ _ _ h.2 h2⟩
theorem putU_same (k : List Int) (u v : UbV) : decide (putU k u = putU k v) = decide (u = v) := by
  apply decide_eq_decide.2
  constructor
  · intro h
    have := congrArg (List.take 480) h
    rw [putU_take, putU_take] at this
    exact plainB_inj this
  · intro h
    rw [h]
theorem wrap_over (t m : Int) (h0 : 0 ≤ m) (h1 : m ≤ 65535) (t0 : 0 ≤ t) (t1 : t ≤ 18446744073709551615) (h : 18446744073709551615 < t + m) : IntKind.u64.wrap (t + m) = t + m - 18446744073709551616 := by
  have e : IntKind.u64.wrap (t + m) = (t + m) % 18446744073709551616 := by
    simp [IntKind.wrap, IntKind.signed, IntKind.bits]
  rw [e]
  omega

set_option maxRecDepth 100000 in
set_option maxHeartbeats 1600000 in
theorem walk (w : World) (u0 : UbV) (z1 : Int) (za1 : 0 ≤ z1) (zb1 : z1 ≤ 65535) (hK : KT w) :
    Calls Tryd.prog 8 #[.agg (ubRow u0).toArray, .int .u16 z1] w fun e w' => e = .returned (.bool true) ∧ Below w.heap.size w w' := by
  have HAL := Lib.hid (fun (W : World) (hb : Below w.heap.size w W) => alive10_any W (hK.below hb hK.pos))
  have HKT := Lib.hid hK
  have hb1 := (Below.refl w.heap.size w).alloc (Nat.le_refl _) (.cells (ubRow u0).toArray 30)
  have hA1 := heap_alloc_new w (.cells (ubRow u0).toArray 30)
  have HCK := Lib.hid (fun W => ucheck_any u0 W)
  have HCE := Lib.hid (show checkU u0 = if mayU u0 then 0 else 4 from rfl)
  have SEA := Lib.hid (size_ubA u0)
  have SE := Lib.hid (size_ub u0)
  have SO := Lib.hid (ubRow_one u0)
  have SLZ := Lib.hid (show (ubRow zeroUb).toArray.size = (ubRow u0).toArray.size by simp [ubRow_length])
  have hz := zero_ub
  have HAT := Lib.hid (fun (W : World) (T : Nat) (h : W.heap[T]? = some (.cells (ubRow u0).toArray 30 (0, 0))) => And.intro (range_of_row h) (ub_at h).1)
  have HUR := Lib.hid (show ubRow u0 = urow u0.tx u0.sz (ptrRow u0.q) from rfl)
  have HB1 := Lib.hid hb1
  have HA1 := Lib.hid hA1
  have HTX := Lib.hid u0.t0
  have HMZ := Lib.hid (show mayU u0 = true → 16 ≤ u0.sz ∧ u0.sz ≤ 4096 from fun h => by
    unfold mayU at h
    simp only [Bool.and_eq_true, decide_eq_true_eq] at h
    exact ⟨h.1.1.2, h.1.2⟩)
  have HM0 := Lib.hid (And.intro za1 zb1)
  clear hb1 hA1 hK
  obtain ⟨m, hm⟩ : ∃ m, z1 = m := ⟨_, rfl⟩
  rw [hm] at za1 zb1 HM0 ⊢
  clear hm
  obtain ⟨UL, hUL⟩ : ∃ UL, ubRow u0 = UL := ⟨_, rfl⟩
  rw [hUL] at HB1 HA1 HCK SEA SE SO SLZ HAT HUR ⊢
  generalize hw1 : w.alloc (.cells UL.toArray 30) = w1 at *
  generalize (ubRow zeroUb).toArray = ZU at *
  by_cases hmu : mayU u0 = true
  · have HMU := Lib.hid hmu
    rw [show checkU u0 = 0 by rw [HCE.out, if_pos hmu]] at HCK
    have hzb := HMZ.out hmu
    obtain ⟨QL, hQL⟩ : ∃ QL, ptrRow u0.q = QL := ⟨_, rfl⟩
    have HQL := Lib.hid hQL
    obtain ⟨tx, htx⟩ : ∃ tx, u0.tx = tx := ⟨_, rfl⟩
    obtain ⟨sz, hsz'⟩ : ∃ sz, u0.sz = sz := ⟨_, rfl⟩
    have HTT := Lib.hid (And.intro htx hsz')
    rw [hQL, htx, hsz'] at HUR
    rw [htx] at HTX HAT
    rw [hsz'] at hzb
    clear hQL hmu HMZ HCE
    have hwm : IntKind.u32.wrap m = m := IntWalk.u32_in _ (by omega)
    have hwm2 : IntKind.u64.wrap m = m := IntWalk.u64_in _ (by omega)
    have hws : IntKind.u32.wrap (sz + m) = sz + m := IntWalk.u32_in _ (by omega)
    go_enter Tryd.func8, Tryd.ntmps8
    go_upto_region 1 with fail
    try rw [hw1]
    clear hw1
    go_wp2_with fail
    refine (HAL.out w1 HB1.out).mono ?_
    rintro e w2 ⟨rfl, hb2⟩
    have HB2 := Lib.hid (HB1.out.trans (hb2.mono HB1.out.size))
    have HA2 := Lib.hid ((hb2.block w.heap.size (Array.getElem?_eq_some_iff.1 HA1.out).1).trans HA1.out)
    clear hb2 HA1 HB1 HAL
    go_wp2_with (first
      | (with_reducible refine wpList_load_row (o := ⟨some 13, _, _, _, _, _⟩) rfl 30 _ rfl w.heap.size rfl 30 UL.toArray (0, 0) _ HA2.out Tryd.underlying30 rfl SEA.out ?_))
    refine (HCK.out w2).mono ?_
    rintro e w3 ⟨rfl, hb3⟩
    have HB3 := Lib.hid (HB2.out.trans (hb3.mono HB2.out.size))
    have HA3 := Lib.hid ((hb3.block w.heap.size (Array.getElem?_eq_some_iff.1 HA2.out).1).trans HA2.out)
    have HH := Lib.hid (heap_alloc_new w3 (.cells ZU 30))
    clear hb3 HA2 HB2 HCK
    go_upto_region 7 with (first
      | (with_reducible refine wpList_load_row (o := ⟨some 19, _, _, _, _, _⟩) rfl 30 _ rfl w.heap.size rfl 30 UL.toArray (0, 0) _ HA3.out Tryd.underlying30 rfl SEA.out ?_)
      | (with_reducible refine wpList_load_row (o := ⟨some 19, _, _, _, _, _⟩) rfl 30 _ rfl w.heap.size rfl 30 UL.toArray (0, 0) _ (show (w3.alloc (.cells ZU 30)).heap[w.heap.size]? = _ from ?hx) Tryd.underlying30 rfl SEA.out ?_)
      | (with_reducible refine wpList_store_row (o := ⟨none, .store _ (.tmp 6) _, _, _, _, _⟩) rfl 30 _ _ rfl w3.heap.size UL.toArray rfl rfl 30 ZU HH.out SEA.out SLZ.out SO.out ?_))
    have h5 := setRow_heap (w3.alloc (.cells ZU 30)) w3.heap.size _ UL.toArray _ _ HH.out
    have hb5 : Below w3.heap.size w3 ((w3.alloc (.cells ZU 30)).setRow w3.heap.size UL.toArray) := ybelow_row ((Below.refl w3.heap.size w3).alloc (Nat.le_refl _) _) (Nat.le_refl _) _
    generalize (w3.alloc (.cells ZU 30)).setRow w3.heap.size UL.toArray = w5 at *
    have HB5 := Lib.hid (HB3.out.trans (hb5.mono HB3.out.size))
    have HA5 := Lib.hid ((hb5.block w.heap.size (Array.getElem?_eq_some_iff.1 HA3.out).1).trans HA3.out)
    have HVW := Lib.hid (show w.heap.size ≤ w3.heap.size from HB3.out.size)
    have HVN := Lib.hid (show w.heap.size ≠ w3.heap.size by have := (Array.getElem?_eq_some_iff.1 HA3.out).1; omega)
    obtain ⟨V, hV⟩ : ∃ V, w3.heap.size = V := ⟨_, rfl⟩
    rw [hV] at h5 HVW HVN ⊢
    rw [HUR.out] at h5
    have H5 := Lib.hid h5
    clear h5 hb5 hV HH HA3 HB3 hz
    have HZB := Lib.hid hzb
    have d1 : w5.cell? ⟨V, 1, none⟩ = some (.int .u32 sz) := cell_of_row _ _ _ _ _ _ H5.out
    have f1 : w5.frozen? ⟨V, 1, none⟩ = false := frozen_of_row _ _ _ _ _ H5.out
    go_upto_region 8 with fail
    obtain ⟨szn, hszn⟩ : ∃ szn, (if sz + m < 4096 then sz + m else 4096) = szn := ⟨_, rfl⟩
    rw [hszn]
    have hvz : 0 ≤ szn ∧ szn ≤ 4294967295 := by rw [← hszn]; split <;> omega
    have hzle : u0.sz ≤ szn := by rw [← hszn, HTT.out.2]; split <;> omega
    have hz4 : szn ≤ 4096 := by rw [← hszn]; split <;> omega
    clear hszn
    have hG6 := heap_setCell_same w5 V 1 _ _ (.int .u32 szn) H5.out
    rw [show (urow tx sz QL).toArray.setIfInBounds 1 (.int .u32 szn) = (urow tx szn QL).toArray by simp [urow]] at hG6
    have hb6 : Below V w5 (w5.setCell ⟨V, 1, none⟩ (.int .u32 szn)) := ((Below.refl w5.heap.size w5).mono (Nat.le_of_lt (Array.getElem?_eq_some_iff.1 H5.out).1)).setCell (show V ≤ (⟨V, 1, none⟩ : Addr).block from Nat.le_refl _) _
    generalize w5.setCell ⟨V, 1, none⟩ (.int .u32 szn) = w6 at *
    have HB6 := Lib.hid (HB5.out.trans (hb6.mono HVW.out))
    have HA6 := Lib.hid ((hb6.block w.heap.size (Nat.lt_of_le_of_ne HVW.out HVN.out)).trans HA5.out)
    have H6 := Lib.hid hG6
    have d0 : w6.cell? ⟨V, 0, none⟩ = some (.int .u64 tx) := cell_of_row _ _ _ _ _ _ hG6
    have f0 : w6.frozen? ⟨V, 0, none⟩ = false := frozen_of_row _ _ _ _ _ hG6
    clear hG6 hb6 d1 f1 H5 HB5 HA5
    by_cases hov : 18446744073709551615 < tx + m
    · have hlt : decide (tx + m - 18446744073709551616 < tx) = true := decide_eq_true (by omega)
      have hwt : IntKind.u64.wrap (tx + m) = tx + m - 18446744073709551616 := wrap_over tx m HM0.out.1 HM0.out.2 HTX.out.1 HTX.out.2 hov
      clear hov
      go_upto_region 9 with fail
      have hG7 := heap_setCell_same w6 V 0 _ _ (.int .u64 (tx + m - 18446744073709551616)) H6.out
      rw [show (urow tx szn QL).toArray.setIfInBounds 0 (.int .u64 (tx + m - 18446744073709551616)) = (urow (tx + m - 18446744073709551616) szn QL).toArray by simp [urow]] at hG7
      have hb7 : Below V w6 (w6.setCell ⟨V, 0, none⟩ (.int .u64 (tx + m - 18446744073709551616))) := ((Below.refl w6.heap.size w6).mono (Nat.le_of_lt (Array.getElem?_eq_some_iff.1 H6.out).1)).setCell (show V ≤ (⟨V, 0, none⟩ : Addr).block from Nat.le_refl _) _
      generalize w6.setCell ⟨V, 0, none⟩ (.int .u64 (tx + m - 18446744073709551616)) = w7 at *
      have HB7 := Lib.hid (HB6.out.trans (hb7.mono HVW.out))
      have hA7 := (hb7.block w.heap.size (Nat.lt_of_le_of_ne HVW.out HVN.out)).trans HA6.out
      have HA7 := Lib.hid hA7
      have H7 := Lib.hid hG7
      have g0 : w7.cell? ⟨V, 0, none⟩ = some (.int .u64 (tx + m - 18446744073709551616)) := cell_of_row _ _ _ _ _ _ hG7
      have g1 := (HAT.out w7 w.heap.size hA7).2
      clear hG7 hb7 hA7 d0 f0 H6 HB6 HA6
      go_wp2_with fail
      go_ret
      exact ⟨rfl, HB7.out⟩
    · have htx0 := HTX.out.1
      have hlt : decide (tx + m < tx) = false := decide_eq_false (by omega)
      have hwt : IntKind.u64.wrap (tx + m) = tx + m := IntWalk.u64_in _ (by omega)
      have hvt : 0 ≤ tx + m ∧ tx + m ≤ 18446744073709551615 := by omega
      obtain ⟨vv, hvv⟩ : ∃ vv : UbV, vv = ⟨tx + m, szn, u0.q, hvt, hvz⟩ := ⟨_, rfl⟩
      have HMV := Lib.hid (show mayU vv = true from by rw [hvv]; exact may_more u0 (tx + m) szn _ _ HMU.out (by have := HTT.out.1; have := HM0.out.1; omega) hzle hz4)
      have HVR := Lib.hid (show urow (tx + m) szn QL = ubRow vv by rw [hvv, ← HQL.out]; rfl)
      clear hov hvv hvt hvz hzle hz4 htx0
      go_upto_region 9 with fail
      have hG7 := heap_setCell_same w6 V 0 _ _ (.int .u64 (tx + m)) H6.out
      rw [show (urow tx szn QL).toArray.setIfInBounds 0 (.int .u64 (tx + m)) = (urow (tx + m) szn QL).toArray by simp [urow]] at hG7
      have hb7 : Below V w6 (w6.setCell ⟨V, 0, none⟩ (.int .u64 (tx + m))) := ((Below.refl w6.heap.size w6).mono (Nat.le_of_lt (Array.getElem?_eq_some_iff.1 H6.out).1)).setCell (show V ≤ (⟨V, 0, none⟩ : Addr).block from Nat.le_refl _) _
      generalize w6.setCell ⟨V, 0, none⟩ (.int .u64 (tx + m)) = w7 at *
      have HB7 := Lib.hid (HB6.out.trans (hb7.mono HVW.out))
      have hA7 := (hb7.block w.heap.size (Nat.lt_of_le_of_ne HVW.out HVN.out)).trans HA6.out
      have HA7 := Lib.hid hA7
      have H7 := Lib.hid hG7
      have g0 : w7.cell? ⟨V, 0, none⟩ = some (.int .u64 (tx + m)) := cell_of_row _ _ _ _ _ _ hG7
      have g1 := (HAT.out w7 w.heap.size hA7).2
      clear hG7 hb7 hA7 d0 f0 H6 HB6 HA6
      rw [HVR.out] at H7
      clear HVR
      go_upto_region 11 with fail
      clear g0 g1 hlt hwt
      have hcv := conv_const w7 #[.int .u8 107, .int .u8 101, .int .u8 121] 3 3
      have HBK := Lib.hid ((Below.refl w7.heap.size w7).alloc (Nat.le_refl _) (.cells #[.int .u8 107, .int .u8 101, .int .u8 121] 5 (3, 4)))
      have HKB := Lib.hid (bs_key w7)
      have HA8 := Lib.hid ((HBK.out.block w.heap.size (Array.getElem?_eq_some_iff.1 HA7.out).1).trans HA7.out)
      have H8 := Lib.hid ((HBK.out.block V (Array.getElem?_eq_some_iff.1 H7.out).1).trans H7.out)
      have HB8 := Lib.hid (HB7.out.trans (HBK.out.mono HB7.out.size))
      have HP8 := Lib.hid (uput_ok keyB10 (.slice (some ⟨w7.heap.size, 0, none⟩) 3 3) u0 _ (HKT.out.below HB8.out HKT.out.pos) HKB.out (room_of _ _ _ (by decide) (by decide)) (by decide) HMU.out)
      clear HA7 H7 HB7 HBK HKB
      rw [hUL] at HP8
      go_wp2_with (first
        | (with_reducible refine wpList_load_row (o := ⟨some 41, _, _, _, _, _⟩) rfl 30 _ rfl w.heap.size rfl 30 UL.toArray (0, 0) _ HA8.out Tryd.underlying30 rfl SEA.out ?_))
      refine HP8.out.mono ?_
      rintro e w9 ⟨a9, c9, rfl, _, _, hs9, hb9⟩
      clear hcv
      have HB9 := Lib.hid (HB8.out.trans (hb9.mono HB8.out.size))
      have HA9 := Lib.hid ((hb9.block w.heap.size (Array.getElem?_eq_some_iff.1 HA8.out).1).trans HA8.out)
      have H9 := Lib.hid ((hb9.block V (Array.getElem?_eq_some_iff.1 H8.out).1).trans H8.out)
      have HS9 := Lib.hid hs9
      clear hb9 hs9 HP8 HB8 HA8 H8
      go_upto_region 12 with fail
      try generalize World.alloc w7 _ = w8 at *
      have hcv := conv_const w9 #[.int .u8 107, .int .u8 101, .int .u8 121] 3 3
      have HBK := Lib.hid ((Below.refl w9.heap.size w9).alloc (Nat.le_refl _) (.cells #[.int .u8 107, .int .u8 101, .int .u8 121] 5 (3, 4)))
      have HKB := Lib.hid (bs_key w9)
      have HA10 := Lib.hid ((HBK.out.block w.heap.size (Array.getElem?_eq_some_iff.1 HA9.out).1).trans HA9.out)
      have H10 := Lib.hid ((HBK.out.block V (Array.getElem?_eq_some_iff.1 H9.out).1).trans H9.out)
      have HB10 := Lib.hid (HB9.out.trans (HBK.out.mono HB9.out.size))
      have HS10 := Lib.hid (HS9.out.kept HBK.out)
      have HP10 := Lib.hid (uput_ok keyB10 (.slice (some ⟨w9.heap.size, 0, none⟩) 3 3) vv _ (HKT.out.below HB10.out HKT.out.pos) HKB.out (room_of _ _ _ (by decide) (by decide)) (by decide) HMV.out)
      have SEV := Lib.hid (size_ubA vv)
      clear HA9 H9 HB9 HBK HKB HS9
      go_wp2_with (first
        | (with_reducible refine wpList_load_row (o := ⟨some 48, _, _, _, _, _⟩) rfl 30 _ rfl V rfl 30 (ubRow vv).toArray (0, 0) _ H10.out Tryd.underlying30 rfl SEV.out ?_))
      refine HP10.out.mono ?_
      rintro e w11 ⟨a11, c11, rfl, _, _, hs11, hb11⟩
      clear hcv
      have HB11 := Lib.hid (HB10.out.trans (hb11.mono HB10.out.size))
      have hA11 := (hb11.block w.heap.size (Array.getElem?_eq_some_iff.1 HA10.out).1).trans HA10.out
      have h11 := (hb11.block V (Array.getElem?_eq_some_iff.1 H10.out).1).trans H10.out
      have hsa := HS10.out.kept hb11
      obtain ⟨d, hd⟩ : ∃ d, decide (u0 = vv) = d := ⟨_, rfl⟩
      have HSM := Lib.hid (show ∀ p : BelowBy w11, Calls Tryd.prog 12 #[.slice a9 512 c9, .slice a11 512 c11] p.now (fun e w' => e = .returned (.bool d) ∧ w' = p.now) from fun p => by
        rw [← hd, ← putU_same]
        exact same_any p.now _ _ _ _ (hsa.kept p.bel) (hs11.kept p.bel))
      have heq := eq_ub u0 vv
      rw [hd, hUL] at heq
      have HRA := Lib.hid (by_range (HAT.out w11 _ hA11).1)
      have HRV := Lib.hid (by_range (range_of_row h11))
      have SV := Lib.hid (size_ub vv)
      have HCV := Lib.hid (fun W => ucheck_any vv W)
      rw [show checkU vv = 0 by unfold checkU; rw [if_pos HMV.out]] at HCV
      clear hb11 hA11 h11 hsa hs11 hd HP10 HA10 H10 HB10 HS10 HMV
      generalize ubRow vv = VL at *
      cases d <;>
      · go_upto_region 13 with fail
        refine wp_region_below (by kernel_rfl) (by kernel_rfl) ?_
        repeat (first
          | (with_reducible refine quiet_load_row (o := ⟨some 52, _, _, _, _, _⟩) (by kernel_rfl) 30 _ rfl V 0 rfl VL _ HRV.out Tryd.underlying30 rfl SV.out ?_
             simp only [Act.put, List.setIfInBounds_toArray, List.set_cons_zero, List.set_cons_succ])
          | (with_reducible refine quiet_load_row (o := ⟨some 67, _, _, _, _, _⟩) (by kernel_rfl) 30 _ rfl w.heap.size 0 rfl UL _ HRA.out Tryd.underlying30 rfl SE.out ?_
             simp only [Act.put, List.setIfInBounds_toArray, List.set_cons_zero, List.set_cons_succ])
          | (with_reducible refine quiet_load_row (o := ⟨some 68, _, _, _, _, _⟩) (by kernel_rfl) 30 _ rfl V 0 rfl VL _ HRV.out Tryd.underlying30 rfl SV.out ?_
             simp only [Act.put, List.setIfInBounds_toArray, List.set_cons_zero, List.set_cons_succ])
          | (go_big_quiet_step (first
              | (go_at_call 12; exact calls_below_same (HSM.out _))
              | (go_at_call 13; exact calls_below (HCV.out _)))))
        refine wpQuiet_nil ?_
        intro _ hw'
        obtain ⟨p, hw''⟩ := hw'
        subst hw''
        go_wp2_with fail
        go_ret
        exact ⟨rfl, HB11.out.trans (p.bel.mono HB11.out.size)⟩
  · rw [show checkU u0 = 4 by rw [HCE.out, if_neg hmu]] at HCK
    clear hmu HMZ HCE
    go_enter Tryd.func8, Tryd.ntmps8
    go_upto_region 1 with fail
    try rw [hw1]
    clear hw1
    go_wp2_with fail
    refine (HAL.out w1 HB1.out).mono ?_
    rintro e w2 ⟨rfl, hb2⟩
    have HB2 := Lib.hid (HB1.out.trans (hb2.mono HB1.out.size))
    have HA2 := Lib.hid ((hb2.block w.heap.size (Array.getElem?_eq_some_iff.1 HA1.out).1).trans HA1.out)
    clear hb2 HA1 HB1 HAL
    go_wp2_with (first
      | (with_reducible refine wpList_load_row (o := ⟨some 13, _, _, _, _, _⟩) rfl 30 _ rfl w.heap.size rfl 30 UL.toArray (0, 0) _ HA2.out Tryd.underlying30 rfl SEA.out ?_))
    refine (HCK.out w2).mono ?_
    rintro e w3 ⟨rfl, hb3⟩
    have HB3 := Lib.hid (HB2.out.trans (hb3.mono HB2.out.size))
    clear hb3 HA2 HB2 HCK
    go_wp2_with fail
    go_ret
    exact ⟨rfl, HB3.out⟩
set_option maxRecDepth 100000 in
theorem lifted (os : Os) (started : os.Started) (H : Type) (enc : TypeId × Value → H) :
    ReturnsInHanded {} Tryd.checked os 8 .any (fun w args => (Rows.uberSizesSpec.pre enc Tryd.prog Tryd.f8 [] false w args ∧ laidMetH Tryd.prog [("banyan/sha.roundNumbers", Rows.laid_banyan_sha_roundNumbers)] w) ∧ sizedMet enc Tryd.prog Tryd.f8 (OpenSpec.ofChange Rows.uberSizesSpec) false w args)
      (Rows.uberSizesSpec.post enc Tryd.prog Tryd.f8 false true false false) := by
  refine returnsInHanded_of_change_and (C := Tryd.checked) (X := fun w _ => laidMetH Tryd.prog [("banyan/sha.roundNumbers", Rows.laid_banyan_sha_roundNumbers)] w) (fun _ _ _ hh h => h.of_heap hh) own2 started (by kernel_rfl) Tryd.func8
    (ChangeSpec.witness_shaped (enc := enc) (C := Tryd.checked) (os := os) (X := fun w _ => laidMetH Tryd.prog [("banyan/sha.roundNumbers", Rows.laid_banyan_sha_roundNumbers)] w) false (World.doorLaid Tryd.prog 400 os) #[.agg (#[.int .u64 0, .int .u32 0, .int .u32 0, .int .u64 0] ++ Array.replicate 32 (.int .u8 0)), .int .u16 0] 8 rfl (World.shaped_of_RefB (by kernel_rfl) (by kernel_rfl)) (by kernel_rfl) (by kernel_rfl) (by kernel_rfl) (door_met os _)) ?_
  intro W base args ds gs before hval0 hW _ hsz0 hL _
  have hval : ∀ (j : Nat) t v, Tryd.f8.params[j]? = some t → args[j]? = some v → Value.okWide Tryd.prog W .any base t v := hval0
  have hsz : (DataW.weightsEach Tryd.prog (Tryd.f8.params.toList ++ Rows.uberSizesSpec.plain.varTypes Tryd.prog) (ds ++ gs)).all (· ≤ reachBytes) = true := hsz0
  clear hsz0
  have hW' := hW
  obtain ⟨p, q, hA0, hV, rfl, hfz, hnd⟩ := hW
  have hA : DataW.TrodAll enc Tryd.prog W 0 (fun _ => true) true Tryd.f8.params.toList args.toList ds p := hA0
  rw [Tryd.params8] at hA hval hsz
  obtain ⟨v0, vs0, d0, ds0, p0, q0, hargs, rfl, rfl, h0, r0⟩ := trodAll_cons hA
  obtain ⟨v1, vs1, d1, ds1, p1, q1, rfl, rfl, rfl, h1, r1⟩ := trodAll_cons r0
  obtain ⟨rfl, rfl, rfl⟩ := trodAll_nil r1
  obtain rfl : args = #[v0, v1] := by cases args; simp_all
  obtain ⟨rfl, rfl⟩ := trodVars_none hV
  have k0 := h0
  have lt0 : ∀ x ∈ p0, x.block < W.heap.size := by obtain ⟨m, hm⟩ := k0; exact DataW.trod_lt m _ _ _ hm
  have k1 := h1
  have lt1 : ∀ x ∈ p1, x.block < W.heap.size := by obtain ⟨m, hm⟩ := k1; exact DataW.trod_lt m _ _ _ hm
  obtain ⟨u0, rfl⟩ := par_ub (j := 0) (hval 0 30 v0 rfl rfl) h0 hsz rfl rfl
  obtain ⟨z1, rfl, za1, zb1⟩ := par_int (j := 1) .u16 _ _ Tryd.underlying47 wf_u16 (hval 1 47 v1 rfl rfl) h1 hsz rfl rfl
  have hK := of_laid hL
  clear hA0 hval0
  refine (walk W u0 z1 za1 zb1 hK).mono fun e W' ⟨he, bel⟩ => ?_
  subst he
  exact ⟨_, rfl, _, _, _, [], _, [], hW', trodAll_mk1 (shut_bool Tryd.underlying4 _), (trodAll_cons_mk (Below.trod laidOut2 (by kernel_rfl) (of_decide_eq_true (by kernel_rfl)) k0 bel lt0) (trodAll_cons_mk (Below.trod laidOut2 (by kernel_rfl) (of_decide_eq_true (by kernel_rfl)) k1 bel lt1) trodAll_mk0)), rfl, bel.frame _, fun h => by cases h⟩

theorem over : Rows.UberSizesSaid :=
  OpenClaim.holds_of_wide 8 Tryd.f8 rfl rfl rfl rfl rfl rfl rfl ⟨rfl, rfl, rfl, rfl, rfl⟩ rfl rfl rfl rfl rfl (by kernel_rfl) Tryd.func8 (by kernel_rfl)
    (of_decide_eq_true (by kernel_rfl)) (by unfold Func.isWrapper; first | (rw [if_pos (by decide +kernel)]; kernel_rfl) | (rw [if_neg (by decide +kernel)]; exact ⟨rfl, rfl⟩))
    (fun os started H enc _ => lifted os started H enc)

/-- The statement. -/
theorem proved : Rows.UberSizesCardSaid :=
  Claim7.holds_tied_plain_at .later [] [.data] true (true, "c9a66c9fc03c74372b55c74d61d048c4ab6c3d06d9801e353e7a9c1603144487") false
    over (fun _ h => by cases h) (by kernel_rfl) (fun _ h => by cases h) uberSizes_row_tie rfl ⟨rfl, rfl⟩ (by kernel_rfl) rfl
    (fun f fn hf hfn => by
      obtain rfl : f = 8 := Option.some.inj ((show Tryd.prog.funcNamed "banyan/banyanlaw10.UberSizes" = some 8 by kernel_rfl).symm.trans hf) |>.symm
      obtain rfl : fn = Tryd.f8 := (Option.some.inj (Tryd.func8.symm.trans hfn)).symm
      exact ⟨by kernel_rfl, fun j t ht => by
        rw [Tryd.params8] at ht
        have hm : t ∈ [30, 47] := by simpa using Array.mem_of_getElem? ht
        have hall : ([30, 47].all fun u => !Tryd.prog.wantsStandIn u) = true := by kernel_rfl
        exact (show Tryd.prog.wantsStandIn t = false by simpa using List.all_eq_true.1 hall t hm)⟩)
    (by kernel_rfl)
#print axioms proved
end Go.Proofs.YtocdjaenhllemaaDoor.uberSizes
