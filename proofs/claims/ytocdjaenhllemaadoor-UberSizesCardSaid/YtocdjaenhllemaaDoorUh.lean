/-
  Ubers: the reference's Get.
-/
import Derived.Test.YtocdjaenhllemaaDoorUr
import Derived.Test.YtocdjaenhllemaaDoorBq
import Derived.Test.YtocdjaenhllemaaDoorBy
namespace Go.Proofs.YtocdjaenhllemaaDoor
set_option maxRecDepth 4000
open Go.ChangeShapes Go.WideShapes Go.ChangeAt Go.RowKit

set_option maxRecDepth 100000 in
set_option maxHeartbeats 1600000 in
theorem ruget_size (v : Value) (a : Option Addr) (n c : Nat) (w : World) (hn : n ≠ 512) (h63 : n ≤ 140737488351232) :
    Calls Tryd.prog 18 #[v, .slice a n c] w fun e w' => e = .returned (.tuple #[.agg (ubRow zeroUb).toArray, .int .i64 2]) ∧ Below w.heap.size w w' := by
  have hz := zero_ub
  have HA := Lib.hid (heap_alloc_new w (.cells (ubRow zeroUb).toArray 30))
  have HB := Lib.hid ((Below.refl w.heap.size w).alloc (Nat.le_refl _) (.cells (ubRow zeroUb).toArray 30))
  have HBN := Lib.hid build_nou
  have SE := Lib.hid (size_ubA zeroUb)
  have SO := Lib.hid (ubRow_one zeroUb)
  have hne : ((n : Int) != 512) = true := by simp; omega
  have n0 : (0 : Int) ≤ (n : Int) := by omega
  have n1 : (n : Int) ≤ 140737488351232 := by omega
  clear hn h63
  generalize (ubRow zeroUb).toArray = ZU at *
  generalize hw1 : w.alloc (.cells ZU 30) = w1 at *
  go_enter Tryd.func18, Tryd.ntmps18
  go_upto_region 1 with fail
  try rw [hw1]
  clear hw1 hz
  go_wp2_with (first
    | (with_reducible refine wpList_build_run (o := ⟨some 16, _, _, _, _, _⟩) rfl 30 _ rfl #[] (by simp) (.agg ZU) (HBN.out _) ?_)
    | (with_reducible refine wpList_store_row (o := ⟨none, .store _ (.tmp 4) _, _, _, _, _⟩) rfl 30 _ _ rfl w.heap.size ZU rfl rfl 30 ZU HA.out SE.out rfl SO.out ?_))
  have h5 : Below w.heap.size w (w1.setRow w.heap.size ZU) := ybelow_row HB.out (Nat.le_refl _) _
  exact bodyPost_ret (v := .tuple #[.agg ZU, .int .i64 2]) (results_cell_two Tryd.results18 _ _ w.heap.size 30 ZU (0, 0) _ rfl (setRow_heap _ w.heap.size _ ZU _ _ HA.out) Tryd.underlying30 rfl SE.out _ (by simp)) rfl ⟨rfl, h5⟩

def urow (a b : Int) (cs : List Value) : List Value := .int .u64 a :: .int .u32 b :: cs
theorem ptrOf_take (l : List Int) (n : Nat) (h : 44 ≤ l.length) (hn : 44 ≤ n) (hb : Byt l) : ptrOf (l.take n) = ptrOf l := by
  obtain ⟨p1, p2, p3⟩ := ptrOf_parts l h hb
  obtain ⟨q1, q2, q3⟩ := ptrOf_parts (l.take n) (by rw [List.length_take]; omega) (byt_take8 l hb n)
  refine PtrV.same ?_ ?_ ?_
  · rw [← p1, ← q1, List.take_take, Nat.min_eq_left (by omega)]
  · rw [← p2, ← q2, List.drop_take, List.take_take, Nat.min_eq_left (by omega)]
  · rw [← p3, ← q3, List.drop_take, List.take_take, Nat.min_eq_left (by omega)]
theorem ubOf_take (l : List Int) (h : 480 ≤ l.length) (hb : Byt l) : ubOf (l.take 480) = ubOf l := by
  obtain ⟨p1, p2, p3⟩ := ubOf_parts l (by omega) hb
  obtain ⟨q1, q2, q3⟩ := ubOf_parts (l.take 480) (by rw [List.length_take]; omega) (byt_take8 l hb 480)
  refine UbV.same ?_ ?_ ?_
  · rw [← p1, ← q1, List.drop_take, List.take_take, Nat.min_eq_left (by omega)]
  · rw [← p2, ← q2, List.drop_take, List.take_take, Nat.min_eq_left (by omega)]
  · rw [← p3, ← q3, List.drop_take, ptrOf_take (l.drop 16) _ (by rw [List.length_drop]; omega) (by omega) (byt_drop8 l hb 16)]
theorem put_iff (k l : List Int) (u : UbV) (hm : macS k (l.take 480) = l.drop 480) : putU k u = l ↔ plainB u = l.take 480 := by
  constructor
  · intro h
    rw [← h, putU_take]
  · intro h
    unfold putU
    rw [h, hm, List.take_append_drop]
set_option maxRecDepth 100000 in
set_option maxHeartbeats 3200000 in
theorem ruget_full (k l : List Int) (v : Value) (a : Option Addr) (c : Nat) (w : World) (hv : BS w v k) (hr : Room v) (hn : k.length ≤ 900000) (hl : BS w (.slice a 512 c) l) (hll : l.length = 512) (hc : 512 ≤ c) :
    Calls Tryd.prog 18 #[v, .slice a 512 c] w fun e w' => e = .returned (.tuple #[.agg (ubRow (getU k l).1).toArray, .int .i64 (getU k l).2]) ∧ Below w.heap.size w w' := by
  have hz := zero_ub
  have HA := Lib.hid (heap_alloc_new w (.cells (ubRow zeroUb).toArray 30))
  have HB := Lib.hid ((Below.refl w.heap.size w).alloc (Nat.le_refl _) (.cells (ubRow zeroUb).toArray 30))
  have HT := Lib.hid (show w.heap.size < (w.alloc (.cells (ubRow zeroUb).toArray 30)).heap.size by simp)
  have HBN := Lib.hid build_nou
  have SEZ := Lib.hid (size_ubA zeroUb)
  have SOZ := Lib.hid (ubRow_one zeroUb)
  have hby := hl.byt
  obtain ⟨a1, _, _, e1, b1⟩ := slice_cut w a 512 c 0 480 l hl hll (by decide) (by decide) hc
  have e1 := e1 rfl
  obtain ⟨a2, _, e2, _, b2⟩ := slice_cut w a 512 c 480 512 l hl hll (by decide) (by decide) hc
  have e2 := e2 rfl
  obtain ⟨a4, _, e4, _, b4⟩ := slice_cut w a 512 c 4 512 l hl hll (by decide) (by decide) hc
  have e4 := e4 rfl
  have hX : l.drop 480 = (l.drop 480).take 32 := (List.take_of_length_le (by rw [List.length_drop]; omega)).symm
  have hX4 : l.drop 4 = (l.drop 4).take 508 := (List.take_of_length_le (by rw [List.length_drop]; omega)).symm
  simp only [Nat.sub_zero, List.drop_zero] at e1 b1
  rw [show (512 - 480 : Nat) = 32 from rfl, ← hX] at b2
  rw [show (512 - 480 : Nat) = 32 from rfl] at e2
  rw [show (512 - 4 : Nat) = 508 from rfl, ← hX4] at b4
  rw [show (512 - 4 : Nat) = 508 from rfl] at e4
  rw [show ((480 : Nat) : Int) = 480 from rfl] at e1 e2
  rw [show ((4 : Nat) : Int) = 4 from rfl] at e4
  have hU := ubOf_take l (by omega) hby
  obtain ⟨p1, p2, p3⟩ := ubOf_parts l (by omega) hby
  have HM1 := Lib.hid (show numA 8 (l.drop 4) = ((ubOf l).tx, 0, l.drop 12) by rw [show numA 8 (l.drop 4) = _ from numA_in8 8 (l.drop 4) (by rw [List.length_drop]; omega) (by omega), p1, List.drop_drop])
  have HM2 := Lib.hid (show numA 4 (l.drop 12) = ((ubOf l).sz, 0, l.drop 16) by rw [show numA 4 (l.drop 12) = _ from numA_in8 4 (l.drop 12) (by rw [List.length_drop]; omega) (by omega), p2, List.drop_drop])
  have HM3 := Lib.hid (show getA (l.drop 16) = ((ubOf l).q, 0, l.drop 60) by unfold getA; rw [if_neg (by rw [List.length_drop]; omega), p3, List.drop_drop])
  have hxl : (l.drop 480).length = 32 := by rw [List.length_drop]; omega
  have hyl : (l.take 480).length = 480 := by rw [List.length_take]; omega
  have HRM := Lib.hid (fun (W : World) (hb : Below w.heap.size w W) => rmac_any k (l.take 480) v (.slice a1 480 c) W (hv.kept hb) hr (b1.kept hb) hn (by omega))
  have HML := Lib.hid (And.intro (macS_length k (l.take 480)) (macS_byt k (l.take 480)))
  have HBX := Lib.hid (fun (W : World) (hb : Below w.heap.size w W) => b2.kept hb)
  have HBL := Lib.hid (fun (W : World) (hb : Below w.heap.size w W) => hl.kept hb)
  have HB4s := Lib.hid (fun (W : World) (hb : Below w.heap.size w W) => b4.kept hb)
  have HRR := Lib.hid (show ∀ (W : World) (R : Nat), Below w.heap.size w W → W.heap[R]? = some (.cells #[.slice a4 508 (c - 4)] 63 (0, 0)) → RR W 63 R a4 508 (c - 4) (l.drop 4) from fun W R hb hR => ⟨hR, b4.kept hb, by rw [List.length_drop]; omega, by omega, by omega⟩)
  have HPO := Lib.hid (fun (W : World) (hb : Below w.heap.size w W) hm => ruput_ok k v (ubOf l) W (hv.kept hb) hr hn hm)
  have HPB := Lib.hid (fun (W : World) hm => ruput_bad v (ubOf l) W hm)
  have HG1 := Lib.hid (show macS k (l.take 480) ≠ l.drop 480 → getU k l = (zeroUb, 5) from fun h => by unfold getU; rw [if_neg (by simp [hll]), if_pos (Ne.symm h)])
  have HG2 := Lib.hid (show macS k (l.take 480) = l.drop 480 → mayU (ubOf l) = true → putU k (ubOf l) = l → getU k l = (ubOf l, 0) from fun h h2 h3 => by unfold getU; rw [if_neg (by simp [hll]), if_neg (by simp [h]), hU, if_pos ⟨h2, (put_iff k l _ h).1 h3⟩])
  have HG3 := Lib.hid (show macS k (l.take 480) = l.drop 480 → mayU (ubOf l) = false → getU k l = (zeroUb, 4) from fun h h2 => by unfold getU; rw [if_neg (by simp [hll]), if_neg (by simp [h]), hU, if_neg (by simp [h2])])
  have HG4 := Lib.hid (show macS k (l.take 480) = l.drop 480 → putU k (ubOf l) ≠ l → getU k l = (zeroUb, 4) from fun h h2 => by unfold getU; rw [if_neg (by simp [hll]), if_neg (by simp [h]), hU, if_neg (fun q => h2 ((put_iff k l _ h).2 q.2))])
  have HPY := Lib.hid (And.intro (putU_byt k (ubOf l)) hby)
  have HXY := Lib.hid (And.intro b2.byt hxl)
  have hsl := slice_hash7
  have hz0 := (ubOf l).z0
  have hwr : IntKind.u32.wrap (ubOf l).sz = (ubOf l).sz := IntWalk.u32_in _ (by omega)
  have SE := Lib.hid (size_ubA (ubOf l))
  have SL := Lib.hid (show (ubRow zeroUb).toArray.size = (ubRow (ubOf l)).toArray.size by simp [ubRow_length])
  have SO := Lib.hid (ubRow_one (ubOf l))
  have HZR := Lib.hid (show ubRow zeroUb = urow 0 0 (ptrRow zeroPtr) from rfl)
  have HUR := Lib.hid (show ubRow (ubOf l) = urow (ubOf l).tx (ubOf l).sz (ptrRow (ubOf l).q) from rfl)
  have SP := Lib.hid (size_ptr (ubOf l).q)
  have SPA := Lib.hid (size_ptrA (ubOf l).q)
  have SPO := Lib.hid (ptrRow_one (ubOf l).q)
  have SPL := Lib.hid (And.intro (ptrRow_length (ubOf l).q) (ptrRow_length zeroPtr))
  clear hl hll hv hr hn hc hby hX hX4 hU p1 p2 p3 hxl hyl b1 b2 b4 hz0
  obtain ⟨LL, hLL⟩ : ∃ LL, l = LL := ⟨_, rfl⟩
  generalize getU k l = G at *
  generalize macS k (l.take 480) = MC at *
  generalize l.drop 480 = X at *
  generalize mayU (ubOf l) = MU at *
  generalize putU k (ubOf l) = PU at *
  generalize (ubOf l).tx = tx at *
  generalize (ubOf l).sz = sz at *
  obtain ⟨QR, hQR⟩ : ∃ QR, ptrRow (ubOf l).q = QR := ⟨_, rfl⟩
  rw [hQR] at HUR SP SPA SPO SPL
  have HQR := Lib.hid hQR
  obtain ⟨UR, hUR⟩ : ∃ UR, (ubRow (ubOf l)).toArray = UR := ⟨_, rfl⟩
  obtain ⟨ZU, hZU⟩ : ∃ ZU, (ubRow zeroUb).toArray = ZU := ⟨_, rfl⟩
  have HZU := Lib.hid hZU
  have HUA := Lib.hid hUR
  rw [hZU] at HA HB HT SEZ SOZ SL hz HBN
  rw [hUR] at HPO HPB SE SL SO
  clear hZU hUR hQR hLL
  obtain ⟨d, hd⟩ : ∃ d, decide (MC = X) = d := ⟨_, rfl⟩
  have HD := Lib.hid hd
  have heq := str_nums_beq MC X HML.out.2 HXY.out.1
  rw [hd] at heq
  clear hd
  have SH := Lib.hid (size_h32 MC HML.out.1)
  have SM := Lib.hid (show (u8s (List.replicate 32 0)).size = (u8s MC).size by rw [u8s_size, u8s_size, HML.out.1]; rfl)
  generalize hw1 : w.alloc (.cells ZU 30) = w1 at *
  go_enter Tryd.func18, Tryd.ntmps18
  go_upto_region 1 with fail
  try rw [hw1]
  clear hw1
  go_wp2_with fail
  refine (HRM.out w1 HB.out).mono ?_
  rintro e w2 ⟨rfl, hb2⟩
  have HB2 := Lib.hid (HB.out.trans (hb2.mono HB.out.size))
  have HA2 := Lib.hid ((hb2.block w.heap.size HT.out).trans HA.out)
  clear hb2 HRM HA HB HT e1
  go_upto_region 4 with (first
    | (with_reducible refine wpList_store_row (o := ⟨none, .store _ (.tmp 6) _, _, _, _, _⟩) rfl 26 _ _ rfl w2.heap.size (u8s MC) rfl rfl 26 _ (heap_alloc_new w2 _) SH.out ?c1 (u8s_one _) ?_))
  case c1 => exact SM.out
  generalize hW3 : World.setRow _ w2.heap.size _ = w3
  obtain ⟨r3, z3, b3⟩ := fresh_row w2 (u8s (List.replicate 32 0)) (u8s MC) 26 w3 hW3.symm
  clear hW3 z3
  have hbsM := BS.of_arr2 (show ArrB w3 w2.heap.size 26 MC from r3) HML.out.2
  rw [HML.out.1] at hbsM
  have HB3 := Lib.hid (HB2.out.trans (b3.mono HB2.out.size))
  have HA3 := Lib.hid ((b3.block w.heap.size (Array.getElem?_eq_some_iff.1 HA2.out).1).trans HA2.out)
  have hcM := fun p : BelowBy w3 => conv_BS (hbsM.kept p.bel)
  have hcX := fun p : BelowBy w3 => conv_BS (HBX.out p.now (HB3.out.trans (p.bel.mono HB3.out.size)))
  clear r3 b3 hbsM HA2 HB2 SH SM
  obtain ⟨T, hT⟩ : ∃ T, w2.heap.size = T := ⟨_, rfl⟩
  rw [hT] at hcM ⊢
  clear hT
  cases d with
  | false =>
    have HC := Lib.hid (show G = (zeroUb, 5) from HG1.out (of_decide_eq_false HD.out))
    clear HG1 HG2 HG3 HG4
    try simp only [Act.put]
    refine wp_region_below (by kernel_rfl) (by kernel_rfl) ?_
    repeat (go_big_quiet_step (fail))
    refine wpQuiet_nil ?_
    intro _ hw'
    obtain ⟨p, hw''⟩ := hw'
    subst hw''
    have HB4 := Lib.hid (HB3.out.trans (p.bel.mono HB3.out.size))
    have HA4 := Lib.hid ((p.bel.block w.heap.size (Array.getElem?_eq_some_iff.1 HA3.out).1).trans HA3.out)
    clear hcM hcX HA3 HB3
    go_wp2_with (first
      | (with_reducible refine wpList_build_run (o := ⟨some 27, _, _, _, _, _⟩) rfl 30 _ rfl #[] (by simp) (.agg ZU) (HBN.out _) ?_)
      | (with_reducible refine wpList_store_row (o := ⟨none, .store _ (.tmp 4) _, _, _, _, _⟩) rfl 30 _ _ rfl w.heap.size ZU rfl rfl 30 ZU HA4.out SEZ.out rfl SOZ.out ?_))
    have h5 : Below w.heap.size w (p.now.setRow w.heap.size ZU) := ybelow_row HB4.out (Nat.le_refl _) _
    refine bodyPost_ret (v := .tuple #[.agg ZU, .int .i64 5]) (results_cell_two Tryd.results18 _ _ w.heap.size 30 ZU (0, 0) _ rfl (setRow_heap _ w.heap.size _ ZU _ _ HA4.out) Tryd.underlying30 rfl SEZ.out _ (by simp)) rfl ⟨?_, h5⟩
    rw [HC.out]
    rw [← HZU.out]
  | true =>
    have HMX := Lib.hid (of_decide_eq_true HD.out)
    clear HG1
    try simp only [Act.put]
    refine wp_region_below (by kernel_rfl) (by kernel_rfl) ?_
    repeat (go_big_quiet_step (fail))
    refine wpQuiet_nil ?_
    intro _ hw'
    obtain ⟨p, hw''⟩ := hw'
    subst hw''
    have HB4 := Lib.hid (HB3.out.trans (p.bel.mono HB3.out.size))
    have HA4 := Lib.hid ((p.bel.block w.heap.size (Array.getElem?_eq_some_iff.1 HA3.out).1).trans HA3.out)
    clear hcM hcX HA3 HB3 heq
    generalize p.now = w4 at *
    have hb5 := (Below.refl w4.heap.size w4).alloc (Nat.le_refl _) (.cells #[.slice a4 508 (c - 4)] 63)
    have hR5 := heap_alloc_new w4 (.cells #[.slice a4 508 (c - 4)] 63)
    have hs5 : (w4.alloc (.cells #[.slice a4 508 (c - 4)] 63)).heap.size = w4.heap.size + 1 := by simp
    go_upto_region 7 with fail
    generalize World.alloc w4 _ = w5 at *
    have HB5 := Lib.hid (HB4.out.trans (hb5.mono HB4.out.size))
    have HA5 := Lib.hid ((hb5.block w.heap.size (Array.getElem?_eq_some_iff.1 HA4.out).1).trans HA4.out)
    have hRT := RT.now (HRR.out w5 w4.heap.size HB5.out hR5)
    have HGE := Lib.hid (show w.heap.size ≤ w4.heap.size from HB4.out.size)
    have HWR := Lib.hid (show w.heap.size ≠ w4.heap.size by have := (Array.getElem?_eq_some_iff.1 HA4.out).1; omega)
    obtain ⟨R, hR⟩ : ∃ R, w4.heap.size = R := ⟨_, rfl⟩
    rw [hR] at hs5 hRT HGE HWR ⊢
    clear hb5 hR5 hR HB4 HA4 HRR e4 e2
    have hb6 := (Below.refl w5.heap.size w5).alloc (Nat.le_refl _) (.cells ZU 30)
    have hG6 := heap_alloc_new w5 (.cells ZU 30)
    have hs6 : (w5.alloc (.cells ZU 30)).heap.size = w5.heap.size + 1 := by simp
    go_upto_region 8 with fail
    generalize World.alloc w5 _ = w6 at *
    have HB6 := Lib.hid (HB5.out.trans (hb6.mono HB5.out.size))
    have HA6 := Lib.hid ((hb6.block w.heap.size (Array.getElem?_eq_some_iff.1 HA5.out).1).trans HA5.out)
    rw [hs5] at hG6 hs6 hRT
    try rw [hs5]
    have HSZ6 := Lib.hid hs6
    rw [← HZU.out, HZR.out] at hG6
    have HG6 := Lib.hid hG6
    have HWG := Lib.hid (show w.heap.size < R + 1 by have := HGE.out; have := HWR.out; omega)
    have HN := Lib.hid (rnum_t (R + 1) R (l.drop 4) 8 w6 (hRT.keep (by rw [hs6]; omega) (fun k hk => hb6.block k (by rw [hs5]; exact hk))) (by decide))
    rw [HM1.out] at HN
    clear hb6 hG6 hs5 hs6 hRT HB5 HA5 hz HM1
    go_wp2_with fail
    refine HN.out.mono ?_
    rintro e w7 ⟨rfl, r7, O7⟩
    have HB7 := Lib.hid (HB6.out.trans (O7.bel _ HGE.out))
    have HA7 := Lib.hid ((O7.rest w.heap.size HWR.out).trans HA6.out)
    have hG7 := (O7.rest (R + 1) (by omega)).trans HG6.out
    have HG7 := Lib.hid hG7
    have HSZ7 := Lib.hid (show w7.heap.size = R + 1 + 1 by rw [O7.size]; exact HSZ6.out)
    have R7 := Lib.hid r7
    have d0 : w7.cell? ⟨R + 1, 0, none⟩ = some (.int .u64 0) := cell_of_row _ _ _ _ _ _ hG7
    have f0 : w7.frozen? ⟨R + 1, 0, none⟩ = false := frozen_of_row _ _ _ _ _ hG7
    clear r7 O7 HN HB6 HA6 hG7 HG6 HSZ6
    go_upto_region 9 with fail
    have hG8 := heap_setCell_same w7 (R + 1) 0 _ _ (.int .u64 tx) HG7.out
    rw [show (urow 0 0 (ptrRow zeroPtr)).toArray.setIfInBounds 0 (.int .u64 tx) = (urow tx 0 (ptrRow zeroPtr)).toArray by simp [urow]] at hG8
    have hb8 : Below (R + 1) w7 (w7.setCell ⟨R + 1, 0, none⟩ (.int .u64 tx)) := ((Below.refl w7.heap.size w7).mono (by have := HSZ7.out; omega)).setCell (show R + 1 ≤ (⟨R + 1, 0, none⟩ : Addr).block from Nat.le_refl _) _
    have hs8 : (w7.setCell ⟨R + 1, 0, none⟩ (.int .u64 tx)).heap.size = R + 1 + 1 := by rw [← HSZ7.out]; simp
    generalize w7.setCell ⟨R + 1, 0, none⟩ (.int .u64 tx) = w8 at *
    have HN8 := Lib.hid (rnum_t (R + 1) R (l.drop 12) 4 w8 (R7.out.keep (by omega) (fun k hk => hb8.block k hk)) (by decide))
    rw [HM2.out] at HN8
    have HB8 := Lib.hid (HB7.out.trans (hb8.mono (by have := HGE.out; omega)))
    have HA8 := Lib.hid ((hb8.block w.heap.size HWG.out).trans HA7.out)
    have HG8 := Lib.hid hG8
    have HSZ8 := Lib.hid hs8
    clear hG8 hb8 hs8 HB7 HA7 HG7 HSZ7 R7 d0 f0 HM2
    go_wp2_with fail
    refine HN8.out.mono ?_
    rintro e w9 ⟨rfl, r9, O9⟩
    have HB9 := Lib.hid (HB8.out.trans (O9.bel _ HGE.out))
    have HA9 := Lib.hid ((O9.rest w.heap.size HWR.out).trans HA8.out)
    have hG9 := (O9.rest (R + 1) (by omega)).trans HG8.out
    have HG9 := Lib.hid hG9
    have HSZ9 := Lib.hid (show w9.heap.size = R + 1 + 1 by rw [O9.size]; exact HSZ8.out)
    have R9 := Lib.hid r9
    have d1 : w9.cell? ⟨R + 1, 1, none⟩ = some (.int .u32 0) := cell_of_row _ _ _ _ _ _ hG9
    have f1 : w9.frozen? ⟨R + 1, 1, none⟩ = false := frozen_of_row _ _ _ _ _ hG9
    clear r9 O9 HN8 HB8 HA8 hG9 HG8 HSZ8
    go_upto_region 11 with fail
    have hG10 := heap_setCell_same w9 (R + 1) 1 _ _ (.int .u32 sz) HG9.out
    rw [show (urow tx 0 (ptrRow zeroPtr)).toArray.setIfInBounds 1 (.int .u32 sz) = (urow tx sz (ptrRow zeroPtr)).toArray by simp [urow]] at hG10
    have hb10 : Below (R + 1) w9 (w9.setCell ⟨R + 1, 1, none⟩ (.int .u32 sz)) := ((Below.refl w9.heap.size w9).mono (by have := HSZ9.out; omega)).setCell (show R + 1 ≤ (⟨R + 1, 1, none⟩ : Addr).block from Nat.le_refl _) _
    have hs10 : (w9.setCell ⟨R + 1, 1, none⟩ (.int .u32 sz)).heap.size = R + 1 + 1 := by rw [← HSZ9.out]; simp
    generalize w9.setCell ⟨R + 1, 1, none⟩ (.int .u32 sz) = w10 at *
    have HN10 := Lib.hid (rgetp_t (R + 1) R (l.drop 16) w10 (R9.out.keep (by omega) (fun k hk => hb10.block k hk)))
    rw [HM3.out] at HN10
    have HB10 := Lib.hid (HB9.out.trans (hb10.mono (by have := HGE.out; omega)))
    have HA10 := Lib.hid ((hb10.block w.heap.size HWG.out).trans HA9.out)
    have HG10 := Lib.hid hG10
    have HSZ10 := Lib.hid hs10
    clear hG10 hb10 hs10 HB9 HA9 HG9 HSZ9 R9 d1 f1 HM3 hwr
    go_wp2_with fail
    refine HN10.out.mono ?_
    rintro e w11 ⟨rfl, r11, O11⟩
    have hG11 := (O11.block (R + 1) (by have := HSZ10.out; omega) (by omega)).trans HG10.out
    have HB11 := Lib.hid (HB10.out.trans (O11.below HGE.out HB10.out.size))
    have HA11 := Lib.hid ((O11.block w.heap.size (Array.getElem?_eq_some_iff.1 HA10.out).1 HWR.out).trans HA10.out)
    have HSZ11 := Lib.hid (show R + 1 + 1 ≤ w11.heap.size by have := O11.size; have := HSZ10.out; omega)
    have HTH := Lib.hid (show w11.there (R + 1) 2 QR.toArray.size from fun j hj => by
      rw [List.size_toArray, SPL.out.1] at hj
      refine ⟨?_, frozen_of_row _ _ _ _ _ hG11⟩
      rw [cell_of_row _ _ _ _ _ _ hG11]
      rw [List.getElem?_toArray, List.getElem?_eq_getElem (by simp [urow, SPL.out.2]; omega)]
      rfl)
    have H12 := Lib.hid (heap_putAt (R + 1) 30 QR 2 w11 _ hG11 (by simp [urow, SPL.out.1, SPL.out.2]))
    have HP12 := Lib.hid (show (putAt (urow tx sz (ptrRow zeroPtr)) 2 QR).toArray = UR by
      rw [← HUA.out, HUR.out]
      have hl1 := SPL.out.1
      have hl2 := SPL.out.2
      simp [putAt, urow, hl1, hl2])
    rw [HQR.out]
    clear r11 O11 HN10 HB10 HA10 HG10 HSZ10 hG11
    go_upto_region 12 with (first
      | (with_reducible refine wpList_store_mid (op := ⟨none, .store _ (.tmp 51) _, _, _, _, _⟩) rfl 28 _ _ rfl (R + 1) 2 QR.toArray rfl rfl HTH.out SPA.out SPO.out ?_))
    have hG12 := H12.out
    rw [HP12.out] at hG12
    have hb12 := below_sets (R + 1) QR 2 w11 w11 (R + 1) ((Below.refl w11.heap.size w11).mono (by have := HSZ11.out; omega)) (Nat.le_refl _)
    try simp only [List.toList_toArray]
    generalize w11.setCells (R + 1) 2 QR = w12 at *
    have HG12 := Lib.hid hG12
    have HB12 := Lib.hid (HB11.out.trans (hb12.mono (by have := HGE.out; omega)))
    have HA12 := Lib.hid ((hb12.block w.heap.size HWG.out).trans HA11.out)
    clear hG12 hb12 H12 HP12 HB11 HA11 HSZ11 HTH HGE HWR
    cases MU with
    | false =>
      have HC := Lib.hid (show G = (zeroUb, 4) from HG3.out HMX.out rfl)
      have HP := Lib.hid (HPB.out w12 rfl)
      clear HG2 HG3 HG4 HPO HPB
      go_wp2_with (first
        | (with_reducible refine wpList_load_row (o := ⟨some 54, _, _, _, _, _⟩) rfl 30 _ rfl (R + 1) rfl 30 UR (0, 0) _ HG12.out Tryd.underlying30 rfl SE.out ?_))
      refine HP.out.mono ?_
      rintro e w13 ⟨rfl, hb13⟩
      have HB13 := Lib.hid (HB12.out.trans (hb13.mono HB12.out.size))
      have HA13 := Lib.hid ((hb13.block w.heap.size (Array.getElem?_eq_some_iff.1 HA12.out).1).trans HA12.out)
      clear hb13 HP HB12 HA12 HG12
      go_wp2_with (first
        | (with_reducible refine wpList_build_run (o := ⟨some 67, _, _, _, _, _⟩) rfl 30 _ rfl #[] (by simp) (.agg ZU) (HBN.out _) ?_)
        | (with_reducible refine wpList_store_row (o := ⟨none, .store _ (.tmp 4) _, _, _, _, _⟩) rfl 30 _ _ rfl w.heap.size ZU rfl rfl 30 ZU HA13.out SEZ.out rfl SOZ.out ?_))
      have h5 : Below w.heap.size w (w13.setRow w.heap.size ZU) := ybelow_row HB13.out (Nat.le_refl _) _
      refine bodyPost_ret (v := .tuple #[.agg ZU, .int .i64 4]) (results_cell_two Tryd.results18 _ _ w.heap.size 30 ZU (0, 0) _ rfl (setRow_heap _ w.heap.size _ ZU _ _ HA13.out) Tryd.underlying30 rfl SEZ.out _ (by simp)) rfl ⟨?_, h5⟩
      rw [HC.out]
      rw [← HZU.out]
    | true =>
      have HP := Lib.hid (HPO.out w12 HB12.out rfl)
      clear HG3 HPO HPB
      go_wp2_with (first
        | (with_reducible refine wpList_load_row (o := ⟨some 54, _, _, _, _, _⟩) rfl 30 _ rfl (R + 1) rfl 30 UR (0, 0) _ HG12.out Tryd.underlying30 rfl SE.out ?_))
      refine HP.out.mono ?_
      rintro e w13 ⟨a13, c13, rfl, _, _, hs13, hb13⟩
      have HB13 := Lib.hid (HB12.out.trans (hb13.mono HB12.out.size))
      have HA13 := Lib.hid ((hb13.block w.heap.size (Array.getElem?_eq_some_iff.1 HA12.out).1).trans HA12.out)
      have HG13 := Lib.hid ((hb13.block (R + 1) (Array.getElem?_eq_some_iff.1 HG12.out).1).trans HG12.out)
      have hv1 := conv_BS hs13
      have hv2 := conv_BS (HBL.out w13 HB13.out)
      have heq := str_nums_beq PU l HPY.out.1 HPY.out.2
      clear hb13 hs13 HP HB12 HA12 HG12
      by_cases hsl2 : PU = l
      · have HC := Lib.hid (show G = (ubOf l, 0) from HG2.out HMX.out trivial hsl2)
        rw [decide_eq_true hsl2] at heq
        clear hsl2 HG2 HG4
        go_wp2_with (first
          | (with_reducible refine wpList_load_row (o := ⟨some 68, _, _, _, _, _⟩) rfl 30 _ rfl (R + 1) rfl 30 UR (0, 0) _ HG13.out Tryd.underlying30 rfl SE.out ?_)
          | (with_reducible refine wpList_store_row (o := ⟨none, .store _ (.tmp 4) _, _, _, _, _⟩) rfl 30 _ _ rfl w.heap.size UR rfl rfl 30 ZU HA13.out SE.out SL.out SO.out ?_))
        have h5 : Below w.heap.size w (w13.setRow w.heap.size UR) := ybelow_row HB13.out (Nat.le_refl _) _
        refine bodyPost_ret (v := .tuple #[.agg UR, .int .i64 0]) (results_cell_two Tryd.results18 _ _ w.heap.size 30 UR (0, 0) _ rfl (setRow_heap _ w.heap.size _ UR _ _ HA13.out) Tryd.underlying30 rfl SE.out _ (by simp)) rfl ⟨?_, h5⟩
        rw [HC.out]
        rw [← HUA.out]
      · have HC := Lib.hid (show G = (zeroUb, 4) from HG4.out HMX.out hsl2)
        rw [decide_eq_false hsl2] at heq
        clear hsl2 HG2 HG4
        go_wp2_with (first
          | (with_reducible refine wpList_build_run (o := ⟨some 67, _, _, _, _, _⟩) rfl 30 _ rfl #[] (by simp) (.agg ZU) (HBN.out _) ?_)
          | (with_reducible refine wpList_store_row (o := ⟨none, .store _ (.tmp 4) _, _, _, _, _⟩) rfl 30 _ _ rfl w.heap.size ZU rfl rfl 30 ZU HA13.out SEZ.out rfl SOZ.out ?_))
        have h5 : Below w.heap.size w (w13.setRow w.heap.size ZU) := ybelow_row HB13.out (Nat.le_refl _) _
        refine bodyPost_ret (v := .tuple #[.agg ZU, .int .i64 4]) (results_cell_two Tryd.results18 _ _ w.heap.size 30 ZU (0, 0) _ rfl (setRow_heap _ w.heap.size _ ZU _ _ HA13.out) Tryd.underlying30 rfl SEZ.out _ (by simp)) rfl ⟨?_, h5⟩
        rw [HC.out]
        rw [← HZU.out]
theorem ruget_any (k l : List Int) (v : Value) (a : Option Addr) (n c : Nat) (w : World) (hv : BS w v k) (hr : Room v) (hn : k.length ≤ 900000) (hl : BS w (.slice a n c) l) (hll : l.length = n) (hc : n ≤ c) (hn63 : n ≤ 140737488351232) :
    Calls Tryd.prog 18 #[v, .slice a n c] w fun e w' => e = .returned (.tuple #[.agg (ubRow (getU k l).1).toArray, .int .i64 (getU k l).2]) ∧ Below w.heap.size w w' := by
  by_cases h : n = 512
  · subst h
    exact ruget_full k l v a c w hv hr hn hl hll hc
  · rw [show getU k l = (zeroUb, 2) by unfold getU; rw [if_pos (by rw [hll]; exact h)]]
    exact ruget_size v a n c w h hn63
end Go.Proofs.YtocdjaenhllemaaDoor
