/-
  'PtrBytes' returns true at every input, and each argument reads behind the call as it read before. Conditions: none.
-/
import Derived.Test.YtbnclmlbennhaaaRows
import Derived.Test.YtbnclmlbennhaaaYLaid
import Derived.Test.YtbnclmlbennhaaaPl
namespace Go.Proofs.Ytbnclmlbennhaaa.ptrBytes
open Go.ChangeShapes Go.WideShapes Go.ChangeAt Go.RowKit
set_option linter.unusedVariables false

theorem wl_chg {w0 w w' : World} {P R t lb cb : Nat} {ab : Option Addr} {l l' : List Int} (h : WL w0 w P l) (r : RR w t R ab lb cb l') (h1 : t ≠ 31) (h2 : t ≠ 5) (hR : w0.heap.size ≤ R) (q : Chg R w w') : WL w0 w' P l := by
  obtain ⟨v, h, hP, hb⟩ := h
  have t1 : Touch [R] w w' := ⟨q.os, q.tape, q.output, q.size, fun k hk hne => q.block k hk (by simpa using hne)⟩
  refine ⟨v, h.touch t1 ?_ ?_, hP, hb.trans (q.below hR hb.size)⟩
  · intro e
    obtain rfl : P = R := by simpa using e
    have := h.cell.symm.trans r.cell
    simp only [Option.some.injEq, Obj.cells.injEq] at this
    exact h1 this.2.1.symm
  · intro g hg e
    obtain rfl : g = R := by simpa using e
    exact own_ne h.own r.cell h2 hg
/-- What stands at the law's last line: the pointer, the two that were read, the document's Reader. -/
structure Nine (w0 w : World) (T TX TY R2 lb cb : Nat) (ab : Option Addr) (q x : PtrV) : Prop where
  rq : w.rangeAt T 0 (ptrRow q)
  rx : w.rangeAt TX 0 (ptrRow x)
  ry : w.rangeAt TY 0 (ptrRow x)
  lt : T < w.heap.size
  c : w.cell? ⟨T, 0, none⟩ = some (.int .u32 q.ad)
  lt2 : R2 < w.heap.size
  m : w.cell? ⟨R2, 0, none⟩ = some (.slice ab lb cb)
  bel : Below w0.heap.size w0 w

set_option maxRecDepth 100000 in
set_option maxHeartbeats 3200000 in
theorem walk (w : World) (q0 : PtrV) (z1 : Int) (za1 : -9223372036854775808 ≤ z1) (zb1 : z1 ≤ 9223372036854775807) (a2 : Option Addr) (len2 cap2 : Nat) (x2 : List Int) (e2 : x2.length = len2) (m2 : len2 ≤ cap2) (n2 : cap2 ≤ 140737488351232) (b2 : BS w (.slice a2 len2 cap2) x2) :
    Calls Try.prog 3 #[.agg (ptrRow q0).toArray, .int .i64 z1, .slice a2 len2 cap2] w fun e w' => e = .returned (.bool true) ∧ Below w.heap.size w w' := by
  have hb0 := (Below.refl w.heap.size w).alloc (Nat.le_refl _) (.cells (ptrRow q0).toArray 27)
  have hA := heap_alloc_new w (.cells (ptrRow q0).toArray 27)
  have hT : w.heap.size < (w.alloc (.cells (ptrRow q0).toArray 27)).heap.size := by simp
  have HAL := Lib.hid (alive8_any (w.alloc (.cells (ptrRow q0).toArray 27)))
  have HA0 := Lib.hid hA
  have HB0 := Lib.hid hb0
  have HT := Lib.hid hT
  have SE := Lib.hid (size_ptrA q0)
  have HX0 := Lib.hid (b2.kept hb0)
  have HE := Lib.hid e2
  have HM := Lib.hid (And.intro m2 n2)
  have HZ1 := Lib.hid zb1
  have l2I : (len2 : Int) ≤ 140737488351232 := by omega
  clear hb0 hA hT b2 e2 m2 n2 za1 zb1
  generalize hAR : (ptrRow q0).toArray = AR at *
  have HAR := Lib.hid hAR
  clear hAR
  generalize hWA : w.alloc (.cells AR 27) = wA at *
  by_cases hbig : 1000 < len2
  · have hbI : (1000 : Int) < (len2 : Int) := by omega
    clear hbig
    go_enter Try.func3, Try.ntmps3
    go_wp2_with fail
    refine HAL.out.mono ?_
    rintro e w1 ⟨rfl, hb1⟩
    have HB1 := Lib.hid (HB0.out.trans (hb1.mono HB0.out.size))
    clear hb1 HAL
    go_wp2_with fail
    go_ret
    exact ⟨rfl, HB1.out⟩
  have hsm : (len2 : Int) ≤ 1000 := by omega
  have HS0 := Lib.hid (show len2 ≤ 1000 by omega)
  clear hbig
  have hz := zero_writer
  go_enter Try.func3, Try.ntmps3
  go_upto_region 1 with fail
  clear hWA
  go_wp2_with fail
  refine HAL.out.mono ?_
  rintro e w1 ⟨rfl, hb1⟩
  have HA1 := Lib.hid ((((Below.refl w1.heap.size w1).alloc (Nat.le_refl _) (.cells #[.slice none 0 0] 31)).block w.heap.size (Nat.lt_of_lt_of_le HT.out hb1.size)).trans ((hb1.block w.heap.size HT.out).trans HA0.out))
  have HW1 := Lib.hid (wl_new hb1)
  have HP1 := Lib.hid (wl_ptr wA _ _ [] q0 HW1.out (by simp))
  rw [List.nil_append, HAR.out] at HP1
  generalize hW2 : w1.alloc (.cells #[.slice none 0 0] 31) = w2 at *
  generalize hPP : w1.heap.size = PW at *
  clear hb1 HAL HW1
  go_upto_region 6 with fail
  clear hW2 hPP hz
  go_wp2_with (first
    | (with_reducible refine wpList_load_row (o := ⟨some 20, _, _, _, _, _⟩) rfl 27 _ rfl w.heap.size rfl 27 AR (0, 0) _ HA1.out Try.underlying27 rfl SE.out ?_))
  refine HP1.out.mono ?_
  rintro e w3 ⟨rfl, hw3⟩
  have HW3 := Lib.hid hw3
  have HRD := Lib.hid (rl_read wA w3 _ _ hw3.bel (HX0.out.kept hw3.bel) (by rw [HE.out]; have := HS0.out; omega))
  clear hw3 HP1 HA1
  go_wp2_with fail
  refine HRD.out.mono ?_
  rintro e w4 ⟨R1, rfl, hr4, hb4⟩
  have HW4 := Lib.hid (HW3.out.below hb4)
  have hb4a := (Below.refl w4.heap.size w4).alloc (Nat.le_refl _) (.cells #[.slice a2 len2 cap2] 39)
  have HW5 := Lib.hid (HW4.out.below hb4a)
  have HR5 := Lib.hid (hr4.below hb4a)
  have H25 := Lib.hid (show RR (w4.alloc (.cells #[.slice a2 len2 cap2] 39)) 39 w4.heap.size a2 len2 cap2 x2 from
    ⟨heap_alloc_new _ _, HX0.out.kept (HW5.out.bel), HE.out, HM.out.1, by have := HS0.out; omega⟩)
  have HN5 := Lib.hid (And.intro HW4.out.bel.size (show R1 ≠ w4.heap.size from fun e => by
    obtain ⟨_, _, _, h, _⟩ := hr4
    have := (Array.getElem?_eq_some_iff.1 h.cell).1
    omega))
  generalize hW5 : w4.alloc (.cells #[.slice a2 len2 cap2] 39) = w5 at *
  generalize hR2 : w4.heap.size = R2 at *
  clear hr4 hb4 hb4a HRD HW3 HW4 HX0
  go_upto_region 8 with fail
  clear hW5 hR2
  have HRP := Lib.hid (show RP wA w5 R1 R2 x2 x2 from by
    obtain ⟨a, x, c, h1, h2, h3⟩ := HR5.out
    exact ⟨⟨a, x, c, h1⟩, ⟨_, _, _, H25.out⟩, HN5.out.2, h2, HN5.out.1, h3⟩)
  obtain ⟨ar1, xr1, cr1, hr1⟩ := HRP.out.r1
  have HG1 := Lib.hid (pget_any R1 xr1 cr1 ar1 x2 w5 hr1)
  have HR1 := Lib.hid hr1
  have HG2 := Lib.hid (fun (W : World) (a : Option Addr) (x c : Nat) (h : RR W 39 R2 a x c x2) => rgetp_any R2 x c a x2 W h)
  have HR25 := Lib.hid (show R2 < w5.heap.size from (Array.getElem?_eq_some_iff.1 H25.out.cell).1)
  have SX := Lib.hid (size_ptrA (getA x2).1)
  have SO := Lib.hid (ptrRow_one (getA x2).1)
  have SL := Lib.hid (show (ptrRow zeroPtr).toArray.size = (ptrRow (getA x2).1).toArray.size by simp [ptrRow_length])
  have hzp := zero_ptr
  generalize (getA x2).1 = X at *
  generalize (getA x2).2.1 = er at *
  generalize (getA x2).2.2 = LL at *
  obtain ⟨XR, hXR⟩ : ∃ XR, (ptrRow X).toArray = XR := ⟨_, rfl⟩
  have HXR := Lib.hid hXR
  rw [hXR] at HG1 HG2 SX SO SL
  generalize (ptrRow zeroPtr).toArray = ZR at *
  clear hr1 hXR HN5 HR5 H25
  go_wp2_with fail
  refine HG1.out.mono ?_
  rintro e w6 ⟨rfl, hr6, hC6⟩
  have HRP6 := Lib.hid (rp_first HRP.out hr6 hC6)
  have HW6 := Lib.hid (wl_chg HW5.out HR1.out (by decide) (by decide) HRP.out.n1 hC6)
  have HR26 := Lib.hid (Nat.lt_of_lt_of_le HR25.out hC6.size)
  have HH6 := Lib.hid (heap_alloc_new w6 (.cells ZR 27))
  clear hr6 hC6 HG1 HRP HW5 HR1 HR25
  go_upto_region 9 with (first
    | (with_reducible refine wpList_store_row (o := ⟨none, .store _ (.tmp 11) _, _, _, _, _⟩) rfl 27 _ _ rfl w6.heap.size XR rfl rfl 27 ZR HH6.out SX.out SL.out SO.out ?_))
  have H7 := Lib.hid (setRow_heap (w6.alloc (.cells ZR 27)) w6.heap.size _ XR _ _ HH6.out)
  have hb7 : Below w6.heap.size w6 ((w6.alloc (.cells ZR 27)).setRow w6.heap.size XR) := ybelow_row ((Below.refl w6.heap.size w6).alloc (Nat.le_refl _) _) (Nat.le_refl _) _
  have HB7 := Lib.hid (HRP6.out.below hb7)
  have HW7 := Lib.hid (HW6.out.below hb7)
  have hs7 : w6.heap.size < ((w6.alloc (.cells ZR 27)).setRow w6.heap.size XR).heap.size := (Array.getElem?_eq_some_iff.1 H7.out).1
  generalize (w6.alloc (.cells ZR 27)).setRow w6.heap.size XR = w7 at *
  have HS7 := Lib.hid hs7
  clear hb7 hs7 HH6 HRP6 HW6
  obtain ⟨ar2, xr2, cr2, hr2⟩ := HB7.out.r2
  have HR2 := Lib.hid hr2
  have HG2' := Lib.hid (HG2.out w7 ar2 xr2 cr2 hr2)
  clear hr2 HG2
  go_wp2_with fail
  refine HG2'.out.mono ?_
  rintro e w8 ⟨rfl, hr8, hC8⟩
  have HRP8 := Lib.hid (rp_second HB7.out hr8 hC8)
  have HW8 := Lib.hid (wl_chg HW7.out HR2.out (by decide) (by decide) HB7.out.n2 hC8)
  have HX8 := Lib.hid ((hC8.block w6.heap.size HS7.out (by have := HR26.out; omega)).trans H7.out)
  have HS8 := Lib.hid (Nat.lt_of_lt_of_le HS7.out hC8.size)
  have HH8 := Lib.hid (heap_alloc_new w8 (.cells ZR 27))
  clear hr8 hC8 HG2' HB7 HW7 HR2 H7
  go_upto_region 10 with (first
    | (with_reducible refine wpList_store_row (o := ⟨none, .store _ (.tmp 13) _, _, _, _, _⟩) rfl 27 _ _ rfl w8.heap.size XR rfl rfl 27 ZR HH8.out SX.out SL.out SO.out ?_))
  have h9 := setRow_heap (w8.alloc (.cells ZR 27)) w8.heap.size _ XR _ _ HH8.out
  have hb9 : Below w8.heap.size w8 ((w8.alloc (.cells ZR 27)).setRow w8.heap.size XR) := ybelow_row ((Below.refl w8.heap.size w8).alloc (Nat.le_refl _) _) (Nat.le_refl _) _
  generalize (w8.alloc (.cells ZR 27)).setRow w8.heap.size XR = w9 at *
  have HRP9 := Lib.hid (HRP8.out.below hb9)
  have HW9 := Lib.hid (HW8.out.below hb9)
  have hA9 := (HW9.out.bel.block w.heap.size HT.out).trans HA0.out
  rw [← HAR.out] at hA9
  have hX9 := (hb9.block w6.heap.size HS8.out).trans HX8.out
  rw [← HXR.out] at hX9 h9
  obtain ⟨ab2, lb2, cb2, hr29⟩ := HRP9.out.r2
  obtain rfl : LL.length = lb2 := hr29.len
  have H9 := Lib.hid (show Nine wA w9 w.heap.size w6.heap.size w8.heap.size R2 LL.length cb2 ab2 q0 X from
    ⟨range_of_row hA9, range_of_row hX9, range_of_row h9, Nat.lt_of_lt_of_le HT.out HW9.out.bel.size, (ptr_at hA9).1, (Array.getElem?_eq_some_iff.1 hr29.cell).1, hr29.at, HW9.out.bel⟩)
  have HY := Lib.hid (fun (W : World) (hb : Below w9.heap.size w9 W) => wl_bytes wA W PW _ (HW9.out.below hb) (by rw [ptrB_length]; decide))
  rw [ptrB_length] at HY
  have HLF := Lib.hid (show ∀ W : World, Below w9.heap.size w9 W → Calls Try.prog 21 #[.pointer (some ⟨R1, 0, none⟩)] W fun e w' => e = .returned (.int .i64 (LL.length : Int)) ∧ w' = W from fun W hb => by
    obtain ⟨a, x, c, h⟩ := HRP9.out.r1
    exact pleft_any R1 x c a LL W (h.below hb))
  have HEQ := Lib.hid (eq_ptr X X)
  have HQA := Lib.hid q0.a0
  clear h9 hb9 hA9 hX9 hr29 HH8 HRP8 HW8 HX8 HS8 HRP9 HW9 HA0 HT HS7 HR26 HXR HAR SX SO SL hzp HE HM l2I hsm HS0
  try simp only [Act.put]
  refine wp_region_noPanic ?_
  refine wp_region_held_drew (S := fun W => Below w9.heap.size w9 W) (by kernel_rfl) (Below.refl _ w9).drew (fun hHeld => ?_)
  have HBB0 := Lib.hid (show Below w9.heap.size w9 w9.drew from (Below.refl _ w9).drew)
  refine wpAnyH_take (i := 0) (oi := ⟨some 37, _, _, _, _, _⟩) (v := ?_) rfl (by kernel_rfl) (by decide +kernel) (by decide +kernel) (fun _ _ _ h => h) (Or.inl ⟨by rfl, ?_⟩) (by assumption) ?_
  rotate_left 1
  · (intro w' hSw; go_simp; try with_reducible rfl)
  try simp only [Act.put, List.setIfInBounds_toArray, List.set_cons_zero, List.set_cons_succ]
  refine wpAnyH_take (i := 1) (oi := ⟨some 38, _, _, _, _, _⟩) (v := ?_) rfl (by kernel_rfl) (by decide +kernel) (by decide +kernel) (fun _ _ _ h => h) (Or.inl ⟨by rfl, ?_⟩) (by assumption) ?_
  rotate_left 1
  · (intro w' hSw; go_simp; try with_reducible rfl)
  try simp only [Act.put, List.setIfInBounds_toArray, List.set_cons_zero, List.set_cons_succ]
  refine wpAnyH_take (i := 2) (oi := ⟨some 39, _, _, _, _, _⟩) (v := ?_) rfl (by kernel_rfl) (by decide +kernel) (by decide +kernel) (fun _ _ _ h => h) (Or.inl ⟨by rfl, ?_⟩) (by assumption) ?_
  rotate_left 1
  · (intro w' hSw; go_simp; try with_reducible rfl)
  try simp only [Act.put, List.setIfInBounds_toArray, List.set_cons_zero, List.set_cons_succ]
  refine wpAnyH_take (i := 4) (oi := ⟨some 41, _, _, _, _, _⟩) rfl (by kernel_rfl) (by decide +kernel) (by decide +kernel) (fun _ _ _ h => h) (yieldsIf_load_mid (by rfl) _ _ rfl (w.heap.size) 0 rfl (ptrRow q0) _ (fun w' h => range_below H9.out.rq h) Try.underlying27 rfl (size_ptr q0)) (by assumption) ?_
  try simp only [Act.put, List.setIfInBounds_toArray, List.set_cons_zero, List.set_cons_succ]
  refine wpAnyH_ready (rs := [3]) (by decide +kernel) (by simp) ?_
  refine AllReadyH.cons rfl (fun K hK => ?_) AllReadyH.nil
  go_simp
  go_at_call 16
  refine (HY.out _ HBB0.out).mono ?_
  rintro e wt1 ⟨a1, c1, rfl, hc, hbs, _, hb⟩
  have HBB1 := Lib.hid (HBB0.out.trans (hb.mono HBB0.out.size))
  have HX1 := Lib.hid hbs
  clear hc hbs
  clear hb
  clear hHeld
  go_wp2_with fail
  refine hK.out _ _ (HBB1.out) (fun hHeld => ?_)
  clear hK K
  try simp only [Act.put, List.setIfInBounds_toArray, List.set_cons_zero, List.set_cons_succ]
  refine wpAnyH_ready (rs := [5]) (by decide +kernel) (by simp) ?_
  refine AllReadyH.cons rfl (fun K hK => ?_) AllReadyH.nil
  go_simp
  go_at_call 17
  refine (rptrb_any q0 _).mono ?_
  rintro e wt2 ⟨a2', c2', rfl, hc, hbs, hb⟩
  have HBB2 := Lib.hid (HBB1.out.trans (hb.mono HBB1.out.size))
  have HX2 := Lib.hid (And.intro (HX1.out.kept hb) hbs)
  clear hc hbs HX1
  clear hb
  clear hHeld
  go_wp2_with fail
  refine hK.out _ _ (HBB2.out) (fun hHeld => ?_)
  clear hK K
  try simp only [Act.put, List.setIfInBounds_toArray, List.set_cons_zero, List.set_cons_succ]
  refine wpAnyH_ready (rs := [6]) (by decide +kernel) (by simp) ?_
  refine AllReadyH.cons rfl (fun K hK => ?_) AllReadyH.nil
  go_simp
  go_at_call 15
  refine (same_eq _ _ _ _ HX2.out.1 HX2.out.2).mono ?_
  rintro e wt3 ⟨rfl, rfl⟩
  have HBB3 := Lib.hid (HBB2.out)
  clear hHeld
  go_wp2_with fail
  refine hK.out _ _ (HBB3.out) (fun hHeld => ?_)
  clear hK K
  try simp only [Act.put, List.setIfInBounds_toArray, List.set_cons_zero, List.set_cons_succ]
  refine wpAnyH_take (i := 7) (oi := ⟨some 44, _, _, _, _, _⟩) (v := ?_) rfl (by kernel_rfl) (by decide +kernel) (by decide +kernel) (fun _ _ _ h => h) (Or.inl ⟨by rfl, ?_⟩) (by assumption) ?_
  rotate_left 1
  · (intro w' hSw; go_simp; try with_reducible rfl)
  try simp only [Act.put, List.setIfInBounds_toArray, List.set_cons_zero, List.set_cons_succ]
  refine wpAnyH_take (i := 8) (oi := ⟨some 45, _, _, _, _, _⟩) (v := ?_) rfl (by kernel_rfl) (by decide +kernel) (by decide +kernel) (fun _ _ _ h => h) (Or.inl ⟨by rfl, ?_⟩) (by assumption) ?_
  rotate_left 1
  · (intro w' hSw; go_simp; try with_reducible rfl)
  try simp only [Act.put, List.setIfInBounds_toArray, List.set_cons_zero, List.set_cons_succ]
  refine wpAnyH_take (i := 9) (oi := ⟨some 46, _, _, _, _, _⟩) rfl (by kernel_rfl) (by decide +kernel) (by decide +kernel) (fun _ _ _ h => h) (yieldsIf_load_mid (by rfl) _ _ rfl (w.heap.size) 0 rfl (ptrRow q0) _ (fun w' h => range_below H9.out.rq h) Try.underlying27 rfl (size_ptr q0)) (by assumption) ?_
  try simp only [Act.put, List.setIfInBounds_toArray, List.set_cons_zero, List.set_cons_succ]
  refine wpAnyH_take (i := 10) (oi := ⟨some 47, _, _, _, _, _⟩) (v := ?_) rfl (by kernel_rfl) (by decide +kernel) (by decide +kernel) (fun _ _ _ h => h) (Or.inl ⟨by rfl, ?_⟩) (by assumption) ?_
  rotate_left 1
  · (intro w' hSw; go_simp; try with_reducible rfl)
  try simp only [Act.put, List.setIfInBounds_toArray, List.set_cons_zero, List.set_cons_succ]
  refine wpAnyH_take (i := 12) (oi := ⟨some 49, _, _, _, _, _⟩) rfl (by kernel_rfl) (by decide +kernel) (by decide +kernel) (fun _ _ _ h => h) (yieldsIf_load_mid (by rfl) _ _ rfl (w.heap.size) 0 rfl (ptrRow q0) _ (fun w' h => range_below H9.out.rq h) Try.underlying27 rfl (size_ptr q0)) (by assumption) ?_
  try simp only [Act.put, List.setIfInBounds_toArray, List.set_cons_zero, List.set_cons_succ]
  refine wpAnyH_take (i := 13) (oi := ⟨some 50, _, _, _, _, _⟩) (v := ?_) rfl (by kernel_rfl) (by decide +kernel) (by decide +kernel) (fun _ _ _ h => h) (Or.inl ⟨by rfl, ?_⟩) (by assumption) ?_
  rotate_left 1
  · (intro w' hSw; go_simp; try with_reducible rfl)
  try simp only [Act.put, List.setIfInBounds_toArray, List.set_cons_zero, List.set_cons_succ]
  refine wpAnyH_ready (rs := [11]) (by decide +kernel) (by simp) ?_
  refine AllReadyH.cons rfl (fun K hK => ?_) AllReadyH.nil
  go_simp
  go_at_call 18
  refine (pcheck_any q0 z1 _).mono ?_
  rintro e wt4 ⟨rfl, hb⟩
  have HBB4 := Lib.hid (HBB3.out.trans (hb.mono HBB3.out.size))
  clear hb
  clear hHeld
  go_wp2_with fail
  refine hK.out _ _ (HBB4.out) (fun hHeld => ?_)
  clear hK K
  try simp only [Act.put, List.setIfInBounds_toArray, List.set_cons_zero, List.set_cons_succ]
  refine wpAnyH_ready (rs := [14]) (by decide +kernel) (by simp) ?_
  refine AllReadyH.cons rfl (fun K hK => ?_) AllReadyH.nil
  go_simp
  go_at_call 19
  refine (rcheck_any q0 z1 HZ1.out _).mono ?_
  rintro e wt5 ⟨rfl, hb⟩
  have HBB5 := Lib.hid (HBB4.out.trans (hb.mono HBB4.out.size))
  clear hb
  clear hHeld
  go_wp2_with fail
  refine hK.out _ _ (HBB5.out) (fun hHeld => ?_)
  clear hK K
  try simp only [Act.put, List.setIfInBounds_toArray, List.set_cons_zero, List.set_cons_succ]
  generalize checkE q0 z1 = ce at *
  refine wpAnyH_take (i := 15) (oi := ⟨some 52, _, _, _, _, _⟩) (v := ?_) rfl (by kernel_rfl) (by decide +kernel) (by decide +kernel) (fun _ _ _ h => h) (Or.inl ⟨by rfl, ?_⟩) (by assumption) ?_
  rotate_left 1
  · (intro w' hSw; go_simp; try with_reducible rfl)
  try simp only [Act.put, List.setIfInBounds_toArray, List.set_cons_zero, List.set_cons_succ]
  refine wpAnyH_take (i := 16) (oi := ⟨some 53, _, _, _, _, _⟩) (v := ?_) rfl (by kernel_rfl) (by decide +kernel) (by decide +kernel) (fun _ _ _ h => h) (Or.inl ⟨by rfl, ?_⟩) (by assumption) ?_
  rotate_left 1
  · (intro w' hSw; go_simp; try with_reducible rfl)
  try simp only [Act.put, List.setIfInBounds_toArray, List.set_cons_zero, List.set_cons_succ]
  refine wpAnyH_take (i := 17) (oi := ⟨some 54, _, _, _, _, _⟩) (v := ?_) rfl (by kernel_rfl) (by decide +kernel) (by decide +kernel) (fun _ _ _ h => h) (Or.inl ⟨by rfl, ?_⟩) (by assumption) ?_
  rotate_left 1
  · (intro w' hSw; go_simp; try with_reducible rfl)
  try simp only [Act.put, List.setIfInBounds_toArray, List.set_cons_zero, List.set_cons_succ]
  refine wpAnyH_take (i := 18) (oi := ⟨some 55, _, _, _, _, _⟩) rfl (by kernel_rfl) (by decide +kernel) (by decide +kernel) (fun _ _ _ h => h) (yieldsIf_load_mid (by rfl) _ _ rfl (w.heap.size) 0 rfl (ptrRow q0) _ (fun w' h => range_below H9.out.rq h) Try.underlying27 rfl (size_ptr q0)) (by assumption) ?_
  try simp only [Act.put, List.setIfInBounds_toArray, List.set_cons_zero, List.set_cons_succ]
  refine wpAnyH_take (i := 20) (oi := ⟨some 57, _, _, _, _, _⟩) (v := ?_) rfl (by kernel_rfl) (by decide +kernel) (by decide +kernel) (fun _ _ _ h => h) (Or.inl ⟨by rfl, ?_⟩) (by assumption) ?_
  rotate_left 1
  · (intro w' hSw; go_simp; try with_reducible rfl)
  try simp only [Act.put, List.setIfInBounds_toArray, List.set_cons_zero, List.set_cons_succ]
  refine wpAnyH_take (i := 21) (oi := ⟨some 58, _, _, _, _, _⟩) (v := ?_) rfl (by kernel_rfl) (by decide +kernel) (by decide +kernel) (fun _ _ _ h => h) (Or.inl ⟨by rfl, ?_⟩) (by assumption) ?_
  rotate_left 1
  · (intro w' hSw; have hc := (hSw.cell H9.out.lt).trans H9.out.c; go_simp; try with_reducible rfl)
  try simp only [Act.put, List.setIfInBounds_toArray, List.set_cons_zero, List.set_cons_succ]
  refine wpAnyH_take (i := 22) (oi := ⟨some 59, _, _, _, _, _⟩) (v := ?_) rfl (by kernel_rfl) (by decide +kernel) (by decide +kernel) (fun _ _ _ h => h) (Or.inl ⟨by rfl, ?_⟩) (by assumption) ?_
  rotate_left 1
  · (intro w' hSw; go_simp; try with_reducible rfl)
  try simp only [Act.put, List.setIfInBounds_toArray, List.set_cons_zero, List.set_cons_succ]
  refine wpAnyH_ready (rs := [19]) (by decide +kernel) (by simp) ?_
  refine AllReadyH.cons rfl (fun K hK => ?_) AllReadyH.nil
  go_simp
  go_at_call 20
  refine (pnull_any q0 _).mono ?_
  rintro e wt6 ⟨rfl, hb⟩
  have HBB6 := Lib.hid (HBB5.out.trans (hb.mono HBB5.out.size))
  clear hb
  clear hHeld
  go_wp2_with fail
  refine hK.out _ _ (HBB6.out) (fun hHeld => ?_)
  clear hK K
  try simp only [Act.put, List.setIfInBounds_toArray, List.set_cons_zero, List.set_cons_succ]
  refine wpAnyH_take (i := 23) (oi := ⟨some 60, _, _, _, _, _⟩) (v := ?_) rfl (by kernel_rfl) (by decide +kernel) (by decide +kernel) (fun _ _ _ h => h) (Or.inl ⟨by rfl, ?_⟩) (by assumption) ?_
  rotate_left 1
  · (intro w' hSw; go_simp; try with_reducible rfl)
  try simp only [Act.put, List.setIfInBounds_toArray, List.set_cons_zero, List.set_cons_succ]
  try rw [show ((q0.ad == 0) == (q0.ad == 0)) = true from beq_self_eq_true _]
  refine wpAnyH_take (i := 24) (oi := ⟨some 61, _, _, _, _, _⟩) (v := ?_) rfl (by kernel_rfl) (by decide +kernel) (by decide +kernel) (fun _ _ _ h => h) (Or.inl ⟨by rfl, ?_⟩) (by assumption) ?_
  rotate_left 1
  · (intro w' hSw; go_simp; try with_reducible rfl)
  try simp only [Act.put, List.setIfInBounds_toArray, List.set_cons_zero, List.set_cons_succ]
  refine wpAnyH_take (i := 25) (oi := ⟨some 62, _, _, _, _, _⟩) (v := ?_) rfl (by kernel_rfl) (by decide +kernel) (by decide +kernel) (fun _ _ _ h => h) (Or.inl ⟨by rfl, ?_⟩) (by assumption) ?_
  rotate_left 1
  · (intro w' hSw; go_simp; try with_reducible rfl)
  try simp only [Act.put, List.setIfInBounds_toArray, List.set_cons_zero, List.set_cons_succ]
  refine wpAnyH_take (i := 26) (oi := ⟨some 63, _, _, _, _, _⟩) rfl (by kernel_rfl) (by decide +kernel) (by decide +kernel) (fun _ _ _ h => h) (yieldsIf_load_mid (by rfl) _ _ rfl (w6.heap.size) 0 rfl (ptrRow X) _ (fun w' h => range_below H9.out.rx h) Try.underlying27 rfl (size_ptr X)) (by assumption) ?_
  try simp only [Act.put, List.setIfInBounds_toArray, List.set_cons_zero, List.set_cons_succ]
  refine wpAnyH_take (i := 27) (oi := ⟨some 64, _, _, _, _, _⟩) rfl (by kernel_rfl) (by decide +kernel) (by decide +kernel) (fun _ _ _ h => h) (yieldsIf_load_mid (by rfl) _ _ rfl (w8.heap.size) 0 rfl (ptrRow X) _ (fun w' h => range_below H9.out.ry h) Try.underlying27 rfl (size_ptr X)) (by assumption) ?_
  try simp only [Act.put, List.setIfInBounds_toArray, List.set_cons_zero, List.set_cons_succ]
  have heq := HEQ.out
  refine wpAnyH_take (i := 28) (oi := ⟨some 65, _, _, _, _, _⟩) (v := ?_) rfl (by kernel_rfl) (by decide +kernel) (by decide +kernel) (fun _ _ _ h => h) (Or.inl ⟨by rfl, ?_⟩) (by assumption) ?_
  rotate_left 1
  · (intro w' hSw; go_simp; try with_reducible rfl)
  try simp only [Act.put, List.setIfInBounds_toArray, List.set_cons_zero, List.set_cons_succ]
  clear heq
  refine wpAnyH_take (i := 29) (oi := ⟨some 66, _, _, _, _, _⟩) (v := ?_) rfl (by kernel_rfl) (by decide +kernel) (by decide +kernel) (fun _ _ _ h => h) (Or.inl ⟨by rfl, ?_⟩) (by assumption) ?_
  rotate_left 1
  · (intro w' hSw; go_simp; try with_reducible rfl)
  try simp only [Act.put, List.setIfInBounds_toArray, List.set_cons_zero, List.set_cons_succ]
  refine wpAnyH_take (i := 30) (oi := ⟨some 67, _, _, _, _, _⟩) (v := ?_) rfl (by kernel_rfl) (by decide +kernel) (by decide +kernel) (fun _ _ _ h => h) (Or.inl ⟨by rfl, ?_⟩) (by assumption) ?_
  rotate_left 1
  · (intro w' hSw; go_simp; try with_reducible rfl)
  try simp only [Act.put, List.setIfInBounds_toArray, List.set_cons_zero, List.set_cons_succ]
  refine wpAnyH_take (i := 31) (oi := ⟨some 68, _, _, _, _, _⟩) (v := ?_) rfl (by kernel_rfl) (by decide +kernel) (by decide +kernel) (fun _ _ _ h => h) (Or.inl ⟨by rfl, ?_⟩) (by assumption) ?_
  rotate_left 1
  · (intro w' hSw; go_simp; try with_reducible rfl)
  try simp only [Act.put, List.setIfInBounds_toArray, List.set_cons_zero, List.set_cons_succ]
  refine wpAnyH_take (i := 32) (oi := ⟨some 69, _, _, _, _, _⟩) (v := ?_) rfl (by kernel_rfl) (by decide +kernel) (by decide +kernel) (fun _ _ _ h => h) (Or.inl ⟨by rfl, ?_⟩) (by assumption) ?_
  rotate_left 1
  · (intro w' hSw; go_simp; try with_reducible rfl)
  try simp only [Act.put, List.setIfInBounds_toArray, List.set_cons_zero, List.set_cons_succ]
  refine wpAnyH_take (i := 33) (oi := ⟨some 70, _, _, _, _, _⟩) (v := ?_) rfl (by kernel_rfl) (by decide +kernel) (by decide +kernel) (fun _ _ _ h => h) (Or.inl ⟨by rfl, ?_⟩) (by assumption) ?_
  rotate_left 1
  · (intro w' hSw; go_simp; try with_reducible rfl)
  try simp only [Act.put, List.setIfInBounds_toArray, List.set_cons_zero, List.set_cons_succ]
  refine wpAnyH_take (i := 34) (oi := ⟨some 71, _, _, _, _, _⟩) (v := ?_) rfl (by kernel_rfl) (by decide +kernel) (by decide +kernel) (fun _ _ _ h => h) (Or.inl ⟨by rfl, ?_⟩) (by assumption) ?_
  rotate_left 1
  · (intro w' hSw; go_simp; try with_reducible rfl)
  try simp only [Act.put, List.setIfInBounds_toArray, List.set_cons_zero, List.set_cons_succ]
  refine wpAnyH_take (i := 35) (oi := ⟨some 72, _, _, _, _, _⟩) (v := ?_) rfl (by kernel_rfl) (by decide +kernel) (by decide +kernel) (fun _ _ _ h => h) (Or.inl ⟨by rfl, ?_⟩) (by assumption) ?_
  rotate_left 1
  · (intro w' hSw; go_simp; try with_reducible rfl)
  try simp only [Act.put, List.setIfInBounds_toArray, List.set_cons_zero, List.set_cons_succ]
  refine wpAnyH_take (i := 36) (oi := ⟨some 73, _, _, _, _, _⟩) (v := ?_) rfl (by kernel_rfl) (by decide +kernel) (by decide +kernel) (fun _ _ _ h => h) (Or.inl ⟨by rfl, ?_⟩) (by assumption) ?_
  rotate_left 1
  · (intro w' hSw; go_simp; try with_reducible rfl)
  try simp only [Act.put, List.setIfInBounds_toArray, List.set_cons_zero, List.set_cons_succ]
  refine wpAnyH_take (i := 38) (oi := ⟨some 75, _, _, _, _, _⟩) (v := ?_) rfl (by kernel_rfl) (by decide +kernel) (by decide +kernel) (fun _ _ _ h => h) (Or.inl ⟨by rfl, ?_⟩) (by assumption) ?_
  rotate_left 1
  · (intro w' hSw; go_simp; try with_reducible rfl)
  try simp only [Act.put, List.setIfInBounds_toArray, List.set_cons_zero, List.set_cons_succ]
  refine wpAnyH_take (i := 39) (oi := ⟨some 76, _, _, _, _, _⟩) (v := ?_) rfl (by kernel_rfl) (by decide +kernel) (by decide +kernel) (fun _ _ _ h => h) (Or.inl ⟨by rfl, ?_⟩) (by assumption) ?_
  rotate_left 1
  · (intro w' hSw; go_simp; try with_reducible rfl)
  try simp only [Act.put, List.setIfInBounds_toArray, List.set_cons_zero, List.set_cons_succ]
  refine wpAnyH_take (i := 40) (oi := ⟨some 77, _, _, _, _, _⟩) (v := ?_) rfl (by kernel_rfl) (by decide +kernel) (by decide +kernel) (fun _ _ _ h => h) (Or.inl ⟨by rfl, ?_⟩) (by assumption) ?_
  rotate_left 1
  · (intro w' hSw; go_simp; try with_reducible rfl)
  try simp only [Act.put, List.setIfInBounds_toArray, List.set_cons_zero, List.set_cons_succ]
  refine wpAnyH_take (i := 41) (oi := ⟨some 78, _, _, _, _, _⟩) (v := ?_) rfl (by kernel_rfl) (by decide +kernel) (by decide +kernel) (fun _ _ _ h => h) (Or.inl ⟨by rfl, ?_⟩) (by assumption) ?_
  rotate_left 1
  · (intro w' hSw; have hc := (hSw.cell H9.out.lt2).trans H9.out.m; go_simp; try with_reducible rfl)
  try simp only [Act.put, List.setIfInBounds_toArray, List.set_cons_zero, List.set_cons_succ]
  refine wpAnyH_take (i := 42) (oi := ⟨some 79, _, _, _, _, _⟩) (v := ?_) rfl (by kernel_rfl) (by decide +kernel) (by decide +kernel) (fun _ _ _ h => h) (Or.inl ⟨by rfl, ?_⟩) (by assumption) ?_
  rotate_left 1
  · (intro w' hSw; go_simp; try with_reducible rfl)
  try simp only [Act.put, List.setIfInBounds_toArray, List.set_cons_zero, List.set_cons_succ]
  refine wpAnyH_ready (rs := [37]) (by decide +kernel) (by simp) ?_
  refine AllReadyH.cons rfl (fun K hK => ?_) AllReadyH.nil
  go_simp
  go_at_call 21
  refine (HLF.out _ HBB6.out).mono ?_
  rintro e wt7 ⟨rfl, rfl⟩
  have HBB7 := Lib.hid (HBB6.out)
  clear hHeld
  go_wp2_with fail
  refine hK.out _ _ (HBB7.out) (fun hHeld => ?_)
  clear hK K
  try simp only [Act.put, List.setIfInBounds_toArray, List.set_cons_zero, List.set_cons_succ]
  refine wpAnyH_take (i := 43) (oi := ⟨some 80, _, _, _, _, _⟩) (v := ?_) rfl (by kernel_rfl) (by decide +kernel) (by decide +kernel) (fun _ _ _ h => h) (Or.inl ⟨by rfl, ?_⟩) (by assumption) ?_
  rotate_left 1
  · (intro w' hSw; go_simp; try with_reducible rfl)
  try simp only [Act.put, List.setIfInBounds_toArray, List.set_cons_zero, List.set_cons_succ]
  refine wpAnyH_take (i := 44) (oi := ⟨some 81, _, _, _, _, _⟩) (v := ?_) rfl (by kernel_rfl) (by decide +kernel) (by decide +kernel) (fun _ _ _ h => h) (Or.inl ⟨by rfl, ?_⟩) (by assumption) ?_
  rotate_left 1
  · (intro w' hSw; go_simp; try with_reducible rfl)
  try simp only [Act.put, List.setIfInBounds_toArray, List.set_cons_zero, List.set_cons_succ]
  refine wpAnyH_take (i := 45) (oi := ⟨some 82, _, _, _, _, _⟩) (v := ?_) rfl (by kernel_rfl) (by decide +kernel) (by decide +kernel) (fun _ _ _ h => h) (Or.inl ⟨by rfl, ?_⟩) (by assumption) ?_
  rotate_left 1
  · (intro w' hSw; go_simp; try with_reducible rfl)
  try simp only [Act.put, List.setIfInBounds_toArray, List.set_cons_zero, List.set_cons_succ]
  refine wpAnyH_take (i := 46) (oi := ⟨some 83, _, _, _, _, _⟩) rfl (by kernel_rfl) (by decide +kernel) (by decide +kernel) (fun _ _ _ h => h) (yieldsIf_load_mid (by rfl) _ _ rfl (w.heap.size) 0 rfl (ptrRow q0) _ (fun w' h => range_below H9.out.rq h) Try.underlying27 rfl (size_ptr q0)) (by assumption) ?_
  try simp only [Act.put, List.setIfInBounds_toArray, List.set_cons_zero, List.set_cons_succ]
  refine wpAnyH_ready (rs := [47]) (by decide +kernel) (by simp) ?_
  refine AllReadyH.cons rfl (fun K hK => ?_) AllReadyH.nil
  go_simp
  go_at_call 11
  refine (pput_nil q0 _).mono ?_
  rintro e wt8 ⟨rfl, hb⟩
  have HBB8 := Lib.hid (HBB7.out.trans (hb.mono HBB7.out.size))
  clear hb
  clear hHeld
  go_wp2_with fail
  refine hK.out _ _ (HBB8.out) (fun hHeld => ?_)
  clear hK K
  try simp only [Act.put, List.setIfInBounds_toArray, List.set_cons_zero, List.set_cons_succ]
  refine wpAnyH_take (i := 48) (oi := ⟨some 85, _, _, _, _, _⟩) (v := ?_) rfl (by kernel_rfl) (by decide +kernel) (by decide +kernel) (fun _ _ _ h => h) (Or.inl ⟨by rfl, ?_⟩) (by assumption) ?_
  rotate_left 1
  · (intro w' hSw; go_simp; try with_reducible rfl)
  try simp only [Act.put, List.setIfInBounds_toArray, List.set_cons_zero, List.set_cons_succ]
  refine wpAnyH_take (i := 49) (oi := ⟨some 86, _, _, _, _, _⟩) (v := ?_) rfl (by kernel_rfl) (by decide +kernel) (by decide +kernel) (fun _ _ _ h => h) (Or.inl ⟨by rfl, ?_⟩) (by assumption) ?_
  rotate_left 1
  · (intro w' hSw; go_simp; try with_reducible rfl)
  try simp only [Act.put, List.setIfInBounds_toArray, List.set_cons_zero, List.set_cons_succ]
  refine wpAnyH_take (i := 50) (oi := ⟨some 6, _, _, _, _, _⟩) (v := ?_) rfl (by kernel_rfl) (by decide +kernel) (by decide +kernel) (fun _ _ _ h => h) (Or.inl ⟨by rfl, ?_⟩) (by assumption) ?_
  rotate_left 1
  · (intro w' hSw; go_simp; try with_reducible rfl)
  try simp only [Act.put, List.setIfInBounds_toArray, List.set_cons_zero, List.set_cons_succ]
  clear hHeld
  refine wpAnyH_done (by decide +kernel) ?_ _
  refine NoPanic.normal ?_
  have HBZ := Lib.hid (HB0.out.trans ((H9.out.bel.trans (HBB8.out.mono H9.out.bel.size)).mono HB0.out.size))
  clear H9 HY HLF HEQ HQA HB0 HBB8
  go_wp2_with fail
  go_ret
  exact ⟨rfl, HBZ.out⟩
set_option maxRecDepth 100000 in
theorem lifted (os : Os) (started : os.Started) (H : Type) (enc : TypeId × Value → H) :
    ReturnsInHanded {} Try.checked os 3 .any (Rows.ptrBytesSpec.pre6 enc Try.prog Try.f3 Rows.ptrBytesRow.domain false) (Rows.ptrBytesSpec.post enc Try.prog Try.f3 false true false false) := by
  refine returnsInHanded_of_change_sized (C := Try.checked) own started (by kernel_rfl) Try.func3
    (ChangeSpec.witness6 (enc := enc) (C := Try.checked) false ⟨#[], #[.agg (#[.int .u32 0, .int .u64 0] ++ Array.replicate 32 (.int .u8 0)), .int .i64 0, .slice none 0 0], []⟩ 8 (by kernel_rfl) (by kernel_rfl) (by kernel_rfl) (by kernel_rfl)) ?_
  intro W base args ds gs before hval0 hW hcnd hsz0 _
  have hsz : (DataW.weightsEach Try.prog (Try.f3.params.toList ++ Rows.ptrBytesSpec.plain.varTypes Try.prog) (ds ++ gs)).all (· ≤ reachBytes) = true := hsz0
  clear hsz0
  have hval : ∀ (j : Nat) t v, Try.f3.params[j]? = some t → args[j]? = some v → Value.okWide Try.prog W .any base t v := hval0
  have hW' := hW
  obtain ⟨p, q, hA0, hV, rfl, hfz, hnd⟩ := hW
  have hA : DataW.TrodAll enc Try.prog W 0 (fun _ => true) true Try.f3.params.toList args.toList ds p := hA0
  rw [Try.params3] at hA hval hsz
  obtain ⟨v0, vs0, d0, ds0, p0, q0, hargs, rfl, rfl, h0, r0⟩ := trodAll_cons hA
  obtain ⟨v1, vs1, d1, ds1, p1, q1, rfl, rfl, rfl, h1, r1⟩ := trodAll_cons r0
  obtain ⟨v2, vs2, d2, ds2, p2, q2, rfl, rfl, rfl, h2, r2⟩ := trodAll_cons r1
  obtain ⟨rfl, rfl, rfl⟩ := trodAll_nil r2
  obtain rfl : args = #[v0, v1, v2] := by cases args; simp_all
  obtain ⟨rfl, rfl⟩ := trodVars_none hV
  have k0 := h0
  have lt0 : ∀ x ∈ p0, x.block < W.heap.size := by obtain ⟨m, hm⟩ := k0; exact DataW.trod_lt m _ _ _ hm
  have k1 := h1
  have lt1 : ∀ x ∈ p1, x.block < W.heap.size := by obtain ⟨m, hm⟩ := k1; exact DataW.trod_lt m _ _ _ hm
  have k2 := h2
  have lt2 : ∀ x ∈ p2, x.block < W.heap.size := by obtain ⟨m, hm⟩ := k2; exact DataW.trod_lt m _ _ _ hm
  obtain ⟨q0, rfl⟩ := par_ptr (j := 0) (hval 0 27 v0 rfl rfl) h0 hsz rfl rfl
  obtain ⟨z1, rfl, za1, zb1⟩ := par_int (j := 1) .i64 _ _ Try.underlying3 wf_i64 (hval 1 3 v1 rfl rfl) h1 hsz rfl rfl
  obtain ⟨a2, len2, cap2, x2, rfl, e2, m2, n2, b2⟩ := par_bytes (j := 2) (hval 2 28 v2 rfl rfl) h2 hsz rfl rfl
  clear hA0 hval0
  simp only [List.append_nil] at hW'
  refine (walk W q0 z1 za1 zb1 a2 len2 cap2 x2 e2 m2 n2 b2).mono fun e W' ⟨he, bel⟩ => ?_
  subst he
  exact ⟨_, rfl, _, _, _, [], _, [], hW', trodAll_mk1 (shut_bool Try.underlying4 _), (trodAll_cons_mk (Below.trod laidOut (by kernel_rfl) (of_decide_eq_true (by kernel_rfl)) k0 bel lt0) (trodAll_cons_mk (Below.trod laidOut (by kernel_rfl) (of_decide_eq_true (by kernel_rfl)) k1 bel lt1) (trodAll_cons_mk (Below.trod laidOut (by kernel_rfl) (of_decide_eq_true (by kernel_rfl)) k2 bel lt2) trodAll_mk0))), rfl, bel.frame _, fun h => by cases h⟩

theorem over : Rows.ptrBytesRow.holds Try.pinned (OpenSpec.ofChange Rows.ptrBytesSpec) :=
  OpenClaim.holds_of_wide 3 Try.f3 rfl rfl rfl rfl rfl rfl rfl ⟨rfl, rfl, rfl, rfl, rfl⟩ rfl rfl rfl rfl rfl (by kernel_rfl) Try.func3 (by kernel_rfl)
    (of_decide_eq_true (by kernel_rfl)) (by unfold Func.isWrapper; first | (rw [if_pos (by decide +kernel)]; kernel_rfl) | (rw [if_neg (by decide +kernel)]; exact ⟨rfl, rfl⟩))
    (fun os started H enc _ => lifted os started H enc)

/-- The statement. -/
theorem proved : Rows.PtrBytesSaid := over
#print axioms proved
end Go.Proofs.Ytbnclmlbennhaaa.ptrBytes
