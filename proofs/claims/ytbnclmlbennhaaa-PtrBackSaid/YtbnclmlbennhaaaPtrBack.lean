/-
  'PtrBack' returns true at every input, and each argument reads behind the call as it read before. Conditions: none.
-/
import Derived.Test.YtbnclmlbennhaaaRows
import Derived.Test.YtbnclmlbennhaaaYLaid
import Derived.Test.YtbnclmlbennhaaaPl
namespace Go.Proofs.Ytbnclmlbennhaaa.ptrBack
open Go.ChangeShapes Go.WideShapes Go.ChangeAt Go.RowKit
set_option linter.unusedVariables false

def ptrsB (l : List PtrV) : List Int := (l.map ptrB).flatten
theorem ptrsB_snoc (l : List PtrV) (q : PtrV) : ptrsB (l ++ [q]) = ptrsB l ++ ptrB q := by simp [ptrsB]
theorem ptrsB_length (l : List PtrV) : (ptrsB l).length = 44 * l.length := by
  induction l with
  | nil => rfl
  | cons q l ih =>
    have : ptrsB (q :: l) = ptrB q ++ ptrsB l := by simp [ptrsB]
    rw [this, List.length_append, ih, ptrB_length, List.length_cons]
    omega
theorem ptrsB_byt (l : List PtrV) : Byt (ptrsB l) := by
  intro z hz
  obtain ⟨y, hy, hz⟩ := List.mem_flatten.1 hz
  obtain ⟨q, _, rfl⟩ := List.mem_map.1 hy
  exact ptrB_byt q z hz
theorem ptrsB_drop (l : List PtrV) (i : Nat) (q : PtrV) (h : l[i]? = some q) : ptrsB (l.drop i) = ptrB q ++ ptrsB (l.drop (i + 1)) := by
  obtain ⟨hi, rfl⟩ := List.getElem?_eq_some_iff.1 h
  rw [List.drop_eq_getElem_cons hi]
  unfold ptrsB
  rw [List.map_cons, List.flatten_cons]
theorem rlc_ptr {w0 w : World} {R : Nat} {l : List Int} (h : RL w0 w R l) :
    Calls Try.prog 13 #[.pointer (some ⟨R, 0, none⟩)] w fun e w' => e = .returned (.tuple #[.agg (ptrRow (getA l).1).toArray, .int .i64 (getA l).2.1]) ∧ RL w0 w' R (getA l).2.2 ∧ Chg R w w' := by
  obtain ⟨a, x, c, h, hR, hb⟩ := h
  exact (pget_any R x c a l w h).mono fun e w' ⟨he, ⟨a', x', c', hr⟩, hC⟩ => ⟨he, ⟨a', x', c', hr, hR, hb.trans (hC.below hR hb.size)⟩, hC⟩
/-- A pointer laid into a block just made. -/
theorem new_row (w : World) (Z R : Array Value) : ((w.alloc (.cells Z 27)).setRow w.heap.size R).heap[w.heap.size]? = some (.cells R 27 (0, 0)) ∧ Below w.heap.size w ((w.alloc (.cells Z 27)).setRow w.heap.size R) := by
  obtain ⟨e1, e2, e3⟩ := ygen_row (w := w) (old := Z) (cs := R) (T := 27)
  exact ⟨e1, e3⟩

set_option maxRecDepth 100000 in
set_option maxHeartbeats 3200000 in
theorem walk (w : World) (a0 : Option Addr) (len0 cap0 : Nat) (x0 : List PtrV) (sl0 : SlR RPtrV 34 w x0 a0 len0 cap0) (z1 : Int) (za1 : 0 ≤ z1) (zb1 : z1 ≤ 255) :
    Calls Try.prog 5 #[.slice a0 len0 cap0, .int .u8 z1] w fun e w' => e = .returned (.bool true) ∧ Below w.heap.size w w' := by
  obtain ⟨z, rfl⟩ : ∃ z : Nat, z1 = (z : Int) := ⟨z1.toNat, by omega⟩
  have lI : (len0 : Int) ≤ 140737488351232 := by have := sl0.big; have := sl0.cap; omega
  have HSL := Lib.hid sl0
  have HA := Lib.hid (alive8_any w)
  have hz := zero_writer
  have HZ := Lib.hid zb1
  clear sl0 za1 zb1
  by_cases hbig : 60 < len0
  · have hbI : (60 : Int) < (len0 : Int) := by omega
    clear hbig
    go_enter Try.func5, Try.ntmps5
    go_wp2_with fail
    refine HA.out.mono ?_
    rintro e w1 ⟨rfl, hb1⟩
    have HB1 := Lib.hid hb1
    clear hb1 HA
    go_wp2_with fail
    go_ret
    exact ⟨rfl, HB1.out⟩
  have hsm : (len0 : Int) ≤ 60 := by omega
  have HS0 := Lib.hid (show len0 ≤ 60 by omega)
  have HLN := Lib.hid HSL.out.len
  clear hbig
  have hzp := zero_ptr
  have HZL := Lib.hid (fun q : PtrV => show (ptrRow zeroPtr).toArray.size = (ptrRow q).toArray.size by simp [ptrRow_length])
  have HEQZ := Lib.hid (eq_zero zeroPtr)
  rw [show decide (zeroPtr = zeroPtr) = true from decide_eq_true rfl] at HEQZ
  have SZ := Lib.hid (size_ptrA zeroPtr)
  have SZO := Lib.hid (ptrRow_one zeroPtr)
  obtain ⟨ZA, hZA⟩ : ∃ ZA, (ptrRow zeroPtr).toArray = ZA := ⟨_, rfl⟩
  rw [hZA] at hzp HZL HEQZ SZ SZO
  have HZA := Lib.hid hZA
  clear hZA
  go_enter Try.func5, Try.ntmps5
  go_wp2_with fail
  refine HA.out.mono ?_
  rintro e w1 ⟨rfl, hb1⟩
  have HW1 := Lib.hid (wl_new hb1)
  clear hb1 HA
  go_wp2_with fail
  clear hz
  generalize w1.heap.size = P at *
  go_loopw [25] (fun v25 wr => ∃ i : Nat, i ≤ len0 ∧ v25 = .int .i64 (i : Int) ∧ WL w wr P (ptrsB (x0.take i))) (fun v _ => len0 - (intOf v).toNat)
  case atStart => exact ⟨0, by omega, rfl, HW1.out⟩
  case round =>
    obtain ⟨i, hi, rfl, hW⟩ := hrel
    by_cases hlt : i < len0
    · obtain ⟨b, off, q, rfl, hxi, hrg⟩ := ptrs_at HSL.out hW.bel hlt
      have hix := index_ptr b off len0 cap0 i hlt
      have SWC := Lib.hid (size_ptr q)
      have SWR := Lib.hid (size_ptrA q)
      have EW := Lib.hid (HZL.out q)
      have WO := Lib.hid (ptrRow_one q)
      have HRG := Lib.hid hrg
      have HLT := Lib.hid hlt
      have HW := Lib.hid hW
      have HNX := Lib.hid (show ptrsB (x0.take (i + 1)) = ptrsB (x0.take i) ++ ptrB q by
        rw [List.take_add_one, hxi]; exact ptrsB_snoc _ q)
      have HLL := Lib.hid (show (ptrsB (x0.take i)).length ≤ 2640 by rw [ptrsB_length, List.length_take]; have := HS0.out; omega)
      have iI : (i : Int) < (len0 : Int) := by omega
      have i0 : (0 : Int) ≤ (i : Int) := by omega
      clear hi hlt hrg hxi hW
      go_upto_region 9 with (first
        | (with_reducible refine wpList_load_mid (op := ⟨some 28, _, _, _, _, _⟩) rfl 27 _ rfl b (off + i * 34) rfl (ptrRow q) _ HRG.out Try.underlying27 rfl SWC.out ?_)
        | (with_reducible refine wpList_store_row (o := ⟨none, .store _ (.tmp 7) _, _, _, _, _⟩) rfl 27 _ _ rfl wr.heap.size (ptrRow q).toArray rfl rfl 27 ZA (heap_alloc_new wr _) SWR.out EW.out WO.out ?_))
      clear hix
      obtain ⟨h7, hb7⟩ := new_row wr ZA (ptrRow q).toArray
      generalize World.setRow _ wr.heap.size _ = w7 at *
      have H7 := Lib.hid h7
      have HPT := Lib.hid (wl_ptr w w7 P _ q (HW.out.below hb7) (by have := HLL.out; omega))
      rw [← HNX.out] at HPT
      clear h7 hb7 HRG SWC EW WO HW HNX HLL
      generalize (ptrRow q).toArray = AR at *
      go_wp2_with (first
        | (with_reducible refine wpList_load_row (o := ⟨some 29, _, _, _, _, _⟩) rfl 27 _ rfl wr.heap.size rfl 27 AR (0, 0) _ H7.out Try.underlying27 rfl SWR.out ?_))
      refine HPT.out.mono ?_
      rintro e w8 ⟨rfl, hw8⟩
      have HW8 := Lib.hid hw8
      clear hw8 HPT H7
      go_wp2_with fail
      go_roundw
      case rel => exact ⟨i + 1, by have := HLT.out; omega, by go_num, HW8.out⟩
      case measure => simp [intOf]; have := HLT.out; omega
    · obtain rfl : i = len0 := by omega
      rw [List.take_of_length_le (by have := HLN.out; omega)] at hW
      have HW := Lib.hid hW
      clear hi hlt hW
      have HBL := Lib.hid (show (ptrsB x0).length = 44 * i by rw [ptrsB_length, HLN.out])
      have HBY := Lib.hid (wl_bytes w wr P _ HW.out (by have := HBL.out; have := HS0.out; omega))
      rw [HBL.out] at HBY
      go_wp2_with fail
      refine HBY.out.mono ?_
      rintro e wm ⟨a8, c8, rfl, hc8, hbs8, hw8, hb8⟩
      have HBM := Lib.hid hw8.bel
      have HBS := Lib.hid hbs8
      have HC8 := Lib.hid hc8
      have HRD := Lib.hid (rl_read wm wm _ _ (Below.refl _ _) hbs8 (by have := HBL.out; have := HS0.out; omega))
      clear hc8 hbs8 hw8 hb8 HBY HW
      go_wp2_with fail
      refine HRD.out.mono ?_
      rintro e w13 ⟨R, rfl, hr13, _⟩
      have HR13 := Lib.hid hr13
      clear hr13 HRD
      go_wp2_with fail
      go_loopw [38] (fun v38 wr => ∃ j : Nat, j ≤ i ∧ v38 = .int .i64 (j : Int) ∧ RL wm wr R (ptrsB (x0.drop j))) (fun v _ => i - (intOf v).toNat)
      case atStart => exact ⟨0, by omega, rfl, HR13.out⟩
      case round =>
        obtain ⟨j, hj, rfl, hR⟩ := hrel
        have HB := Lib.hid (HBM.out.trans (hR.bel.mono HBM.out.size))
        by_cases hlj : j < i
        · obtain ⟨b, off, q, rfl, hxj, hrg⟩ := ptrs_at HSL.out HB.out hlj
          have hix := index_ptr b off i cap0 j hlj
          have SWC := Lib.hid (size_ptr q)
          have SWR := Lib.hid (size_ptrA q)
          have EW := Lib.hid (HZL.out q)
          have WO := Lib.hid (ptrRow_one q)
          have HRG := Lib.hid hrg
          have HLJ := Lib.hid hlj
          have HEQ := Lib.hid (eq_ptr q q)
          rw [ptrsB_drop x0 j q hxj] at hR
          have HR := Lib.hid hR
          have HGA := Lib.hid (getA_ptrB q (ptrsB (x0.drop (j + 1))) (ptrsB_byt _))
          have jI : (j : Int) < (i : Int) := by omega
          have j0 : (0 : Int) ≤ (j : Int) := by omega
          clear hj hlj hrg hxj hR
          go_upto_region 17 with (first
            | (with_reducible refine wpList_load_mid (op := ⟨some 41, _, _, _, _, _⟩) rfl 27 _ rfl b (off + j * 34) rfl (ptrRow q) _ HRG.out Try.underlying27 rfl SWC.out ?_)
            | (with_reducible refine wpList_store_row (o := ⟨none, .store _ (.tmp 11) _, _, _, _, _⟩) rfl 27 _ _ rfl wr.heap.size (ptrRow q).toArray rfl rfl 27 ZA (heap_alloc_new wr _) SWR.out EW.out WO.out ?_))
          clear hix
          obtain ⟨h7, hb7⟩ := new_row wr ZA (ptrRow q).toArray
          have HNE := Lib.hid (show R ≠ wr.heap.size by obtain ⟨_, _, _, hrr, _⟩ := HR.out; have := (Array.getElem?_eq_some_iff.1 hrr.cell).1; omega)
          generalize World.setRow _ wr.heap.size _ = w7 at *
          have H7 := Lib.hid h7
          have HGT := Lib.hid (rlc_ptr (HR.out.below hb7))
          rw [HGA.out] at HGT
          clear h7 hb7 HRG SWC HR HGA
          generalize (ptrRow q).toArray = AR at *
          go_wp2_with fail
          refine HGT.out.mono ?_
          rintro e w8 ⟨rfl, hr8, hc8⟩
          have HR8 := Lib.hid hr8
          have H8 := Lib.hid ((hc8.block wr.heap.size (Array.getElem?_eq_some_iff.1 H7.out).1 (Ne.symm HNE.out)).trans H7.out)
          clear hr8 hc8 HGT H7
          go_upto_region 18 with (first
            | (with_reducible refine wpList_store_row (o := ⟨none, .store _ (.tmp 12) _, _, _, _, _⟩) rfl 27 _ _ rfl w8.heap.size AR rfl rfl 27 ZA (heap_alloc_new w8 _) SWR.out EW.out WO.out ?_))
          obtain ⟨h9, hb9⟩ := new_row w8 ZA AR
          generalize World.setRow _ w8.heap.size _ = w9 at *
          have H9 := Lib.hid h9
          have H89 := Lib.hid ((hb9.block wr.heap.size (Array.getElem?_eq_some_iff.1 H8.out).1).trans H8.out)
          have HR9 := Lib.hid (HR8.out.below hb9)
          have heq := HEQ.out
          clear h9 hb9 H8 HR8 EW WO HEQ
          go_wp2_with (first
            | (with_reducible refine wpList_load_row (o := ⟨some 47, _, _, _, _, _⟩) rfl 27 _ rfl w8.heap.size rfl 27 AR (0, 0) _ H9.out Try.underlying27 rfl SWR.out ?_)
            | (with_reducible refine wpList_load_row (o := ⟨some 48, _, _, _, _, _⟩) rfl 27 _ rfl wr.heap.size rfl 27 AR (0, 0) _ H89.out Try.underlying27 rfl SWR.out ?_))
          go_roundw
          case rel => exact ⟨j + 1, by have := HLJ.out; omega, by go_num, HR9.out⟩
          case measure => simp [intOf]; have := HLJ.out; omega
        · obtain rfl : j = i := by omega
          rw [show x0.drop j = [] from List.drop_eq_nil_of_le (by have := HLN.out; omega), show ptrsB [] = [] from rfl] at hR
          have HR := Lib.hid hR
          clear hj hlj hR
          have HLF := Lib.hid (rl_left wm wr R _ HR.out)
          rw [show (([] : List Int).length : Int) = 0 from rfl] at HLF
          by_cases hz0 : j = 0
          · subst hz0
            go_wp2_with fail
            refine HLF.out.mono ?_
            rintro e wl ⟨rfl, rfl⟩
            go_wp2_with fail
            go_ret
            exact ⟨rfl, HB.out⟩
          have hnz : ((j : Int) == 0) = false := by simp; omega
          have HJ := Lib.hid (show 1 ≤ j by omega)
          clear hz0
          go_wp2_with fail
          refine HLF.out.mono ?_
          rintro e wl ⟨rfl, rfl⟩
          have xz : IntKind.i64.wrap (z : Int) = (z : Int) := IntWalk.i64_in _ (by have := HZ.out; omega)
          have hLm : 44 ≤ 44 * j ∧ 44 * j ≤ 2640 := by have := HJ.out; have := HS0.out; omega
          generalize 44 * j = L at *
          obtain ⟨k, hk⟩ : ∃ k : Nat, (z : Int) % 44 = (k : Int) := ⟨((z : Int) % 44).toNat, by omega⟩
          have hk43 : k ≤ 43 := by omega
          obtain ⟨lo, hlo⟩ : ∃ lo : Nat, (L : Int) - 44 = (lo : Int) := ⟨L - 44, by omega⟩
          obtain ⟨hi, hhi⟩ : ∃ hi : Nat, (L : Int) - ((k : Int) + 1) = (hi : Int) := ⟨L - (k + 1), by omega⟩
          obtain ⟨m, hm⟩ : ∃ m : Nat, 44 - ((k : Int) + 1) = (m : Int) := ⟨44 - (k + 1), by omega⟩
          obtain ⟨a9, e9, _, _, B9⟩ := slice_cut wm a8 L c8 lo hi _ HBS.out HBL.out (by omega) (by omega) HC8.out
          rw [show hi - lo = m by omega] at e9 B9
          have HRB := Lib.hid (HR.out.bel)
          have HRD := Lib.hid (rl_read w wl _ _ HB.out (B9.kept HR.out.bel) (by rw [List.length_take, List.length_drop]; omega))
          have HTL := Lib.hid (show (((ptrsB x0).drop lo).take m).length = m by rw [List.length_take, List.length_drop, HBL.out]; omega)
          have HGS := Lib.hid (show getA (((ptrsB x0).drop lo).take m) = (zeroPtr, 3, ((ptrsB x0).drop lo).take m) by unfold getA; rw [if_pos (by rw [HTL.out]; omega)])
          have HMM := Lib.hid (And.intro hLm (And.intro hk43 (And.intro hlo (And.intro hhi hm))))
          have lb1 : (44 : Int) ≤ (L : Int) := by omega
          have lb2 : (L : Int) ≤ 2640 := by omega
          have kb : (k : Int) ≤ 43 := by omega
          have kb0 : (0 : Int) ≤ (k : Int) := by omega
          have mb : (m : Int) ≤ 43 := by omega
          have hib : (hi : Int) ≤ 2640 := by omega
          clear hLm hk43 B9
          generalize ((ptrsB x0).drop lo).take m = TL at *
          go_wp2_with fail
          refine HRD.out.mono ?_
          rintro e ws ⟨R2, rfl, hrs, hbs⟩
          have HGT := Lib.hid (rlc_ptr hrs)
          rw [HGS.out, HZA.out] at HGT
          have HBS2 := Lib.hid (HB.out.trans (hbs.mono HB.out.size))
          clear hrs hbs HRD e9 hlo hhi lb1 lb2 hib HBS
          go_wp2_with fail
          refine HGT.out.mono ?_
          rintro e wt ⟨rfl, hrt, hct⟩
          have HRT := Lib.hid hrt
          have HCT := Lib.hid hct
          clear hrt hct HGT
          go_upto_region 26 with (first
            | (with_reducible refine wpList_store_row (o := ⟨none, .store _ (.tmp 16) _, _, _, _, _⟩) rfl 27 _ _ rfl wt.heap.size ZA rfl rfl 27 ZA (heap_alloc_new wt _) SZ.out rfl SZO.out ?_))
          obtain ⟨h9, hb9⟩ := new_row wt ZA ZA
          generalize World.setRow _ wt.heap.size _ = w9 at *
          have H9 := Lib.hid h9
          have HLF2 := Lib.hid (rl_left w w9 R2 _ (HRT.out.below hb9))
          rw [HTL.out] at HLF2
          have heq := HEQZ.out
          have HBF := Lib.hid (HRT.out.below hb9).bel
          clear h9 hb9 hzp
          go_wp2_with (first
            | (with_reducible refine wpList_load_row (o := ⟨some 85, _, _, _, _, _⟩) rfl 27 _ rfl wt.heap.size rfl 27 ZA (0, 0) _ H9.out Try.underlying27 rfl SZ.out ?_))
          refine HLF2.out.mono ?_
          rintro e wq ⟨rfl, rfl⟩
          clear heq
          go_wp2_with fail
          go_ret
          exact ⟨rfl, HBF.out⟩
set_option maxRecDepth 100000 in
theorem lifted (os : Os) (started : os.Started) (H : Type) (enc : TypeId × Value → H) :
    ReturnsInHanded {} Try.checked os 5 .any (Rows.ptrBackSpec.pre6 enc Try.prog Try.f5 Rows.ptrBackRow.domain false) (Rows.ptrBackSpec.post enc Try.prog Try.f5 false true false false) := by
  refine returnsInHanded_of_change_sized (C := Try.checked) own started (by kernel_rfl) Try.func5
    (ChangeSpec.witness6 (enc := enc) (C := Try.checked) false ⟨#[], #[.slice none 0 0, .int .u8 0], []⟩ 8 (by kernel_rfl) (by kernel_rfl) (by kernel_rfl) (by kernel_rfl)) ?_
  intro W base args ds gs before hval0 hW hcnd hsz0 _
  have hsz : (DataW.weightsEach Try.prog (Try.f5.params.toList ++ Rows.ptrBackSpec.plain.varTypes Try.prog) (ds ++ gs)).all (· ≤ reachBytes) = true := hsz0
  clear hsz0
  have hval : ∀ (j : Nat) t v, Try.f5.params[j]? = some t → args[j]? = some v → Value.okWide Try.prog W .any base t v := hval0
  have hW' := hW
  obtain ⟨p, q, hA0, hV, rfl, hfz, hnd⟩ := hW
  have hA : DataW.TrodAll enc Try.prog W 0 (fun _ => true) true Try.f5.params.toList args.toList ds p := hA0
  rw [Try.params5] at hA hval hsz
  obtain ⟨v0, vs0, d0, ds0, p0, q0, hargs, rfl, rfl, h0, r0⟩ := trodAll_cons hA
  obtain ⟨v1, vs1, d1, ds1, p1, q1, rfl, rfl, rfl, h1, r1⟩ := trodAll_cons r0
  obtain ⟨rfl, rfl, rfl⟩ := trodAll_nil r1
  obtain rfl : args = #[v0, v1] := by cases args; simp_all
  obtain ⟨rfl, rfl⟩ := trodVars_none hV
  have k0 := h0
  have lt0 : ∀ x ∈ p0, x.block < W.heap.size := by obtain ⟨m, hm⟩ := k0; exact DataW.trod_lt m _ _ _ hm
  have k1 := h1
  have lt1 : ∀ x ∈ p1, x.block < W.heap.size := by obtain ⟨m, hm⟩ := k1; exact DataW.trod_lt m _ _ _ hm
  obtain ⟨x0, a0, len0, cap0, rfl, sl0⟩ := par_slice (j := 0) Try.underlying54 opn_ptrs (hval 0 54 v0 rfl rfl) h0 hsz rfl rfl
  obtain ⟨z1, rfl, za1, zb1⟩ := par_int (j := 1) .u8 _ _ Try.underlying5 wf_u8 (hval 1 5 v1 rfl rfl) h1 hsz rfl rfl
  clear hA0 hval0
  simp only [List.append_nil] at hW'
  refine (walk W a0 len0 cap0 x0 sl0 z1 za1 zb1).mono fun e W' ⟨he, bel⟩ => ?_
  subst he
  exact ⟨_, rfl, _, _, _, [], _, [], hW', trodAll_mk1 (shut_bool Try.underlying4 _), (trodAll_cons_mk (Below.trod laidOut (by kernel_rfl) (of_decide_eq_true (by kernel_rfl)) k0 bel lt0) (trodAll_cons_mk (Below.trod laidOut (by kernel_rfl) (of_decide_eq_true (by kernel_rfl)) k1 bel lt1) trodAll_mk0)), rfl, bel.frame _, fun h => by cases h⟩

theorem over : Rows.ptrBackRow.holds Try.pinned (OpenSpec.ofChange Rows.ptrBackSpec) :=
  OpenClaim.holds_of_wide 5 Try.f5 rfl rfl rfl rfl rfl rfl rfl ⟨rfl, rfl, rfl, rfl, rfl⟩ rfl rfl rfl rfl rfl (by kernel_rfl) Try.func5 (by kernel_rfl)
    (of_decide_eq_true (by kernel_rfl)) (by unfold Func.isWrapper; first | (rw [if_pos (by decide +kernel)]; kernel_rfl) | (rw [if_neg (by decide +kernel)]; exact ⟨rfl, rfl⟩))
    (fun os started H enc _ => lifted os started H enc)

/-- The statement. -/
theorem proved : Rows.PtrBackSaid := over
#print axioms proved
end Go.Proofs.Ytbnclmlbennhaaa.ptrBack
