/-
  'DevTwice' returns true at every input, and each argument reads behind the call as it read before. Conditions: none.
-/
import Derived.Test.YtmfpdbmohebodaaRows
import Derived.Test.YtmfpdbmohebodaaYLaid
import Derived.Test.YtmfpdbmohebodaaPRow
namespace Go.Proofs.Ytmfpdbmohebodaa.devTwice
open Go.ChangeShapes Go.WideShapes Go.ChangeAt Go.RowKit
set_option linter.unusedVariables false


set_option maxRecDepth 100000 in
set_option maxHeartbeats 3200000 in
theorem walk (w : World) (a0 : Option Addr) (len0 cap0 : Nat) (x0 : List (BitVec 8)) (e0 : x0.length = len0) (b0 : BS w (.slice a0 len0 cap0) (x0.map yv)) (m0 : len0 ≤ cap0) (n0 : cap0 ≤ 140737488351232) (keep : Nat) (hkeep : keep < 18446744073709551616) :
    Calls Try.prog 9 #[.slice a0 len0 cap0, .int .u64 (keep : Int)] w fun e w' => e = .returned (.bool true) ∧ Below w.heap.size w w' := by
  have y3 : (3 : Int) = yv (3 : BitVec 8) := by decide
  have y9 : (9 : Int) = yv (9 : BitVec 8) := by decide
  have y8 : (8 : Int) = yv (8 : BitVec 8) := by decide
  have HPi := Lib.hid (fun (i : Nat) (hi : i < 60) (w0 w : World) K D gl n F ws lim dn h => by have q := po_sector w0 w K D gl n F ws lim dn (BitVec.ofNat 8 i) 3 h; rw [← yv_small i (by omega), ← y3] at q; exact q)
  have HP9 := Lib.hid (fun (w0 w : World) K D gl n F ws lim dn h => by have q := po_sector w0 w K D gl n F ws lim dn 9 8 h; rw [← y9, ← y8] at q; exact q)
  have HL9 := Lib.hid (secB_length 9 8)
  have HNW := Lib.hid (fun w1 hb => po_new w w1 16 hb (by decide) (by decide))
  generalize zeroY (16 * 512) = Z at *
  generalize secB 9 8 = S9 at *
  have HBS := Lib.hid b0
  have HE0 := Lib.hid e0
  have HKP := Lib.hid hkeep
  have lI : (len0 : Int) ≤ 140737488351232 := by omega
  clear y3 y9 y8 b0 e0 m0 hkeep
  go_enter Try.func9, Try.ntmps9
  go_wp2_with fail
  refine (alive6_any w).mono ?_
  rintro e w1 ⟨rfl, hb1⟩
  have HN := Lib.hid (HNW.out w1 hb1)
  have HB1 := Lib.hid hb1
  clear hb1 HNW
  by_cases hbig : 60 < len0
  · have h3 : (60 : Int) < (len0 : Int) := by omega
    go_wp2_with fail
    go_ret
    exact ⟨rfl, HB1.out⟩
  · have h3 : decide ((60 : Int) < (len0 : Int)) = false := by simp; omega
    have HLE := Lib.hid (show len0 ≤ 60 by omega)
    clear hbig
    go_wp2_with fail
    refine HN.out.mono ?_
    rintro e w2 ⟨rfl, hP2, hb2⟩
    generalize w1.heap.size + 2 = D at *
    generalize w1.heap.size = gl at *
    have HP := Lib.hid hP2
    clear hP2 hb2 HN h3
    go_wp2_with fail
    go_loopw [31] (fun v31 wr => ∃ i : Nat, i ≤ len0 ∧ v31 = .int .i64 (i : Nat) ∧ ∃ K ws, PO w wr K D gl 16 Z ws (-1) false ∧ ws.length ≤ i) (fun v _ => len0 - (intOf v).toNat)
    case atStart => exact ⟨0, by omega, rfl, _, [], HP.out, by simp⟩
    case round =>
      obtain ⟨i, hi, rfl, K, ws, hP, hws⟩ := hrel
      by_cases hlt : i < len0
      · obtain ⟨g0, o0, rfl, _, hc⟩ := (HBS.out.kept hP.bel).cellY HE0.out hlt
        obtain ⟨m, hm⟩ : ∃ m : Nat, (x0.getD i 0).toNat = m := ⟨_, rfl⟩
        have hmy : yv (x0.getD i 0) = (m : Int) := by rw [yv_nat, hm]
        rw [hmy] at hc
        obtain ⟨q, hq⟩ : ∃ q : Nat, m % 16 = q := ⟨_, rfl⟩
        have mI : (m : Int) < 256 := by have := (x0.getD i 0).isLt; omega
        have hqI : (m : Int) % 16 = (q : Int) := by omega
        have HQ := Lib.hid (show q < 16 by omega)
        have qI : (q : Int) < 16 := by omega
        have m0I : (0 : Int) ≤ (m : Int) := by omega
        have q0I : (0 : Int) ≤ (q : Int) := by omega
        have iI : (i : Int) < (len0 : Int) := by omega
        have i0 : (0 : Int) ≤ (i : Int) := by omega
        have i6 : (i : Int) < 60 := by have := HLE.out; omega
        have HWS := Lib.hid hws
        have HLT := Lib.hid hlt
        have HSC := Lib.hid (HPi.out i (by have := HLE.out; omega) _ _ _ _ _ _ _ _ _ _ hP)
        clear hP hi hlt hws hm hmy hq
        go_wp2_with fail
        refine HSC.out.mono ?_
        rintro e w8 ⟨rfl, hA8, hP8, _⟩
        have HC := Lib.hid (po_write w w8 _ D gl 16 q _ 512 Z _ _ hP8 HQ.out hA8 (secB_length _ _) (by have := HWS.out; have := HLE.out; have := HLT.out; omega))
        clear hA8 hP8 HSC
        generalize wr.heap.size = X8 at *
        go_wp2_with fail
        refine HC.out.mono ?_
        rintro e w9 ⟨rfl, hP9, _⟩
        have HP9 := Lib.hid hP9
        clear hP9 HC
        go_wp2_with fail
        go_roundw
        case rel => exact ⟨i + 1, by have := HLT.out; omega, by go_num, _, _, HP9.out, by have := HWS.out; simp; omega⟩
        case measure => simp [intOf]; have := HLT.out; omega
      · have hbv : decide (i < len0) = false := by simp; omega
        have HC := Lib.hid (po_crash w wr _ D gl 16 keep 2 _ _ _ _ hP (by have := HLE.out; omega) HKP.out)
        clear hP hi hlt hws
        go_wp2_with fail
        refine HC.out.mono ?_
        rintro e w3 ⟨rfl, hP3, _⟩
        generalize crashM keep 2 Z ws ws.length = F1 at *
        have HP3 := Lib.hid hP3
        clear hP3 HC
        go_wp2_with fail
        go_loopw [9, 48] (fun v9 v48 wr => ∃ j : Nat, j ≤ 16 ∧ v48 = .int .u32 (j : Nat) ∧ ∃ va, va = v9 ∧ ∃ (K : List Nat) (X : Nat → Nat), PO w wr K D gl 16 F1 [] (-1) false ∧ (∀ k, k < j → X k ∈ K ∧ ArrY wr (X k) 74 (secY F1 k)) ∧ wr.ownsRow w.heap.size 36 1 va j ((List.range j).map fun k => .slice (some ⟨X k, 0, none⟩) 512 512) ∧ (∀ g, va.ownBlock = some g → g ∈ K)) (fun _ v _ => 16 - (intOf v).toNat)
        case atStart => exact ⟨0, by omega, rfl, _, rfl, _, fun _ => 0, HP3.out, fun k hk => by omega, World.ownsRow_nil _ _ _ _, fun g hg => by simp [Value.ownBlock] at hg⟩
        case round =>
          obtain ⟨j, hj, rfl, va, rfl, K2, X, hP, hX, hown, hvK⟩ := hrel
          by_cases hlt : j < 16
          · have jI : (j : Int) < 16 := by omega
            have j0 : (0 : Int) ≤ (j : Int) := by omega
            have HLT := Lib.hid hlt
            have HK := Lib.hid (po_peek w wr _ D gl 16 j _ _ _ _ hP hlt)
            have HOW := Lib.hid hown
            have HXX := Lib.hid hX
            have HVK := Lib.hid hvK
            clear hP hj hlt hown hX hvK
            go_wp2_with fail
            refine HK.out.mono ?_
            rintro e w4 ⟨⟨rfl, hA4, _, hb4⟩, hP4⟩
            have HA4 := Lib.hid hA4
            have HP4 := Lib.hid hP4
            have HOW4 := Lib.hid (own_below' HOW.out hb4)
            have HX4 := Lib.hid (show ∀ k, k < j → X k ∈ K2 ∧ ArrY w4 (X k) 74 (secY F1 k) from fun k hk => ⟨(HXX.out k hk).1, (HXX.out k hk).2.below hb4 (zlt (HXX.out k hk).2)⟩)
            have hq := (Below.refl w4.heap.size w4).alloc (Nat.le_refl _) (.cells #[.slice (some ⟨wr.heap.size, 0, none⟩) 512 512] 36)
            have HOW5 := Lib.hid (own_below' HOW4.out hq)
            have HBQ := Lib.hid hq
            have HWW := Lib.hid (Nat.le_trans HP4.out.bel.size (Nat.le_refl _))
            obtain ⟨i0, hi, hzz⟩ := Option.map_eq_some_iff.1 info_bytes
            simp only [Prod.mk.injEq] at hzz
            have HI := Lib.hid hi
            have HZZ := Lib.hid hzz
            have HSQ := Lib.hid (show (w4.alloc (.cells #[.slice (some ⟨wr.heap.size, 0, none⟩) 512 512] 36)).heap.size = w4.heap.size + 1 by simp)
            clear hA4 hb4 hP4 HK HOW HXX hi hzz hq
            generalize hY : wr.heap.size = Y at *
            have HY := Lib.hid hY
            clear hY
            go_wp2_with (first
              | (at_builtin; refine wpList_append_own_at (o := ⟨some 60, _, _, _, _, _⟩) _ rfl _ _ 65 rfl w.heap.size 36 i0 (.slice none 0 0) 1 24 Try.underlying65 HI.out HZZ.out.1 HZZ.out.2.1 HZZ.out.2.2 rfl (by decide) va j _ rfl HOW5.out ⟨w4.heap.size, 0, none⟩ 1 1 [.slice (some ⟨Y, 0, none⟩) 512 512] rfl rfl (cell_one_new _ _ _) (by intro u hu; simp only [List.mem_cons, List.not_mem_nil, or_false] at hu; subst hu; rfl) (by have := HLT.out; unfold maxLen; omega) (by have := HLT.out; omega) (by have := HWW.out; have := HSQ.out; omega) ?_; intro v6 w6 hown6 hg6 hnil6 hloc6))
            have HT := Lib.hid (show Touch va.ownBlock.toList w4 w6 from (Touch.of_below HBQ.out).trans ⟨hg6.os, hg6.tape, hg6.output, hg6.size, fun k hk hn => hg6.block k hk (fun e => hn (by simp [← e]))⟩)
            have hl : ∀ k ∈ va.ownBlock.toList, k ∈ Y :: K2 ∧ w.heap.size ≤ k := fun k hk => by
              have hk' : va.ownBlock = some k := by simpa using hk
              exact ⟨List.mem_cons_of_mem _ (HVK.out k hk'), own_ge HOW5.out k hk'⟩
            obtain ⟨K5, hP6, hsub, hv6⟩ : ∃ K5, PO w w6 K5 D gl 16 F1 [] (-1) false ∧ (∀ k ∈ Y :: K2, k ∈ K5) ∧ (∀ g, v6.ownBlock = some g → g ∈ K5) := by
              rcases hloc6 with hq | hq
              · exact ⟨_, HP4.out.touch HT.out hl, fun k hk => hk, fun g hg => List.mem_cons_of_mem _ (HVK.out g (hq ▸ hg))⟩
              · exact ⟨_, HP4.out.grow HT.out hl _ (by rw [HSQ.out]; omega) (own_lt hown6 _ hq), fun k hk => List.mem_cons_of_mem _ hk, fun g hg => by rw [hg] at hq; injection hq with hq; rw [hq]; simp⟩
            have hnY : ∀ (k : Nat) (L : List (BitVec 8)), ArrY w4 k 74 L → k ∉ va.ownBlock.toList := fun k L hk hm => own_type HOW4.out hk (by decide) (by simpa using hm)
            have HX6 := Lib.hid (show ∀ k, k < j + 1 → (if k = j then Y else X k) ∈ K5 ∧ ArrY w6 (if k = j then Y else X k) 74 (secY F1 k) from fun k hk => by
              by_cases hkj : k = j
              · rw [if_pos hkj]
                have q := HA4.out
                rw [← hkj] at q
                exact ⟨hsub Y (by simp), HT.out.arr q (hnY _ _ q)⟩
              · rw [if_neg hkj]
                have q := HX4.out k (by omega)
                exact ⟨hsub _ (List.mem_cons_of_mem _ q.1), HT.out.arr q.2 (hnY _ _ q.2)⟩)
            have HO6 := Lib.hid (show w6.ownsRow w.heap.size 36 1 v6 (j + 1) ((List.range (j + 1)).map fun k => .slice (some ⟨if k = j then Y else X k, 0, none⟩) 512 512) from by
              rw [List.range_succ, List.map_append, List.map_cons, List.map_nil, if_pos rfl]
              rw [show (List.range j).map (fun k => Value.slice (some ⟨if k = j then Y else X k, 0, none⟩) 512 512) = (List.range j).map (fun k => Value.slice (some ⟨X k, 0, none⟩) 512 512) from
                List.map_congr_left (fun k hk => by rw [if_neg (by have := List.mem_range.1 hk; omega)])]
              exact hown6)
            have HV6 := Lib.hid hv6
            have HP6 := Lib.hid hP6
            clear hown6 hg6 hnil6 hloc6 hl hP6 hsub hv6 hnY HT HA4 HP4 HOW4 HX4 HOW5 HBQ HI HZZ HSQ HVK HY
            go_wp2_with fail
            go_roundw
            case rel => exact ⟨j + 1, by have := HLT.out; omega, by go_num, _, rfl, K5, _, HP6.out, HX6.out, HO6.out, HV6.out⟩
            case measure => simp [intOf]; have := HLT.out; omega
          · have hbv2 : decide ((j : Int) < 16) = false := by simp; omega
            have hj16 : j = 16 := by omega
            subst hj16
            obtain ⟨g, capw, rfl⟩ : ∃ g c, va = .slice (some ⟨g, 0, none⟩) 16 c := by
              rcases hown.2 with ⟨_, h0⟩ | ⟨g, c, cur, hv, _⟩
              · omega
              · exact ⟨g, c, hv⟩
            have HC := Lib.hid (po_crash w wr _ D gl 16 18446744073709551615 0 _ _ _ _ hP (by simp) (by omega))
            have HXX := Lib.hid hX
            have HOW := Lib.hid hown
            have HGK := Lib.hid (hvK g rfl)
            clear hP hj hlt hX hown hvK
            go_wp2_with fail
            refine HC.out.mono ?_
            rintro e w4 ⟨rfl, hP4, hS4⟩
            have hP4 : PO w w4 _ D gl 16 F1 [] (-1) false := hP4
            have HF := Lib.hid (po_flush w w4 _ D gl 16 _ _ hP4 (by simp))
            have HS4 := Lib.hid hS4
            clear hP4 hS4 HC
            go_wp2_with fail
            refine HF.out.mono ?_
            rintro e w5 ⟨rfl, hP5, hS5⟩
            have HP5 := Lib.hid (show PO w w5 _ D gl 16 F1 [] (-1) false from hP5)
            have HX5 := Lib.hid (show ∀ k, k < 16 → ArrY w5 (X k) 74 (secY F1 k) from fun k hk => (hS5 _ (HXX.out k hk).1).trans ((HS4.out _ (HXX.out k hk).1).trans (HXX.out k hk).2))
            have HO5 := Lib.hid (own_same HOW.out (w' := w5) (fun g' hg => by
              simp only [Value.ownBlock, Option.some.injEq] at hg
              rw [← hg]
              exact (hS5 _ HGK.out).trans (HS4.out _ HGK.out)))
            clear hP5 hS5 HF HS4 HXX HOW HGK
            go_wp2_with fail
            go_loopw [68] (fun v68 wr => ∃ i : Nat, i ≤ 16 ∧ v68 = .int .i64 (i : Nat) ∧ ∃ K, PO w wr K D gl 16 F1 [] (-1) false ∧ Below w5.heap.size w5 wr) (fun v _ => 16 - (intOf v).toNat)
            case atStart => exact ⟨0, by omega, rfl, _, HP5.out, Below.refl _ _⟩
            case round =>
              obtain ⟨i, hi, rfl, K3, hP, hB⟩ := hrel
              by_cases hlt : i < 16
              · have iI : (i : Int) < 16 := by omega
                have i0 : (0 : Int) ≤ (i : Int) := by omega
                have HLT := Lib.hid hlt
                have hcell := (own_below' HO5.out hB).cellAt (g := g) i (by omega)
                rw [List.getElem?_map, List.getElem?_range hlt, Option.map_some] at hcell
                have HXI := Lib.hid ((HX5.out i hlt).below hB (zlt (HX5.out i hlt)))
                have HBB := Lib.hid hB
                have HK := Lib.hid (po_peek w wr _ D gl 16 i _ _ _ _ hP hlt)
                clear hP hi hlt hB
                go_wp2_with fail
                refine HK.out.mono ?_
                rintro e w7 ⟨⟨rfl, hA7, hl7, hb7⟩, hP7⟩
                have HSE := Lib.hid (same_eq w7 _ _ _ (BS.of_arr0 (n := 512) (cap := 512) hA7 hl7) (BS.of_arr0 (n := 512) (cap := 512) (HXI.out.below hb7 (zlt HXI.out)) hl7))
                have HP7 := Lib.hid hP7
                have HB7 := Lib.hid (HBB.out.trans (hb7.mono HBB.out.size))
                clear hA7 hl7 hb7 hP7 HK HXI
                generalize wr.heap.size = Y at *
                go_wp2_with fail
                refine HSE.out.mono ?_
                rintro e w8 ⟨rfl, rfl⟩
                go_wp2_with fail
                go_roundw
                case rel => exact ⟨i + 1, by have := HLT.out; omega, by go_num, _, HP7.out, HB7.out⟩
                case measure => simp [intOf]; have := HLT.out; omega
              · have hbv3 : decide ((i : Int) < 16) = false := by simp; omega
                have HSC := Lib.hid (HP9.out _ _ _ _ _ _ _ _ _ _ hP)
                clear hP hi hlt hB
                go_wp2_with fail
                refine HSC.out.mono ?_
                rintro e w7 ⟨rfl, hA7, hP7, _⟩
                have HC := Lib.hid (po_poke w w7 _ D gl 16 3 _ 512 F1 S9 _ _ _ hP7 (by decide) hA7 HL9.out)
                clear hA7 hP7 HSC
                generalize wr.heap.size = Y at *
                go_wp2_with fail
                refine HC.out.mono ?_
                rintro e w8 ⟨rfl, hP8, _⟩
                have HW := Lib.hid (po_waits w w8 _ D gl 16 _ _ _ _ hP8 (by simp))
                have HB8 := Lib.hid hP8.bel
                clear hP8 HC
                go_wp2_with fail
                refine HW.out.mono ?_
                rintro e w9 ⟨rfl, rfl⟩
                go_wp2_with fail
                go_ret
                exact ⟨rfl, HB8.out⟩
set_option maxRecDepth 100000 in
theorem lifted (os : Os) (started : os.Started) (H : Type) (enc : TypeId × Value → H) :
    ReturnsInHanded {} Try.checked os 9 .any (Rows.devTwiceSpec.pre6 enc Try.prog Try.f9 Rows.devTwiceRow.domain false) (Rows.devTwiceSpec.post enc Try.prog Try.f9 false true false false) := by
  refine returnsInHanded_of_change_sized (C := Try.checked) own started (by kernel_rfl) Try.func9
    (ChangeSpec.witness6 (enc := enc) (C := Try.checked) false ⟨#[], #[.slice none 0 0, .int .u64 0], []⟩ 8 (by kernel_rfl) (by kernel_rfl) (by kernel_rfl) (by kernel_rfl)) ?_
  intro W base args ds gs before hval0 hW hcnd hsz0 _
  have hsz : (DataW.weightsEach Try.prog (Try.f9.params.toList ++ Rows.devTwiceSpec.plain.varTypes Try.prog) (ds ++ gs)).all (· ≤ reachBytes) = true := hsz0
  clear hsz0
  have hval : ∀ (j : Nat) t v, Try.f9.params[j]? = some t → args[j]? = some v → Value.okWide Try.prog W .any base t v := hval0
  have hW' := hW
  obtain ⟨p, q, hA0, hV, rfl, hfz, hnd⟩ := hW
  have hA : DataW.TrodAll enc Try.prog W 0 (fun _ => true) true Try.f9.params.toList args.toList ds p := hA0
  rw [Try.params9] at hA hval hsz
  obtain ⟨v0, vs0, d0, ds0, p0, q0, hargs, rfl, rfl, h0, r0⟩ := trodAll_cons hA
  obtain ⟨v1, vs1, d1, ds1, p1, q1, rfl, rfl, rfl, h1, r1⟩ := trodAll_cons r0
  obtain ⟨rfl, rfl, rfl⟩ := trodAll_nil r1
  obtain rfl : args = #[v0, v1] := by cases args; simp_all
  obtain ⟨rfl, rfl⟩ := trodVars_none hV
  have k0 := h0
  have lt0 : ∀ x ∈ p0, x.block < W.heap.size := by obtain ⟨m, hm⟩ := k0; exact DataW.trod_lt m _ _ _ hm
  have k1 := h1
  have lt1 : ∀ x ∈ p1, x.block < W.heap.size := by obtain ⟨m, hm⟩ := k1; exact DataW.trod_lt m _ _ _ hm
  obtain ⟨a0, len0, cap0, l0, rfl, e0, b0, m0, n0⟩ := open_yslice (j := 0) (hval 0 36 v0 rfl rfl) h0 hsz rfl rfl
  obtain ⟨keep, rfl, hkeep⟩ := open_nat64 (hval 1 33 v1 rfl rfl) h1 hsz
  clear hA0 hval0
  simp only [List.append_nil] at hW'
  refine (walk W a0 len0 cap0 (toY l0) e0 b0 m0 n0 keep hkeep).mono fun e W' ⟨he, bel⟩ => ?_
  subst he
  exact ⟨_, rfl, _, _, _, [], _, [], hW', trodAll_mk1 (shut_bool Try.underlying4 _), (trodAll_cons_mk (Below.trod laidOut (by kernel_rfl) (of_decide_eq_true (by kernel_rfl)) k0 bel lt0) (trodAll_cons_mk (Below.trod laidOut (by kernel_rfl) (of_decide_eq_true (by kernel_rfl)) k1 bel lt1) trodAll_mk0)), rfl, bel.frame _, fun h => by cases h⟩

theorem over : Rows.devTwiceRow.holds Try.pinned (OpenSpec.ofChange Rows.devTwiceSpec) :=
  OpenClaim.holds_of_wide 9 Try.f9 rfl rfl rfl rfl rfl rfl rfl ⟨rfl, rfl, rfl, rfl, rfl⟩ rfl rfl rfl rfl rfl (by kernel_rfl) Try.func9 (by kernel_rfl)
    (of_decide_eq_true (by kernel_rfl)) (by unfold Func.isWrapper; first | (rw [if_pos (by decide +kernel)]; kernel_rfl) | (rw [if_neg (by decide +kernel)]; exact ⟨rfl, rfl⟩))
    (fun os started H enc _ => lifted os started H enc)

/-- The statement. -/
theorem proved : Rows.DevTwiceSaid := over
#print axioms proved
end Go.Proofs.Ytmfpdbmohebodaa.devTwice
