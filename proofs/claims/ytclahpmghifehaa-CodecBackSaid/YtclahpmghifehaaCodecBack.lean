/-
  'CodecBack' returns true at every input, and each argument reads behind the call as it read before. Conditions: none.
-/
import Derived.Test.YtclahpmghifehaaRows
import Derived.Test.YtclahpmghifehaaYLaid
import Derived.Test.YtclahpmghifehaaBack
namespace Go.Proofs.Ytclahpmghifehaa.codecBack
open Go.ChangeShapes Go.WideShapes Go.ChangeAt Go.RowKit
set_option linter.unusedVariables false

theorem zeroAll_rep (n : Nat) : zeroAll (List.replicate n 0) = true := by
  unfold zeroAll
  rw [List.all_eq_true]
  intro z hz
  obtain ⟨_, rfl⟩ := List.mem_replicate.1 hz
  rfl
theorem wells_ok {w : World} {x : List LayV} {a : Option Addr} {n c : Nat} (h : Lays w x a n c) : ∀ q ∈ wells x, q.Ok w ∧ okL q = true := by
  intro q hq
  obtain ⟨h1, h2⟩ := List.mem_filter.1 hq
  exact ⟨lays_ok h q h1, h2⟩

set_option maxRecDepth 100000 in
set_option maxHeartbeats 3200000 in
theorem walk (w : World) (a0 : Option Addr) (len0 cap0 : Nat) (x0 : List LayV) (sl0 : SlR RLayV 37 w x0 a0 len0 cap0) (z1 : Int) (za1 : 0 ≤ z1) (zb1 : z1 ≤ 255) :
    Calls Try.prog 5 #[.slice a0 len0 cap0, .int .u8 z1] w fun e w' => e = .returned (.bool true) ∧ Below w.heap.size w w' := by
  obtain ⟨z, rfl⟩ : ∃ z : Nat, z1 = (z : Int) := ⟨z1.toNat, by omega⟩
  have z255 : z ≤ 255 := by omega
  have HZ := Lib.hid z255
  have lI : (len0 : Int) ≤ 140737488351232 := by have := sl0.big; have := sl0.cap; omega
  have HSL := Lib.hid sl0
  have HA := Lib.hid (alive7_any w)
  have hz := zero_writer
  clear sl0 z255
  cases hG : greatG x0 with
  | true =>
    go_enter Try.func5, Try.ntmps5
    go_wp2_with fail
    refine HA.out.mono ?_
    rintro e w1 ⟨rfl, hb1⟩
    have HGR := Lib.hid (great_any w1 x0 a0 len0 cap0 ⟨HSL.out.len, HSL.out.cap, HSL.out.big, fun i h => by
      obtain ⟨b, off, cs, h1, ⟨h2, h3, h4⟩, h5, h6⟩ := HSL.out.here i h
      exact ⟨b, off, cs, h1, ⟨h2, h3.below hb1, h4⟩, h5, range_below h6 hb1⟩⟩)
    rw [hG] at HGR
    have HB1 := Lib.hid hb1
    clear hb1 HA hG
    go_wp2_with fail
    refine HGR.out.mono ?_
    rintro e w2 ⟨rfl, hb2⟩
    have HB2 := Lib.hid (HB1.out.trans (hb2.mono HB1.out.size))
    clear hb2 HGR
    go_wp2_with fail
    go_ret
    exact ⟨rfl, HB2.out⟩
  | false =>
    have HLN := Lib.hid HSL.out.len
    have HNG := Lib.hid (great_no x0 hG)
    have hcat := catL_len x0 (fun q hq => ⟨w, lays_ok HSL.out q hq⟩)
    have HCT := Lib.hid (show (catL (wells x0)).length ≤ 13100 by
      have h1 := HNG.out.1
      unfold greatG at hG
      simp only [Bool.or_eq_false_iff, decide_eq_false_iff_not] at hG
      omega)
    have HWO := Lib.hid (wells_ok HSL.out)
    have HWL := Lib.hid (show (wells x0).length ≤ 100 by have h1 := HNG.out.1; have h2 := List.length_filter_le okL x0; unfold wells; omega)
    have HCI := Lib.hid (fun (i : Nat) (hi : i ≤ x0.length) => show (catL (wells (x0.take i))).length ≤ 100000000 ∧ (wells (x0.take i)).length ≤ 100 by
      have h1 := HNG.out.1
      have h2 := List.length_filter_le okL (x0.take i)
      have h3 := catL_len (x0.take i) (fun q hq => ⟨w, lays_ok HSL.out q (List.mem_of_mem_take hq)⟩)
      have h4 : gsum (x0.take i) ≤ (i : Int) * 18000 + 6600000 := by
        have h5 : gsum (x0.take i) ≤ gsum x0 := by
          have e : gsum x0 = gsum (x0.take i) + gsum (x0.drop i) := by
            have h6 : ∀ a b : List LayV, gsum (a ++ b) = gsum a + gsum b := by
              intro a b
              induction a with
              | nil => simp [gsum]
              | cons p r ih => simp only [List.cons_append, gsum, ih]; omega
            rw [← h6, List.take_append_drop]
          have := gsum_pos (x0.drop i)
          omega
        unfold greatG at hG
        simp only [Bool.or_eq_false_iff, decide_eq_false_iff_not] at hG
        omega
      have h7 : (x0.take i).length ≤ 100 := by rw [List.length_take]; omega
      unfold wells at h3 ⊢
      refine ⟨?_, by omega⟩
      omega)
    go_enter Try.func5, Try.ntmps5
    go_wp2_with fail
    refine HA.out.mono ?_
    rintro e w1 ⟨rfl, hb1⟩
    have HGR := Lib.hid (great_any w1 x0 a0 len0 cap0 ⟨HSL.out.len, HSL.out.cap, HSL.out.big, fun i h => by
      obtain ⟨b, off, cs, h1, ⟨h2, h3, h4⟩, h5, h6⟩ := HSL.out.here i h
      exact ⟨b, off, cs, h1, ⟨h2, h3.below hb1, h4⟩, h5, range_below h6 hb1⟩⟩)
    rw [hG] at HGR
    have HB1 := Lib.hid hb1
    clear hb1 HA hG hcat
    go_wp2_with fail
    refine HGR.out.mono ?_
    rintro e w2 ⟨rfl, hb2⟩
    have hb2' := HB1.out.trans (hb2.mono HB1.out.size)
    have HWB := Lib.hid (show WB w (w2.alloc (.cells #[.slice none 0 0] 27)) w2.heap.size (.slice none 0 0) (.slice none 0 0) [] [] from
      ⟨⟨heap_alloc_new w2 _, World.ownsRow_nil _ _ _ _, (by intro z hz; simp at hz)⟩, World.ownsRow_nil _ _ _ _, hb2'.size, hb2'.alloc hb2'.size _⟩)
    clear hb2 hb2' HGR HB1
    go_wp2_with fail
    generalize w2.heap.size = P at *
    go_loopw [6, 27] (fun v6 v27 wr => ∃ (i : Nat) (a : Option Addr) (n c : Nat) (v1 : Value), i ≤ len0 ∧ v27 = .int .i64 (i : Int) ∧ v6 = .slice a n c ∧ n = (wells (x0.take i)).length ∧ WB w wr P v1 (.slice a n c) (catL (wells (x0.take i))) (wells (x0.take i))) (fun _ v _ => len0 - (intOf v).toNat)
    case atStart => exact ⟨0, none, 0, 0, _, by omega, rfl, rfl, rfl, HWB.out⟩
    case round =>
      obtain ⟨i, a, n, c, v1, hi, rfl, rfl, hn, hW⟩ := hrel
      have HB := Lib.hid hW.bel
      by_cases hlt : i < len0
      · obtain ⟨b, off, q, rfl, hxi, hok, _, hrg⟩ := lays_at HSL.out hW.bel hlt
        have hix := index_lay b off len0 cap0 i hlt
        have hzl := zero_lay
        have SWC := Lib.hid (size_lay q hok.hash)
        have SWR := Lib.hid (show (Try.prog.info? 32).map (·.size) = some (layRow q).toArray.size by rw [List.size_toArray]; exact size_lay q hok.hash)
        have EW := Lib.hid (show (layRow zeroLay).toArray.size = (layRow q).toArray.size by rw [List.size_toArray, List.size_toArray, layRow_length q hok.hash, layRow_length zeroLay (by decide)])
        have WO := Lib.hid (lay_one q)
        have HRG := Lib.hid hrg
        have HOK := Lib.hid hok
        have HLT := Lib.hid hlt
        have HW := Lib.hid hW
        have HN := Lib.hid hn
        have HNX := Lib.hid (wells_next x0 i q hxi)
        have HCL := Lib.hid (HCI.out i (by have := HLN.out; omega))
        have HQB := Lib.hid (HNG.out.2 q (List.mem_of_getElem? hxi)).1
        have iI : (i : Int) < (len0 : Int) := by omega
        have i0 : (0 : Int) ≤ (i : Int) := by omega
        generalize (layRow zeroLay).toArray = ZA at *
        generalize wells (x0.take i) = ws at *
        clear hi hlt hok hrg hxi hW hn
        go_upto_region 10 with (first
          | (with_reducible refine wpList_load_mid (op := ⟨some 30, _, _, _, _, _⟩) rfl 32 _ rfl b (off + i * 37) rfl (layRow q) _ HRG.out Try.underlying32 rfl SWC.out ?_)
          | (with_reducible refine wpList_store_row (o := ⟨none, .store _ (.tmp 8) _, _, _, _, _⟩) rfl 32 _ _ rfl wr.heap.size (layRow q).toArray rfl rfl 32 ZA (heap_alloc_new wr _) SWR.out EW.out WO.out ?_))
        clear hix hzl
        generalize hW7 : World.setRow _ wr.heap.size _ = w7
        have h7 : w7.heap[wr.heap.size]? = some (.cells (layRow q).toArray 32 (0, 0)) ∧ Below wr.heap.size wr w7 := by
          obtain ⟨e1, e2, e3⟩ := ygen_row (w := wr) (old := ZA) (cs := (layRow q).toArray) (T := 32)
          rw [← hW7]
          exact ⟨e1, e3⟩
        have H7 := Lib.hid h7.1
        obtain ⟨k0, _, _, _, _, _⟩ := lay_at h7.1 HOK.out.hash
        have HW7 := Lib.hid (HW.out.below h7.2)
        have HOK7 := Lib.hid (HOK.out.below h7.2)
        clear hW7 h7 HRG SWC EW WO HW
        generalize wr.heap.size = T at *
        by_cases h4 : q.kd = 4
        · rw [h4] at k0
          have HE := Lib.hid (show okL q = false by unfold okL; simp [h4])
          clear h4
          go_wp2_with fail
          go_roundw
          case rel => exact ⟨i + 1, _, _, _, _, by have := HLT.out; omega, by go_num, rfl, by rw [HNX.out, HE.out, if_neg (by decide), List.append_nil]; exact HN.out, by rw [HNX.out, HE.out, if_neg (by decide), List.append_nil]; exact HW7.out⟩
          case measure => simp [intOf]; have := HLT.out; omega
        · have h4b : (q.kd == 4) = false := by simp [h4]
          have h4c : (q.kd != 4) = true := by simp [h4]
          have HLY := Lib.hid (lay7_step w7 P w.heap.size v1 (catL ws) q HW7.out.wo HW7.out.bel.size HOK7.out (by have := HCL.out.1; have := HQB.out; omega))
          rw [layM_no4 _ q h4] at HLY
          generalize hRW : (layRow q).toArray = RW at *
          by_cases herr : (layM 0 q).2 = 0
          · have HE := Lib.hid (show okL q = true by unfold okL; simp [h4, herr])
            have HCS := Lib.hid (catL_snoc ws q)
            rw [herr] at HLY
            clear h4 herr
            go_wp2_with (first
              | (with_reducible refine wpList_load_guarded (o := ⟨some 35, _, _, _, _, _⟩) rfl 32 _ rfl T rfl 32 RW (0, 0) _ H7.out Try.underlying32 rfl SWR.out ?_))
            refine HLY.out.mono ?_
            rintro e w8 ⟨rfl, hs8⟩
            obtain ⟨v8, hW8⟩ := wb_wr HW7.out hs8
            have h8T : w8.heap[T]? = some (.cells RW 32 (0, 0)) := by
              obtain ⟨_, _, t8, _⟩ := hs8
              refine (t8.block T (Array.getElem?_eq_some_iff.1 H7.out).1 (fun hm => ?_)).trans H7.out
              simp only [List.mem_cons, Option.mem_toList] at hm
              rcases hm with rfl | hm
              · have h1 := HW7.out.wo.cell
                rw [H7.out] at h1
                simp only [Option.some.injEq, Obj.cells.injEq] at h1
                exact absurd h1.2.1 (by decide)
              · exact own_ne HW7.out.wo.own H7.out (by decide) hm
            have H8 := Lib.hid h8T
            have HW8 := Lib.hid hW8
            obtain ⟨a9, c9, w9, hr9, hW9⟩ := wb_more hW8 q HOK.out.hash (by have := HCL.out.2; omega)
            rw [hRW] at hr9
            rw [← HN.out] at hr9 hW9
            have hl9 := lit_one (P := Try.prog) Try.underlying22 info_lay (by decide) (by decide) RW (by rw [← hRW, List.size_toArray]; exact layRow_length q HOK.out.hash) w8
            have HR9 := Lib.hid hr9
            have HL9 := Lib.hid hl9
            have HW9 := Lib.hid hW9
            clear hs8 hW8 h8T hr9 hW9 hl9 HLY H7 HW7 HOK7
            go_wp2_with (first
              | (with_reducible refine wpList_load_row (o := ⟨some 40, _, _, _, _, _⟩) rfl 32 _ rfl T rfl 32 RW (0, 0) _ H8.out Try.underlying32 rfl SWR.out ?_)
              | (refine wpList_lit_run (o := ⟨some 41, _, _, _, _, _⟩) rfl _ _ _ rfl #[(0, .agg RW)] (by simp [Act.eval, Act.put]) _ _ HL9.out ?_)
              | (at_builtin; refine wpList_append_run (o := ⟨some 42, _, _, _, _, _⟩) rfl _ _ _ _ rfl _ _ _ _ rfl rfl HR9.out ?_))
            go_roundw
            case rel => exact ⟨i + 1, _, _, _, _, by have := HLT.out; omega, by go_num, rfl, by rw [HNX.out, HE.out, if_pos rfl, List.length_append, HN.out]; rfl, by rw [HNX.out, HE.out, if_pos rfl, HCS.out]; exact HW9.out⟩
            case measure => simp [intOf]; have := HLT.out; omega
          · have HE := Lib.hid (show okL q = false by unfold okL; simp [herr])
            rw [layM_err q h4 herr, List.append_nil] at HLY
            obtain ⟨er, her⟩ : ∃ er, (layM 0 q).2 = er := ⟨_, rfl⟩
            rw [her] at HLY herr
            have herb : (er == 0) = false := by simp [herr]
            clear h4 herr her
            go_wp2_with (first
              | (with_reducible refine wpList_load_guarded (o := ⟨some 35, _, _, _, _, _⟩) rfl 32 _ rfl T rfl 32 RW (0, 0) _ H7.out Try.underlying32 rfl SWR.out ?_))
            refine HLY.out.mono ?_
            rintro e w8 ⟨rfl, hs8⟩
            obtain ⟨v8, hW8⟩ := wb_wr HW7.out hs8
            have HW8 := Lib.hid hW8
            clear hs8 hW8 HLY H7 HW7 HOK7
            go_wp2_with fail
            go_roundw
            case rel => exact ⟨i + 1, _, _, _, _, by have := HLT.out; omega, by go_num, rfl, by rw [HNX.out, HE.out, if_neg (by decide), List.append_nil]; exact HN.out, by rw [HNX.out, HE.out, if_neg (by decide), List.append_nil]; exact HW8.out⟩
            case measure => simp [intOf]; have := HLT.out; omega
      · obtain rfl : i = len0 := by omega
        rw [List.take_of_length_le (by have := HLN.out; omega)] at hn hW
        have HW := Lib.hid hW
        have HN := Lib.hid hn
        generalize wells x0 = ws at *
        clear hi hlt hW hn
        have HBY := Lib.hid (wbytes_any P _ v1 _ wr HW.out.wo (by have := HCT.out; omega))
        have nI : (n : Int) ≤ 100 := by have := HN.out; have := HWL.out; omega
        obtain ⟨L, hL⟩ : ∃ L, catL ws = L := ⟨_, rfl⟩
        have HL := Lib.hid hL
        rw [hL] at HBY HCT
        have hlI : (L.length : Int) ≤ 13100 := by have := HCT.out; omega
        have hzI : (0 : Int) ≤ (z : Int) := by omega
        clear hL
        go_wp2_with fail
        refine HBY.out.mono ?_
        rintro e w10 ⟨v10, rfl, ho10, hb10⟩
        have hW10 := HW.out.below hb10
        rw [HL.out] at hW10
        obtain ⟨a10, c10, rfl, _, _⟩ := own_bs ho10 rfl hW10.wo.byt
        have HPD := Lib.hid (wpad_any P _ v1 L ((L.length : Int) + (z : Int)) w10 hW10.wo (by have := HCT.out; omega) hW10.bel.size)
        rw [show padW L.length ((L.length : Int) + (z : Int)) = (List.replicate z 0, 0) by
          unfold padW; rw [if_neg (by have := HZ.out; have := HCT.out; omega), show ((L.length : Int) + (z : Int)).toNat - L.length = z by omega]] at HPD
        have HW10 := Lib.hid hW10
        clear ho10 hb10 hW10 HBY HW
        go_wp2_with fail
        refine HPD.out.mono ?_
        rintro e w11 ⟨rfl, hs11⟩
        obtain ⟨v11, hW11⟩ := wb_wr HW10.out hs11
        have HBY := Lib.hid (wbytes_any P _ v11 _ w11 hW11.wo (by rw [List.length_append, List.length_replicate]; have := HCT.out; have := HZ.out; omega))
        have HW11 := Lib.hid hW11
        clear hs11 hW11 HPD HW10
        go_wp2_with fail
        refine HBY.out.mono ?_
        rintro e wm ⟨v12, rfl, ho12, hb12⟩
        have hW12 := HW11.out.below hb12
        obtain ⟨a12, c12, rfl, _, hbs12⟩ := own_bs ho12 rfl hW12.wo.byt
        have HRD := Lib.hid (rl_read wm wm _ _ (Below.refl _ _) hbs12 (by rw [List.length_append, List.length_replicate]; have := HCT.out; have := HZ.out; omega))
        rw [show (L ++ (List.replicate z 0 : List Int)).length = L.length + z by simp] at HRD
        have HBM := Lib.hid hW12.bel
        have hown := hW12.own
        rw [← HN.out] at hown
        have HOW := Lib.hid hown
        clear ho12 hb12 hW12 hbs12 HBY HW11 hown
        go_wp2_with fail
        refine HRD.out.mono ?_
        rintro e w13 ⟨R, rfl, hr13, _⟩
        rw [← HL.out] at hr13
        have HR13 := Lib.hid hr13
        clear hr13 HRD
        go_wp2_with fail
        go_loopw [56] (fun v56 wr => ∃ j : Nat, j ≤ n ∧ v56 = .int .i64 (j : Int) ∧ RL wm wr R (catL (ws.drop j) ++ List.replicate z 0)) (fun v _ => n - (intOf v).toNat)
        case atStart => exact ⟨0, by omega, rfl, HR13.out⟩
        case round =>
          obtain ⟨j, hj, rfl, hR⟩ := hrel
          have HB := Lib.hid (HBM.out.trans (hR.bel.mono HBM.out.size))
          by_cases hlj : j < n
          · have hjl : j < ws.length := by have := HN.out; omega
            obtain ⟨q, hq⟩ : ∃ q, ws[j]? = some q := ⟨_, List.getElem?_eq_getElem hjl⟩
            have hwq := HWO.out q (List.mem_of_getElem? hq)
            obtain ⟨g, rfl, hrg, hgl⟩ := kept_range HOW.out (fun p hp => (HWO.out p hp).1.hash) HN.out.symm j q hq
            have hix := index_lay g 0 n c j hlj
            rw [Nat.zero_add] at hix hrg
            have hzl := zero_lay
            have HOKQ := Lib.hid hwq
            have SWC := Lib.hid (size_lay q hwq.1.hash)
            have SWR := Lib.hid (show (Try.prog.info? 32).map (·.size) = some (layRow q).toArray.size by rw [List.size_toArray]; exact size_lay q hwq.1.hash)
            have EW := Lib.hid (show (layRow zeroLay).toArray.size = (layRow q).toArray.size by rw [List.size_toArray, List.size_toArray, layRow_length q hwq.1.hash, layRow_length zeroLay (by decide)])
            have WO := Lib.hid (lay_one q)
            have HRG := Lib.hid (range_below hrg hR.bel)
            have HLJ := Lib.hid hlj
            have hcj : catL (ws.drop j) ++ List.replicate z 0 = bysL q ++ (catL (ws.drop (j + 1)) ++ List.replicate z 0) := by
              rw [List.drop_eq_getElem_cons hjl, show ws[j] = q by rw [List.getElem?_eq_getElem hjl] at hq; exact Option.some.inj hq]
              simp [catL]
            rw [hcj] at hR
            have HR := Lib.hid hR
            have jI : (j : Int) < (n : Int) := by omega
            have j0 : (0 : Int) ≤ (j : Int) := by omega
            generalize (layRow zeroLay).toArray = ZA at *
            clear hj hlj hjl hq hwq hrg hcj hR
            go_upto_region 20 with (first
              | (with_reducible refine wpList_load_mid (op := ⟨some 59, _, _, _, _, _⟩) rfl 32 _ rfl g (j * 37) rfl (layRow q) _ HRG.out Try.underlying32 rfl SWC.out ?_)
              | (with_reducible refine wpList_store_row (o := ⟨none, .store _ (.tmp 12) _, _, _, _, _⟩) rfl 32 _ _ rfl wr.heap.size (layRow q).toArray rfl rfl 32 ZA (heap_alloc_new wr _) SWR.out EW.out WO.out ?_))
            clear hix hzl
            generalize hW7 : World.setRow _ wr.heap.size _ = w7
            have h7 : w7.heap[wr.heap.size]? = some (.cells (layRow q).toArray 32 (0, 0)) ∧ Below wr.heap.size wr w7 := by
              obtain ⟨e1, e2, e3⟩ := ygen_row (w := wr) (old := ZA) (cs := (layRow q).toArray) (T := 32)
              rw [← hW7]
              exact ⟨e1, e3⟩
            have H7 := Lib.hid h7.1
            have HR7 := Lib.hid (HR.out.below h7.2)
            have HNE := Lib.hid (show R ≠ wr.heap.size by obtain ⟨_, _, _, hrr, _⟩ := HR.out; have := (Array.getElem?_eq_some_iff.1 hrr.cell).1; omega)
            obtain ⟨k0, k1', k2', k3', k5', _⟩ := lay_at h7.1 HOKQ.out.1.hash
            clear hW7 h7 HRG SWC EW WO HR
            generalize wr.heap.size = T at *
            by_cases k1 : q.kd = 1
            · rw [k1] at k0
              have HST := Lib.hid (rlc_str wm w7 R _ HR7.out)
              rw [back_str q _ k1 HOKQ.out.2] at HST
              clear k1
              go_wp2_with fail
              refine HST.out.mono ?_
              rintro e w8 ⟨rfl, hr8, hc8⟩
              clear k0 k1' k2' k3' k5'
              obtain ⟨k0, k1', k2', k3', k5', _⟩ := lay_at ((hc8.block T (Array.getElem?_eq_some_iff.1 H7.out).1 (Ne.symm HNE.out)).trans H7.out) HOKQ.out.1.hash
              have HR8 := Lib.hid hr8
              clear hr8 hc8 HST H7
              go_wp2_with fail
              go_roundw
              case rel => exact ⟨j + 1, by have := HLJ.out; omega, by go_num, HR8.out⟩
              case measure => simp [intOf]; have := HLJ.out; omega
            by_cases k2 : q.kd = 2
            · rw [k2] at k0
              have HST := Lib.hid (rlc_hash wm w7 R _ HR7.out)
              rw [back_hash q _ w HOKQ.out.1 k2] at HST
              have HEQ := Lib.hid (fun W => eq8_hash q.h HOKQ.out.1.hash HOKQ.out.1.hbyt W)
              have SH := Lib.hid (size_hash7 q.h HOKQ.out.1.hash)
              have WO2 := Lib.hid (i8s_one q.h)
              have EZ := Lib.hid (show (i8s (List.replicate 32 0)).size = (i8s q.h).size by rw [i8s_size, i8s_size, HOKQ.out.1.hash]; simp)
              have hzh := zero_hash7
              have SHL := Lib.hid (show (Try.prog.info? 30).map (·.size) = some (q.h.map (Value.int .u8)).length by rw [show (Try.prog.info? 30).map (·.size) = some 32 by kernel_rfl, List.length_map, HOKQ.out.1.hash])
              have HLQ := Lib.hid (show (q.h.map (Value.int .u8)).toArray = i8s q.h from rfl)
              obtain ⟨X, hX⟩ : ∃ X, i8s q.h = X := ⟨_, rfl⟩
              rw [hX] at HEQ HST SH WO2 EZ HLQ
              generalize i8s (List.replicate 32 0) = Z at *
              clear k1 k2 hX
              go_wp2_with fail
              refine HST.out.mono ?_
              rintro e w8 ⟨rfl, hr8, hc8⟩
              have H8 := Lib.hid ((hc8.block T (Array.getElem?_eq_some_iff.1 H7.out).1 (Ne.symm HNE.out)).trans H7.out)
              have HR8 := Lib.hid hr8
              clear hr8 hc8 HST H7 k0 k1' k2' k3' k5'
              go_upto_region 30 with (first
                | (with_reducible refine wpList_store_row (o := ⟨none, .store _ (.tmp 15) _, _, _, _, _⟩) rfl 30 _ _ rfl w8.heap.size X rfl rfl 30 Z (heap_alloc_new w8 _) SH.out EZ.out WO2.out ?_))
              generalize hW9 : World.setRow _ w8.heap.size _ = w9
              have h9 : w9.heap[w8.heap.size]? = some (.cells X 30 (0, 0)) ∧ Below w8.heap.size w8 w9 := by
                obtain ⟨e1, e2, e3⟩ := ygen_row (w := w8) (old := Z) (cs := X) (T := 30)
                rw [← hW9]
                exact ⟨e1, e3⟩
              have HX9 := Lib.hid h9.1
              have HR9 := Lib.hid (HR8.out.below h9.2)
              have HRG9 := Lib.hid (lay_hash_range ((h9.2.block T (Array.getElem?_eq_some_iff.1 H8.out).1).trans H8.out) HOKQ.out.1.hash)
              have heq := HEQ.out
              have hlq := HLQ.out
              clear hW9 h9 HR8 H8 hzh HEQ
              go_wp2_with (first
                | (with_reducible refine wpList_load_row (o := ⟨some 99, _, _, _, _, _⟩) rfl 30 _ rfl w8.heap.size rfl 30 X (0, 0) _ HX9.out Try.underlying30 rfl SH.out ?_)
                | (with_reducible refine wpList_load_mid (op := ⟨some 101, _, _, _, _, _⟩) rfl 30 _ rfl T 4 rfl (q.h.map (Value.int .u8)) _ HRG9.out Try.underlying30 rfl SHL.out ?_))
              go_roundw
              case rel => exact ⟨j + 1, by have := HLJ.out; omega, by go_num, HR9.out⟩
              case measure => simp [intOf]; have := HLJ.out; omega
            by_cases k3 : q.kd = 3
            · rw [k3] at k0
              have HST := Lib.hid (rlc_raw wm w7 R _ (q.lb : Int) HR7.out (by have := HOKQ.out.1.big; omega))
              rw [back_raw q _ w HOKQ.out.1 k3] at HST
              have lbI : (q.lb : Int) ≤ 140737488351232 := by have := HOKQ.out.1.big; omega
              clear k1 k2 k3
              go_wp2_with fail
              refine HST.out.mono ?_
              rintro e w8 ⟨⟨v8, rfl, hv8⟩, hr8, hc8⟩
              clear k0 k1' k2' k3' k5'
              obtain ⟨k0, k1', k2', k3', k5', _⟩ := lay_at ((hc8.block T (Array.getElem?_eq_some_iff.1 H7.out).1 (Ne.symm HNE.out)).trans H7.out) HOKQ.out.1.hash
              have HSM := Lib.hid (same_eq w8 _ _ q.bl hv8 (HOKQ.out.1.bs.kept (HBM.out.trans (hr8.bel.mono HBM.out.size))))
              have HR8 := Lib.hid hr8
              clear hr8 hc8 hv8 HST H7
              go_wp2_with fail
              refine HSM.out.mono ?_
              rintro e w9 ⟨rfl, rfl⟩
              go_wp2_with fail
              go_roundw
              case rel => exact ⟨j + 1, by have := HLJ.out; omega, by go_num, HR8.out⟩
              case measure => simp [intOf]; have := HLJ.out; omega
            have e1 : (q.kd == 1) = false := by simp [k1]
            have e2 : (q.kd == 2) = false := by simp [k2]
            have e3 : (q.kd == 3) = false := by simp [k3]
            have HST := Lib.hid (rlc_num wm w7 R _ q.sz HR7.out HOKQ.out.1.sz1)
            rw [back_num q _ k1 k2 k3 HOKQ.out.2] at HST
            clear k1 k2 k3
            go_wp2_with fail
            refine HST.out.mono ?_
            rintro e w8 ⟨rfl, hr8, hc8⟩
            clear k0 k1' k2' k3' k5'
            obtain ⟨k0, k1', k2', k3', k5', _⟩ := lay_at ((hc8.block T (Array.getElem?_eq_some_iff.1 H7.out).1 (Ne.symm HNE.out)).trans H7.out) HOKQ.out.1.hash
            have HR8 := Lib.hid hr8
            clear hr8 hc8 HST H7
            go_wp2_with fail
            go_roundw
            case rel => exact ⟨j + 1, by have := HLJ.out; omega, by go_num, HR8.out⟩
            case measure => simp [intOf]; have := HLJ.out; omega
          · obtain rfl : j = n := by omega
            rw [List.drop_eq_nil_of_le (by have := HN.out; omega), show catL [] = [] from rfl, List.nil_append] at hR
            have HLE := Lib.hid (rl_left wm wr R _ hR)
            have HEN := Lib.hid (rl_end wm wr R _ hR)
            rw [List.length_replicate] at HLE
            rw [zeroAll_rep] at HEN
            clear hj hlj hR
            go_wp2_with fail
            refine HLE.out.mono ?_
            rintro e w8 ⟨rfl, rfl⟩
            go_wp2_with fail
            refine HEN.out.mono ?_
            rintro e w9 ⟨rfl, rfl⟩
            go_wp2_with fail
            go_ret
            exact ⟨rfl, HB.out⟩
set_option maxRecDepth 100000 in
theorem lifted (os : Os) (started : os.Started) (H : Type) (enc : TypeId × Value → H) :
    ReturnsInHanded {} Try.checked os 5 .any (Rows.codecBackSpec.pre6 enc Try.prog Try.f5 Rows.codecBackRow.domain false) (Rows.codecBackSpec.post enc Try.prog Try.f5 false true false false) := by
  refine returnsInHanded_of_change_sized (C := Try.checked) own started (by kernel_rfl) Try.func5
    (ChangeSpec.witness6 (enc := enc) (C := Try.checked) false ⟨#[], #[.slice none 0 0, .int .u8 0], []⟩ 8 (by kernel_rfl) (by kernel_rfl) (by kernel_rfl) (by kernel_rfl)) ?_
  intro W base args ds gs before hval0 hW hcnd hsz0 _
  have hsz : (DataW.weightsEach Try.prog (Try.f5.params.toList ++ Rows.codecBackSpec.plain.varTypes Try.prog) (ds ++ gs)).all (· ≤ reachBytes) = true := hsz0
  clear hsz0
  have hval : ∀ (j : Nat) t v, Try.f5.params[j]? = some t → args[j]? = some v → Value.okWide Try.prog W .any base t v := hval0
  have hW' := hW
  obtain ⟨p, q, hA0, hV, rfl, hfz, hnd⟩ := hW
  have hA : DataW.TrodAll enc Try.prog W 0 (fun _ => true) true Try.f5.params.toList args.toList ds p := hA0
  rw [Try.params5] at hA hval hsz
  obtain ⟨v0, vs0, d0, ds0, p0, q0, hargs, rfl, rfl, h0, r0⟩ := trodAll_cons hA
  obtain ⟨v1, vs1, d1, ds1, p1, q1, rfl, rfl, rfl, h1, r1⟩ := trodAll_cons r0
  obtain ⟨rfl, rfl, rfl⟩ := trodAll_nil r1
  obtain rfl : args = #[v0, v1] := by cases args; simp_all
  obtain ⟨rfl, rfl⟩ := trodVars_none hV
  have k0 := h0
  have lt0 : ∀ x ∈ p0, x.block < W.heap.size := by obtain ⟨m, hm⟩ := k0; exact DataW.trod_lt m _ _ _ hm
  have k1 := h1
  have lt1 : ∀ x ∈ p1, x.block < W.heap.size := by obtain ⟨m, hm⟩ := k1; exact DataW.trod_lt m _ _ _ hm
  obtain ⟨x0, a0, len0, cap0, rfl, sl0⟩ := par_slice (j := 0) Try.underlying22 opn_lays (hval 0 22 v0 rfl rfl) h0 hsz rfl rfl
  obtain ⟨z1, rfl, za1, zb1⟩ := par_int (j := 1) .u8 _ _ Try.underlying5 wf_u8 (hval 1 5 v1 rfl rfl) h1 hsz rfl rfl
  clear hA0 hval0
  simp only [List.append_nil] at hW'
  refine (walk W a0 len0 cap0 x0 sl0 z1 za1 zb1).mono fun e W' ⟨he, bel⟩ => ?_
  subst he
  exact ⟨_, rfl, _, _, _, [], _, [], hW', trodAll_mk1 (shut_bool Try.underlying4 _), (trodAll_cons_mk (Below.trod laidOut (by kernel_rfl) (of_decide_eq_true (by kernel_rfl)) k0 bel lt0) (trodAll_cons_mk (Below.trod laidOut (by kernel_rfl) (of_decide_eq_true (by kernel_rfl)) k1 bel lt1) trodAll_mk0)), rfl, bel.frame _, fun h => by cases h⟩

theorem over : Rows.codecBackRow.holds Try.pinned (OpenSpec.ofChange Rows.codecBackSpec) :=
  OpenClaim.holds_of_wide 5 Try.f5 rfl rfl rfl rfl rfl rfl rfl ⟨rfl, rfl, rfl, rfl, rfl⟩ rfl rfl rfl rfl rfl (by kernel_rfl) Try.func5 (by kernel_rfl)
    (of_decide_eq_true (by kernel_rfl)) (by unfold Func.isWrapper; first | (rw [if_pos (by decide +kernel)]; kernel_rfl) | (rw [if_neg (by decide +kernel)]; exact ⟨rfl, rfl⟩))
    (fun os started H enc _ => lifted os started H enc)

/-- The statement. -/
theorem proved : Rows.CodecBackSaid := over
#print axioms proved
end Go.Proofs.Ytclahpmghifehaa.codecBack
