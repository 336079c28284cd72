/-
  'PoolBack' returns true at every input, and each argument reads behind the call as it read before. Conditions: the package-level variable that the row lists starts as the program's text lays it (the card ties that).
-/
import Derived.Test.YtgckapolpifbkaaGreatDoorLb
import Derived.Test.YtgckapolpifbkaaGreatDoorCards
import Derived.Test.YtgckapolpifbkaaGreatDoorTie
import Derived.Test.YtgckapolpifbkaaGreatDoorWi
import Derived.Test.YtgckapolpifbkaaGreatDoorWm
import Derived.Deep.MidRow
import Derived.Test.YtgckapolpifbkaaGreatDoorBy
namespace Go.Proofs.YtgckapolpifbkaaGreatDoor.poolBack
open Go.ChangeShapes Go.WideShapes Go.ChangeAt Go.RowKit
set_option linter.unusedVariables false


set_option maxRecDepth 100000 in
set_option maxHeartbeats 1600000 in
theorem walk (w : World) (a0 : Option Addr) (len0 cap0 : Nat) (x0 : List NodeV) (sl0 : SlR RNode 4 w x0 a0 len0 cap0) (z1 : Int) (za1 : 0 ≤ z1) (zb1 : z1 ≤ 4294967295) (hK : KT w) (hT : TZ w) :
    Calls Tryz.prog 4 #[.slice a0 len0 cap0, .int .u32 z1] w fun e w' => e = .returned (.bool true) ∧ Below w.heap.size w w' := by
  have HA := Lib.hid (alive13_any w hK hT)
  have HKT := Lib.hid (And.intro hK hT)
  have hk0 := yvs_none
  have hp0 := zero_ptr
  have hn0 := zero_node0
  have hkl : (keyE ++ macE).length = 64 := by rw [List.length_append, keyE_length, macE_length]
  have SK := Lib.hid (size_keys (keyE ++ macE) hkl)
  have SE := Lib.hid (show (yvs (zeroY 64)).size = (yvs (keyE ++ macE)).size by rw [yvs_size, yvs_size, hkl]; rfl)
  have SO := Lib.hid (yvs_one (keyE ++ macE))
  have SP1 := Lib.hid size_ptrA
  have SP2 := Lib.hid (fun x : PtrV => show (ptrRow zeroPtr).toArray.size = (ptrRow x).toArray.size by simp [ptrRow_length])
  have SP3 := Lib.hid ptrRow_one
  have SN1 := Lib.hid size_node
  have SN2 := Lib.hid (fun (x : Bool) (k v p : Value) => show nzero.size = (#[.bool x, k, v, p] : Array Value).size from rfl)
  obtain ⟨YK, hYK⟩ : ∃ z, yvs (keyE ++ macE) = z := ⟨_, rfl⟩
  obtain ⟨ZK, hZK⟩ : ∃ z, yvs (zeroY 64) = z := ⟨_, rfl⟩
  obtain ⟨ZP, hZP⟩ : ∃ z, (ptrRow zeroPtr).toArray = z := ⟨_, rfl⟩
  obtain ⟨ZN, hZN⟩ : ∃ z, nzero = z := ⟨_, rfl⟩
  have HMD := Lib.hid (fun (n : Nat) (W : World) (hb : Below w.heap.size w W) (h0 : 16 ≤ n) (h1 : n ≤ 4096) (L : List RowE) (M : List Nat) (hL : ∀ r ∈ L, W.heap[r.1]? = some (.cells r.2.1 r.2.2 (0, 0)) ∧ w.heap.size ≤ r.1) (hM : ∀ k ∈ M, k < W.heap.size) => made13L w W n hK hT hb h0 h1 L M hL hM)
  rw [hYK] at HMD SK SE SO
  rw [hZK] at hk0 SE
  rw [hZP] at hp0 SP2
  rw [hZN] at hn0 SN2
  have HZP := Lib.hid hZP
  have HZN := Lib.hid hZN
  have HYL := Lib.hid hYK
  clear hYK hZK hZP hZN hkl hK hT
  have HSL := Lib.hid sl0
  have lI : (len0 : Int) ≤ 140737488351232 := by have := sl0.big; have := sl0.cap; omega
  obtain ⟨bt, rfl⟩ : ∃ t : Nat, z1 = (t : Int) := ⟨z1.toNat, by omega⟩
  have HBT := Lib.hid (show bt < 4294967296 by omega)
  clear za1 zb1 sl0
  by_cases hbig : 12 < len0
  · have bI : (12 : Int) < (len0 : Int) := by omega
    clear hbig
    go_enter Tryz.func4, Tryz.ntmps4
    go_wp2_with fail
    refine HA.out.mono ?_
    rintro e w1 ⟨rfl, hb1⟩
    have HB1 := Lib.hid hb1
    clear hb1 HA
    go_wp2_with fail
    go_ret
    exact ⟨rfl, HB1.out⟩
  · have bI : (len0 : Int) ≤ 12 := by omega
    have HLN := Lib.hid (show len0 ≤ 12 by omega)
    clear hbig
    go_enter Tryz.func4, Tryz.ntmps4
    go_wp2_with fail
    refine HA.out.mono ?_
    rintro e w3 ⟨rfl, hb1⟩
    have HB3 := Lib.hid hb1
    clear hb1 HA
    go_wp2_with fail
    refine (HMD.out 32 w3 HB3.out (by decide) (by decide) [] [] (fun r hr => absurd hr (by simp)) (fun k hk => absurd hk (by simp))).mono ?_
    rintro e w4 ⟨P, D, gl, rfl, hq, _⟩
    have HQ4 := Lib.hid hq
    clear hq HMD HB3
    go_upto_region 6 with (first
      | (with_reducible refine wpList_store_row (o := ⟨none, .store _ (.tmp 7) _, _, _, _, _⟩) rfl 30 _ _ rfl w4.heap.size YK rfl rfl 30 ZK (heap_alloc_new w4 _) SK.out SE.out SO.out ?_))
    generalize hWs : World.setRow _ w4.heap.size _ = w5
    have hqs := HQ4.out.fresh ZK YK 30 w5 hWs.symm
    have hbs := (fresh13 w4 ZK YK 30 w5 hWs.symm).2
    have HQ5 := Lib.hid hqs
    have HSw5 := Lib.hid hbs
    clear hWs hqs hbs HQ4
    generalize w4.heap.size = X9 at *
    have HBG := Lib.hid (show Calls Tryz.prog 14 #[.pointer (some ⟨P, 0, none⟩), .int .u64 ((bt : Int) + 1)] w5 fun e w' => e = .returned (.int .i64 0) ∧ QL w w' P D gl 32 (keyE ++ macE) (allF 32) (bt + 1) (zeroY (32 * 512)) [] (-1) false [(X9, YK, 30)] [] ∧ Touch [P] w5 w' from by
      have h := ql_begin (bt + 1) HQ5.out
      rw [if_neg (by omega), if_neg (by omega)] at h
      exact h)
    have hb1 : IntKind.u64.wrap ((bt : Int) + 1) = (bt : Int) + 1 := IntWalk.u64_in _ (by have := HBT.out; omega)
    have btI : (bt : Int) < 4294967296 := by have := HBT.out; omega
    have bt0 : (0 : Int) ≤ (bt : Int) := by omega
    go_wp2_with fail
    refine HBG.out.mono ?_
    rintro e w6 ⟨rfl, hq6, _⟩
    have HG6 := Lib.hid (show G2 w w6 P D gl 32 (keyE ++ macE) (allF 32) (bt + 1) (zeroY (32 * 512)) [] (-1) false [(X9, YK, 30)] (.slice none 0 0) (.slice none 0 0) 0 0 [] [] from ⟨⟨[], hq6, (fun g h => by cases h), (fun g h => by cases h)⟩, World.ownsRow_nil _ _ _ _, World.ownsRow_nil _ _ _ _, fun r hr => ⟨(fun h => by cases h), (fun h => by cases h)⟩⟩)
    clear hq6 HBG HQ5 hb1 btI bt0
    go_wp2_with fail
    go_loopw [9, 10, 12, 13, 14, 45] (fun v9 v10 _ _ _ v45 wr => ∃ (i m : Nat) (a9 a10 : Option Addr) (c9 c10 : Nat) (E : List ENode), i ≤ len0 ∧ v45 = .int .i64 (i : Int) ∧ v9 = .slice a9 m c9 ∧ v10 = .slice a10 m c10 ∧ E.length = m ∧ m ≤ i ∧ (∀ e ∈ E, checkN e.1 = 0 ∧ NR w e.2.1 e.2.2.1 e.2.2.2 e.1) ∧ G2 w wr P D gl 32 (keyE ++ macE) (fillF 32 m) (bt + 1) (zeroY (32 * 512)) (wsE (bt + 1) E) (-1) false [(X9, YK, 30)] (.slice a9 m c9) (.slice a10 m c10) m m (ptrsE (bt + 1) E) E) (fun _ _ _ _ _ v _ => len0 - (intOf v).toNat)
    case atStart => exact ⟨0, 0, none, none, 0, 0, [], by omega, rfl, rfl, rfl, rfl, Nat.le_refl _, (fun e he => absurd he (by simp)), by have h := HG6.out; simpa [fillF_zero, wsE, ptrsE] using h⟩
    case round =>
      clear HG6
      obtain ⟨i, m, a9, a10, c9, c10, E, hi, rfl, rfl, rfl, hm, hmi, hE, hg⟩ := hrel
      by_cases hlt : i < len0
      · obtain ⟨b, off, q, kq, vq, pq, rfl, hx, hrg, hnr, hnb⟩ := nodes_at2 HSL.out hg.bel hlt
        have hix := index_node b off len0 cap0 i hlt
        have HK := Lib.hid (And.intro hlt (And.intro hm (And.intro hmi hE)))
        have HRG := Lib.hid hrg
        have HG := Lib.hid hg
        have HNR := Lib.hid hnr
        have HNQ := Lib.hid (hnr.below hg.bel)
        have HNBQ := Lib.hid hnb
        have iI : (i : Int) < (len0 : Int) := by omega
        have i0 : (0 : Int) ≤ (i : Int) := by omega
        have sq1 := Lib.hid (SN1.out q.lf kq vq pq)
        have sq2 := Lib.hid (SN2.out q.lf kq vq pq)
        have sq3 := Lib.hid (nr_one hnr q.lf)
        have sql := Lib.hid (show (Tryz.prog.info? 38).map (·.size) = some [Value.bool q.lf, kq, vq, pq].length from SN1.out q.lf kq vq pq)
        clear hi hlt hx hrg hg hnr hnb hm hmi hE
        go_upto_region 13 with (first
          | (with_reducible refine wpList_load_mid (op := ⟨some 48, _, _, _, _, _⟩) rfl 38 _ rfl b (off + i * 4) rfl [.bool q.lf, kq, vq, pq] _ HRG.out Tryz.underlying38 rfl sql.out ?_)
          | (with_reducible refine wpList_store_row (o := ⟨none, .store _ (.tmp 12) _, _, _, _, _⟩) rfl 38 _ _ rfl wr.heap.size #[.bool q.lf, kq, vq, pq] rfl rfl 38 ZN (heap_alloc_new wr _) sq1.out sq2.out sq3.out ?_))
        generalize hWs : World.setRow _ wr.heap.size _ = w8
        have hgs := HG.out.fresh ZN #[.bool q.lf, kq, vq, pq] 38 w8 hWs.symm
        have hbs := (fresh13 wr ZN #[.bool q.lf, kq, vq, pq] 38 w8 hWs.symm).2
        have HG8 := Lib.hid hgs
        have HN8 := Lib.hid (HNQ.out.below hbs)
        clear hWs hgs hbs HG hix HRG HNQ
        generalize wr.heap.size = X12 at *
        have HR8 := Lib.hid (show w8.heap[X12]? = some (.cells #[.bool q.lf, kq, vq, pq] 38 (0, 0)) from HG8.out.row 0 _ rfl)
        have HHQ := Lib.hid (heavy_any kq vq pq q w8 HN8.out HNBQ.out)
        go_wp2_with (first
          | (with_reducible refine wpList_load_row (o := ⟨some 49, _, _, _, _, _⟩) rfl 38 _ rfl X12 rfl 38 #[.bool q.lf, kq, vq, pq] (0, 0) _ HR8.out Tryz.underlying38 rfl sq1.out ?_))
        refine HHQ.out.mono ?_
        rintro e w9 ⟨hv, rfl, hb9⟩
        have HG9 := Lib.hid (HG8.out.below hb9)
        have HN9 := Lib.hid (HN8.out.below hb9)
        clear hb9 HHQ HR8 HG8 HN8
        cases hv with
        | true =>
          go_wp2_with fail
          go_ret
          exact ⟨rfl, HG9.out.bel⟩
        | false =>
          have HR9 := Lib.hid (show w9.heap[X12]? = some (.cells #[.bool q.lf, kq, vq, pq] 38 (0, 0)) from HG9.out.row 0 _ rfl)
          by_cases hc : checkN q = 0
          · have HC := Lib.hid hc
            clear hc
            have hlow := fillF_low 32 m (by have := HK.out; have := HLN.out; omega)
            have HWR := Lib.hid (show Calls Tryz.prog 21 #[.pointer (some ⟨P, 0, none⟩), .agg #[.bool q.lf, kq, vq, pq]] w9 fun e w' => e = .returned (.tuple #[.agg (ptrRow (ptrQ keyE (bt + 1) (2 + m) q)).toArray, .int .i64 0]) ∧ G2 w w' P D gl 32 (keyE ++ macE) (fillF 32 (m + 1)) (bt + 1) (zeroY (32 * 512)) (wsE (bt + 1) E ++ [(2 + m, sealQ keyE (bt + 1) (2 + m) q)]) (-1) false [(X12, #[.bool q.lf, kq, vq, pq], 38), (X9, YK, 30)] (.slice a9 m c9) (.slice a10 m c10) m m (ptrsE (bt + 1) E) E from by
              have h := G2.calls HG9.out (fun M hq => ql_wok (2 + m) keyE macE kq vq pq q hq keyE_length macE_length HN9.out HNBQ.out (by have := HBT.out; omega) (by omega) HC.out hlow.1 hlow.2 (by rw [wsE_length]; have := HK.out; have := HLN.out; omega) (by decide))
              rw [fillF_next] at h
              exact h)
            clear hlow
            go_wp2_with (first
              | (with_reducible refine wpList_load_row (o := ⟨some 53, _, _, _, _, _⟩) rfl 38 _ rfl X12 rfl 38 #[.bool q.lf, kq, vq, pq] (0, 0) _ HR9.out Tryz.underlying38 rfl sq1.out ?_))
            refine HWR.out.mono ?_
            rintro e w10 ⟨rfl, hg10⟩
            have HG10 := Lib.hid hg10
            have HN10 := Lib.hid (fun (W : World) (hW : Below w.heap.size w W) => HNR.out.below hW)
            clear hg10 HWR HR9 HG9 HN9
            obtain ⟨PX, hPX⟩ : ∃ z, ptrQ keyE (bt + 1) (2 + m) q = z := ⟨_, rfl⟩
            obtain ⟨RX, hRX⟩ : ∃ z, (ptrRow PX).toArray = z := ⟨_, rfl⟩
            have HPX := Lib.hid hPX
            have HRX := Lib.hid hRX
            have sa1 := SP1.out PX
            have sa2 := SP2.out PX
            have sa3 := SP3.out PX
            rw [hRX] at sa1 sa2 sa3
            have SAPX1 := Lib.hid sa1
            have SAPX2 := Lib.hid sa2
            have SAPX3 := Lib.hid sa3
            rw [hPX, hRX]
            clear hPX hRX sa1 sa2 sa3
            go_upto_region 16 with (first
              | (with_reducible refine wpList_store_row (o := ⟨none, .store _ (.tmp 13) _, _, _, _, _⟩) rfl 43 _ _ rfl w10.heap.size RX rfl rfl 43 ZP (heap_alloc_new w10 _) SAPX1.out SAPX2.out SAPX3.out ?_))
            generalize hWs : World.setRow _ w10.heap.size _ = w11
            have hgs := HG10.out.fresh ZP RX 43 w11 hWs.symm
            have HG11 := Lib.hid hgs
            clear hWs hgs HG10
            generalize w10.heap.size = X13 at *
            have HR11 := Lib.hid (show w11.heap[X12]? = some (.cells #[.bool q.lf, kq, vq, pq] 38 (0, 0)) from HG11.out.row 1 _ rfl)
            have HCK := Lib.hid (show Calls Tryz.prog 30 #[.agg #[.bool q.lf, kq, vq, pq]] w11 fun e w' => e = .returned (.int .i64 0) ∧ Below w11.heap.size w11 w' from by
              have h := ncheck_any kq vq pq q w11 (HNR.out.below HG11.out.bel) HNBQ.out
              rw [HC.out] at h
              exact h)
            go_wp2_with (first
              | (with_reducible refine wpList_load_row (o := ⟨some 58, _, _, _, _, _⟩) rfl 38 _ rfl X12 rfl 38 #[.bool q.lf, kq, vq, pq] (0, 0) _ HR11.out Tryz.underlying38 rfl sq1.out ?_))
            refine HCK.out.mono ?_
            rintro e w12 ⟨rfl, hb12⟩
            have HG12 := Lib.hid (HG11.out.below hb12)
            clear hb12 HCK HR11 HG11
            go_upto_region 19 with fail
            have HS := Lib.hid (show ∀ (W : World) (u9 u10 : Value) (n9 n10 : Nat) (XX : List PtrV) (EE : List ENode), G2 w W P D gl 32 (keyE ++ macE) (fillF 32 (m + 1)) (bt + 1) (zeroY (32 * 512)) (wsE (bt + 1) E ++ [(2 + m, sealQ keyE (bt + 1) (2 + m) q)]) (-1) false [(X13, RX, 43), (X12, #[.bool q.lf, kq, vq, pq], 38), (X9, YK, 30)] u9 u10 n9 n10 XX EE → (W.rangeAt X13 0 RX.toList ∧ W.rangeAt X12 0 (nrow (q, kq, vq, pq))) from fun W u9 u10 n9 n10 XX EE h => ⟨rowR (h.row 0 _ rfl), rowR (h.row 1 _ rfl)⟩)
            have HGZ := Lib.hid (HG12.out.below (Below.refl w12.heap.size w12).drew)
            have HSM := Lib.hid (show m ≤ 1000000 by have := HK.out; have := HLN.out; omega)
            have SZ1 := Lib.hid (show (Tryz.prog.info? 43).map (·.size) = some RX.toList.length by rw [Array.length_toList]; exact SAPX1.out)
            try simp only [Act.put]
            refine wp_region_noPanic ?_
            refine wp_region_held_drew (S := fun W => W.rangeAt X13 0 RX.toList ∧ W.rangeAt X12 0 (nrow (q, kq, vq, pq))) (by kernel_rfl) (HS.out _ _ _ _ _ _ _ HGZ.out) (fun hHeld => ?_)
            refine wpAnyH_take (i := 0) (oi := ⟨some 63, _, _, _, _, _⟩) (v := ?_) rfl (by kernel_rfl) (by decide +kernel) (by decide +kernel) (fun _ _ _ h => h) (Or.inl ⟨by rfl, ?_⟩) (by assumption) ?_
            rotate_left 1
            · (intro w' hSw; go_simp; try with_reducible rfl)
            try simp only [Act.put, List.setIfInBounds_toArray, List.set_cons_zero, List.set_cons_succ]
            refine wpAnyH_take (i := 1) (oi := ⟨some 64, _, _, _, _, _⟩) rfl (by kernel_rfl) (by decide +kernel) (by decide +kernel) (fun _ _ _ h => h) (yieldsIf_load_mid (by rfl) _ _ rfl (X13) 0 rfl (RX.toList) _ (fun w' h => h.1) Tryz.underlying43 rfl SZ1.out) (by assumption) ?_
            try simp only [Act.put, List.setIfInBounds_toArray, List.set_cons_zero, List.set_cons_succ, Array.toArray_toList]
            refine wpAnyH_take (i := 4) (oi := ⟨some 67, _, _, _, _, _⟩) (v := ?_) rfl (by kernel_rfl) (by decide +kernel) (by decide +kernel) (fun _ _ _ h => h) (Or.inl ⟨by rfl, ?_⟩) (by assumption) ?_
            rotate_left 1
            · (intro w' hSw; go_simp; try with_reducible rfl)
            try simp only [Act.put, List.setIfInBounds_toArray, List.set_cons_zero, List.set_cons_succ]
            refine wpAnyH_take (i := 5) (oi := ⟨some 68, _, _, _, _, _⟩) rfl (by kernel_rfl) (by decide +kernel) (by decide +kernel) (fun _ _ _ h => h) (yieldsIf_load_mid (by rfl) _ _ rfl (X12) 0 rfl (nrow (q, kq, vq, pq)) _ (fun w' h => h.2) Tryz.underlying38 rfl sql.out) (by assumption) ?_
            try simp only [Act.put, List.setIfInBounds_toArray, List.set_cons_zero, List.set_cons_succ]
            clear hHeld
            refine wpAnyH_ready (rs := [2, 6]) (by decide +kernel) (by simp) ?_
            refine AllReadyH.cons rfl (fun K hK => ?_) (AllReadyH.cons rfl (fun K hK => ?_) AllReadyH.nil)
            · obtain ⟨wn1, hrun, hG, hA, hbb⟩ := HGZ.out.litA PX RX HRX.out
              have HLA1 := Lib.hid hA
              rw [if_pos (by kernel_rfl)]
              refine wp_lit_at6 (o := ⟨some 65, _, _, _, _, _⟩) _ _ _ rfl #[(0, .agg RX)] (by simp [Act.eval]) _ _ hrun ?_
              have HG1n := Lib.hid hG
              refine hK.out _ _ (HS.out _ _ _ _ _ _ _ HG1n.out) (fun hHeld => ?_)
              clear hK K hHeld hrun hG hA hbb
              try simp only [Act.put, List.setIfInBounds_toArray, List.set_cons_zero, List.set_cons_succ]
              refine wpAnyH_ready (rs := [3, 6]) (by decide +kernel) (by simp) ?_
              refine AllReadyH.cons rfl (fun K hK => ?_) (AllReadyH.cons rfl (fun K hK => ?_) AllReadyH.nil)
              · obtain ⟨ax2, cx2, wn2, hrun, hG, hk⟩ := HG1n.out.appA w12.drew.heap.size PX RX HRX.out HLA1.out HSM.out
                rw [if_pos (by kernel_rfl)]
                refine wp_append_at6 (o := ⟨some 66, _, _, _, _, _⟩) _ _ _ rfl (.slice a9 m c9) (.slice (some ⟨w12.drew.heap.size, 0, none⟩) 1 1) rfl rfl _ _ hrun ?_
                have HG2n := Lib.hid hG
                refine hK.out _ _ (HS.out _ _ _ _ _ _ _ HG2n.out) (fun hHeld => ?_)
                clear hK K hHeld hrun hG hk
                try simp only [Act.put, List.setIfInBounds_toArray, List.set_cons_zero, List.set_cons_succ]
                refine wpAnyH_ready (rs := [6]) (by decide +kernel) (by simp) ?_
                refine AllReadyH.cons rfl (fun K hK => ?_) AllReadyH.nil
                obtain ⟨wn3, hrun, hG, hB, hbb⟩ := HG2n.out.litB (q, kq, vq, pq)
                have HLB3 := Lib.hid hB
                rw [if_pos (by kernel_rfl)]
                refine wp_lit_at6 (o := ⟨some 69, _, _, _, _, _⟩) _ _ _ rfl #[(0, .agg (nrow (q, kq, vq, pq)).toArray)] (by simp [Act.eval]) _ _ hrun ?_
                have HG3n := Lib.hid hG
                refine hK.out _ _ (HS.out _ _ _ _ _ _ _ HG3n.out) (fun hHeld => ?_)
                clear hK K hHeld hrun hG hB hbb
                try simp only [Act.put, List.setIfInBounds_toArray, List.set_cons_zero, List.set_cons_succ]
                refine wpAnyH_ready (rs := [7]) (by decide +kernel) (by simp) ?_
                refine AllReadyH.cons rfl (fun K hK => ?_) AllReadyH.nil
                obtain ⟨ax4, cx4, wn4, hrun, hG, hk⟩ := HG3n.out.appB wn2.heap.size (q, kq, vq, pq) sq3.out HLB3.out HSM.out
                rw [if_pos (by kernel_rfl)]
                refine wp_append_at6 (o := ⟨some 70, _, _, _, _, _⟩) _ _ _ rfl (.slice a10 m c10) (.slice (some ⟨wn2.heap.size, 0, none⟩) 1 1) rfl rfl _ _ hrun ?_
                have HG4n := Lib.hid hG
                refine hK.out _ _ (HS.out _ _ _ _ _ _ _ HG4n.out) (fun hHeld => ?_)
                clear hK K hrun hG hk
                try simp only [Act.put, List.setIfInBounds_toArray, List.set_cons_zero, List.set_cons_succ]
                refine wpAnyH_take (i := 8) (oi := ⟨some 9, _, _, _, _, _⟩) (v := ?_) rfl (by kernel_rfl) (by decide +kernel) (by decide +kernel) (fun _ _ _ h => h) (Or.inl ⟨by rfl, ?_⟩) (by assumption) ?_
                rotate_left 1
                · (intro w' hSw; go_simp; try with_reducible rfl)
                try simp only [Act.put, List.setIfInBounds_toArray, List.set_cons_zero, List.set_cons_succ]
                refine wpAnyH_take (i := 9) (oi := ⟨some 10, _, _, _, _, _⟩) (v := ?_) rfl (by kernel_rfl) (by decide +kernel) (by decide +kernel) (fun _ _ _ h => h) (Or.inl ⟨by rfl, ?_⟩) (by assumption) ?_
                rotate_left 1
                · (intro w' hSw; go_simp; try with_reducible rfl)
                try simp only [Act.put, List.setIfInBounds_toArray, List.set_cons_zero, List.set_cons_succ]
                clear hHeld
                refine wpAnyH_done (by decide +kernel) ?_ _
                refine NoPanic.normal ?_
                go_wp2_with fail
                go_roundw
                case rel => exact ⟨i + 1, m + 1, ax2, ax4, cx2, cx4, E ++ [(q, kq, vq, pq)], by have := HK.out.1; omega, by go_num, rfl, rfl, by rw [List.length_append, HK.out.2.1]; rfl, by have := HK.out.2.2.1; omega, (fun e he => by rcases List.mem_append.1 he with h | h; exact HK.out.2.2.2 e h; (rw [List.mem_singleton] at h; subst h; exact ⟨HC.out, HNR.out⟩)), by rw [wsE_snoc, ptrsE_snoc, HK.out.2.1, HPX.out]; exact G2.less HG4n.out (fun r hr => List.mem_cons_of_mem _ (List.mem_cons_of_mem _ hr))⟩
                case measure => simp [intOf]; have := HK.out.1; omega
              · obtain ⟨wn5, hrun, hG, hB, hbb⟩ := HG1n.out.litB (q, kq, vq, pq)
                have HLA5 := Lib.hid ((hbb.block _ (lt_of_block HLA1.out)).trans HLA1.out)
                have HLB5 := Lib.hid hB
                rw [if_pos (by kernel_rfl)]
                refine wp_lit_at6 (o := ⟨some 69, _, _, _, _, _⟩) _ _ _ rfl #[(0, .agg (nrow (q, kq, vq, pq)).toArray)] (by simp [Act.eval]) _ _ hrun ?_
                have HG5n := Lib.hid hG
                refine hK.out _ _ (HS.out _ _ _ _ _ _ _ HG5n.out) (fun hHeld => ?_)
                clear hK K hHeld hrun hG hB hbb
                try simp only [Act.put, List.setIfInBounds_toArray, List.set_cons_zero, List.set_cons_succ]
                refine wpAnyH_ready (rs := [3]) (by decide +kernel) (by simp) ?_
                refine AllReadyH.cons rfl (fun K hK => ?_) AllReadyH.nil
                obtain ⟨ax6, cx6, wn6, hrun, hG, hk⟩ := HG5n.out.appA w12.drew.heap.size PX RX HRX.out HLA5.out HSM.out
                have HLB6 := Lib.hid (hk _ _ HLB5.out)
                rw [if_pos (by kernel_rfl)]
                refine wp_append_at6 (o := ⟨some 66, _, _, _, _, _⟩) _ _ _ rfl (.slice a9 m c9) (.slice (some ⟨w12.drew.heap.size, 0, none⟩) 1 1) rfl rfl _ _ hrun ?_
                have HG6n := Lib.hid hG
                refine hK.out _ _ (HS.out _ _ _ _ _ _ _ HG6n.out) (fun hHeld => ?_)
                clear hK K hHeld hrun hG hk
                try simp only [Act.put, List.setIfInBounds_toArray, List.set_cons_zero, List.set_cons_succ]
                refine wpAnyH_ready (rs := [7]) (by decide +kernel) (by simp) ?_
                refine AllReadyH.cons rfl (fun K hK => ?_) AllReadyH.nil
                obtain ⟨ax7, cx7, wn7, hrun, hG, hk⟩ := HG6n.out.appB wn1.heap.size (q, kq, vq, pq) sq3.out HLB6.out HSM.out
                rw [if_pos (by kernel_rfl)]
                refine wp_append_at6 (o := ⟨some 70, _, _, _, _, _⟩) _ _ _ rfl (.slice a10 m c10) (.slice (some ⟨wn1.heap.size, 0, none⟩) 1 1) rfl rfl _ _ hrun ?_
                have HG7n := Lib.hid hG
                refine hK.out _ _ (HS.out _ _ _ _ _ _ _ HG7n.out) (fun hHeld => ?_)
                clear hK K hrun hG hk
                try simp only [Act.put, List.setIfInBounds_toArray, List.set_cons_zero, List.set_cons_succ]
                refine wpAnyH_take (i := 8) (oi := ⟨some 9, _, _, _, _, _⟩) (v := ?_) rfl (by kernel_rfl) (by decide +kernel) (by decide +kernel) (fun _ _ _ h => h) (Or.inl ⟨by rfl, ?_⟩) (by assumption) ?_
                rotate_left 1
                · (intro w' hSw; go_simp; try with_reducible rfl)
                try simp only [Act.put, List.setIfInBounds_toArray, List.set_cons_zero, List.set_cons_succ]
                refine wpAnyH_take (i := 9) (oi := ⟨some 10, _, _, _, _, _⟩) (v := ?_) rfl (by kernel_rfl) (by decide +kernel) (by decide +kernel) (fun _ _ _ h => h) (Or.inl ⟨by rfl, ?_⟩) (by assumption) ?_
                rotate_left 1
                · (intro w' hSw; go_simp; try with_reducible rfl)
                try simp only [Act.put, List.setIfInBounds_toArray, List.set_cons_zero, List.set_cons_succ]
                clear hHeld
                refine wpAnyH_done (by decide +kernel) ?_ _
                refine NoPanic.normal ?_
                go_wp2_with fail
                go_roundw
                case rel => exact ⟨i + 1, m + 1, ax6, ax7, cx6, cx7, E ++ [(q, kq, vq, pq)], by have := HK.out.1; omega, by go_num, rfl, rfl, by rw [List.length_append, HK.out.2.1]; rfl, by have := HK.out.2.2.1; omega, (fun e he => by rcases List.mem_append.1 he with h | h; exact HK.out.2.2.2 e h; (rw [List.mem_singleton] at h; subst h; exact ⟨HC.out, HNR.out⟩)), by rw [wsE_snoc, ptrsE_snoc, HK.out.2.1, HPX.out]; exact G2.less HG7n.out (fun r hr => List.mem_cons_of_mem _ (List.mem_cons_of_mem _ hr))⟩
                case measure => simp [intOf]; have := HK.out.1; omega
            · obtain ⟨wn8, hrun, hG, hB, hbb⟩ := HGZ.out.litB (q, kq, vq, pq)
              have HLB8 := Lib.hid hB
              rw [if_pos (by kernel_rfl)]
              refine wp_lit_at6 (o := ⟨some 69, _, _, _, _, _⟩) _ _ _ rfl #[(0, .agg (nrow (q, kq, vq, pq)).toArray)] (by simp [Act.eval]) _ _ hrun ?_
              have HG8n := Lib.hid hG
              refine hK.out _ _ (HS.out _ _ _ _ _ _ _ HG8n.out) (fun hHeld => ?_)
              clear hK K hHeld hrun hG hB hbb
              try simp only [Act.put, List.setIfInBounds_toArray, List.set_cons_zero, List.set_cons_succ]
              refine wpAnyH_ready (rs := [2]) (by decide +kernel) (by simp) ?_
              refine AllReadyH.cons rfl (fun K hK => ?_) AllReadyH.nil
              obtain ⟨wn9, hrun, hG, hA, hbb⟩ := HG8n.out.litA PX RX HRX.out
              have HLB9 := Lib.hid ((hbb.block _ (lt_of_block HLB8.out)).trans HLB8.out)
              have HLA9 := Lib.hid hA
              rw [if_pos (by kernel_rfl)]
              refine wp_lit_at6 (o := ⟨some 65, _, _, _, _, _⟩) _ _ _ rfl #[(0, .agg RX)] (by simp [Act.eval]) _ _ hrun ?_
              have HG9n := Lib.hid hG
              refine hK.out _ _ (HS.out _ _ _ _ _ _ _ HG9n.out) (fun hHeld => ?_)
              clear hK K hHeld hrun hG hA hbb
              try simp only [Act.put, List.setIfInBounds_toArray, List.set_cons_zero, List.set_cons_succ]
              refine wpAnyH_ready (rs := [3]) (by decide +kernel) (by simp) ?_
              refine AllReadyH.cons rfl (fun K hK => ?_) AllReadyH.nil
              obtain ⟨ax10, cx10, wn10, hrun, hG, hk⟩ := HG9n.out.appA wn8.heap.size PX RX HRX.out HLA9.out HSM.out
              have HLB10 := Lib.hid (hk _ _ HLB9.out)
              rw [if_pos (by kernel_rfl)]
              refine wp_append_at6 (o := ⟨some 66, _, _, _, _, _⟩) _ _ _ rfl (.slice a9 m c9) (.slice (some ⟨wn8.heap.size, 0, none⟩) 1 1) rfl rfl _ _ hrun ?_
              have HG10n := Lib.hid hG
              refine hK.out _ _ (HS.out _ _ _ _ _ _ _ HG10n.out) (fun hHeld => ?_)
              clear hK K hHeld hrun hG hk
              try simp only [Act.put, List.setIfInBounds_toArray, List.set_cons_zero, List.set_cons_succ]
              refine wpAnyH_ready (rs := [7]) (by decide +kernel) (by simp) ?_
              refine AllReadyH.cons rfl (fun K hK => ?_) AllReadyH.nil
              obtain ⟨ax11, cx11, wn11, hrun, hG, hk⟩ := HG10n.out.appB w12.drew.heap.size (q, kq, vq, pq) sq3.out HLB10.out HSM.out
              rw [if_pos (by kernel_rfl)]
              refine wp_append_at6 (o := ⟨some 70, _, _, _, _, _⟩) _ _ _ rfl (.slice a10 m c10) (.slice (some ⟨w12.drew.heap.size, 0, none⟩) 1 1) rfl rfl _ _ hrun ?_
              have HG11n := Lib.hid hG
              refine hK.out _ _ (HS.out _ _ _ _ _ _ _ HG11n.out) (fun hHeld => ?_)
              clear hK K hrun hG hk
              try simp only [Act.put, List.setIfInBounds_toArray, List.set_cons_zero, List.set_cons_succ]
              refine wpAnyH_take (i := 8) (oi := ⟨some 9, _, _, _, _, _⟩) (v := ?_) rfl (by kernel_rfl) (by decide +kernel) (by decide +kernel) (fun _ _ _ h => h) (Or.inl ⟨by rfl, ?_⟩) (by assumption) ?_
              rotate_left 1
              · (intro w' hSw; go_simp; try with_reducible rfl)
              try simp only [Act.put, List.setIfInBounds_toArray, List.set_cons_zero, List.set_cons_succ]
              refine wpAnyH_take (i := 9) (oi := ⟨some 10, _, _, _, _, _⟩) (v := ?_) rfl (by kernel_rfl) (by decide +kernel) (by decide +kernel) (fun _ _ _ h => h) (Or.inl ⟨by rfl, ?_⟩) (by assumption) ?_
              rotate_left 1
              · (intro w' hSw; go_simp; try with_reducible rfl)
              try simp only [Act.put, List.setIfInBounds_toArray, List.set_cons_zero, List.set_cons_succ]
              clear hHeld
              refine wpAnyH_done (by decide +kernel) ?_ _
              refine NoPanic.normal ?_
              go_wp2_with fail
              go_roundw
              case rel => exact ⟨i + 1, m + 1, ax10, ax11, cx10, cx11, E ++ [(q, kq, vq, pq)], by have := HK.out.1; omega, by go_num, rfl, rfl, by rw [List.length_append, HK.out.2.1]; rfl, by have := HK.out.2.2.1; omega, (fun e he => by rcases List.mem_append.1 he with h | h; exact HK.out.2.2.2 e h; (rw [List.mem_singleton] at h; subst h; exact ⟨HC.out, HNR.out⟩)), by rw [wsE_snoc, ptrsE_snoc, HK.out.2.1, HPX.out]; exact G2.less HG11n.out (fun r hr => List.mem_cons_of_mem _ (List.mem_cons_of_mem _ hr))⟩
              case measure => simp [intOf]; have := HK.out.1; omega
          · have c0 : (checkN q == 0) = false := by simpa using hc
            have HC := Lib.hid hc
            clear hc
            have HWR := Lib.hid (show Calls Tryz.prog 21 #[.pointer (some ⟨P, 0, none⟩), .agg #[.bool q.lf, kq, vq, pq]] w9 fun e w' => e = .returned (.tuple #[.agg (ptrRow zeroPtr).toArray, .int .i64 (checkN q)]) ∧ Below w9.heap.size w9 w' from by
              obtain ⟨M, hq, _, _⟩ := HG9.out.q
              exact ql_wbad kq vq pq q hq HN9.out HNBQ.out (by omega) HC.out)
            have SAZ1 := SP1.out zeroPtr
            have SAZ3 := SP3.out zeroPtr
            rw [HZP.out] at SAZ1 SAZ3 HWR
            have SAZ1 := Lib.hid SAZ1
            have SAZ3 := Lib.hid SAZ3
            go_wp2_with (first
              | (with_reducible refine wpList_load_row (o := ⟨some 53, _, _, _, _, _⟩) rfl 38 _ rfl X12 rfl 38 #[.bool q.lf, kq, vq, pq] (0, 0) _ HR9.out Tryz.underlying38 rfl sq1.out ?_))
            refine HWR.out.mono ?_
            rintro e w10 ⟨rfl, hb10⟩
            have HG10 := Lib.hid (HG9.out.below hb10)
            clear hb10 HWR HR9 HG9 HN9
            go_upto_region 16 with (first
              | (with_reducible refine wpList_store_row (o := ⟨none, .store _ (.tmp 13) _, _, _, _, _⟩) rfl 43 _ _ rfl w10.heap.size ZP rfl rfl 43 ZP (heap_alloc_new w10 _) SAZ1.out rfl SAZ3.out ?_))
            generalize hWs : World.setRow _ w10.heap.size _ = w11
            have hgs := HG10.out.fresh ZP ZP 43 w11 hWs.symm
            have HG11 := Lib.hid hgs
            clear hWs hgs HG10
            generalize w10.heap.size = X13 at *
            have HR11 := Lib.hid (show w11.heap[X12]? = some (.cells #[.bool q.lf, kq, vq, pq] 38 (0, 0)) from HG11.out.row 1 _ rfl)
            have HCK := Lib.hid (show Calls Tryz.prog 30 #[.agg #[.bool q.lf, kq, vq, pq]] w11 fun e w' => e = .returned (.int .i64 (checkN q)) ∧ Below w11.heap.size w11 w' from by
              have h := ncheck_any kq vq pq q w11 (HNR.out.below HG11.out.bel) HNBQ.out
              exact h)
            go_wp2_with (first
              | (with_reducible refine wpList_load_row (o := ⟨some 58, _, _, _, _, _⟩) rfl 38 _ rfl X12 rfl 38 #[.bool q.lf, kq, vq, pq] (0, 0) _ HR11.out Tryz.underlying38 rfl sq1.out ?_))
            refine HCK.out.mono ?_
            rintro e w12 ⟨rfl, hb12⟩
            have HG12 := Lib.hid (HG11.out.below hb12)
            clear hb12 HCK HR11 HG11
            go_wp2_with fail
            go_roundw
            case rel => exact ⟨i + 1, m, a9, a10, c9, c10, E, by have := HK.out.1; omega, by go_num, rfl, rfl, HK.out.2.1, by have := HK.out.2.2.1; omega, HK.out.2.2.2, G2.less HG12.out (fun r hr => List.mem_cons_of_mem _ (List.mem_cons_of_mem _ hr))⟩
            case measure => simp [intOf]; have := HK.out.1; omega
      · obtain rfl : i = len0 := by omega
        have HG := Lib.hid hg
        have HK := Lib.hid (And.intro hm (And.intro hmi hE))
        have mI : (m : Int) ≤ 12 := by have := HLN.out; omega
        have m0 : (0 : Int) ≤ (m : Int) := by omega
        clear hi hlt hm hmi hE hg
        have HFL := Lib.hid (show Calls Tryz.prog 31 #[.pointer (some ⟨D, 0, none⟩)] wr fun e w' => e = .returned (.int .i64 0) ∧ G2 w w' P D gl 32 (keyE ++ macE) (fillF 32 m) (bt + 1) (flushM (zeroY (32 * 512)) (wsE (bt + 1) E)) [] (-1) false [(X9, YK, 30)] (.slice a9 m c9) (.slice a10 m c10) m m (ptrsE (bt + 1) E) E from G2.calls HG.out (fun M hq => ql_flush hq (by rw [wsE_length]; have := HK.out; have := HLN.out; omega)))
        go_wp2_with fail
        refine HFL.out.mono ?_
        rintro e w8 ⟨rfl, hg8⟩
        have HG8 := Lib.hid hg8
        clear hg8 HFL HG
        have HCR := Lib.hid (show Calls Tryz.prog 19 #[.pointer (some ⟨D, 0, none⟩), .int .u64 0, .int .i64 (-1)] w8 fun e w' => e = .returned (.tuple #[]) ∧ G2 w w' P D gl 32 (keyE ++ macE) (fillF 32 m) (bt + 1) (flushM (zeroY (32 * 512)) (wsE (bt + 1) E)) [] (-1) false [(X9, YK, 30)] (.slice a9 m c9) (.slice a10 m c10) m m (ptrsE (bt + 1) E) E from G2.calls HG8.out (fun M hq => ql_crash 0 (-1) hq (by simp) (by decide)))
        go_wp2_with fail
        refine HCR.out.mono ?_
        rintro e w9 ⟨rfl, hg9⟩
        have HG9 := Lib.hid hg9
        clear hg9 HCR HG8
        have HR9 := Lib.hid (show w9.heap[X9]? = some (.cells YK 30 (0, 0)) from HG9.out.row 0 _ rfl)
        have HNW := Lib.hid (show Calls Tryz.prog 32 #[.pointer (some ⟨D, 0, none⟩), .agg YK] w9 fun e w' => ∃ P2, w9.heap.size ≤ P2 ∧ e = .returned (.tuple #[.pointer (some ⟨P2, 0, none⟩), .int .i64 0]) ∧ PL w' P2 D 32 (keyE ++ macE) (allF 32) 0 ∧ Below w9.heap.size w9 w' from by
          obtain ⟨M, hq, _⟩ := HG9.out.q
          obtain ⟨bm, vw, hd, _⟩ := hq.po
          rw [← HYL.out]
          exact ppnew_any D gl bm 32 vw _ _ _ _ (keyE ++ macE) w9 hd (by rw [List.length_append, keyE_length, macE_length]) (by decide) (by decide))
        go_wp2_with (first
          | (with_reducible refine wpList_load_row (o := ⟨some 79, _, _, _, _, _⟩) rfl 30 _ rfl X9 rfl 30 YK (0, 0) _ HR9.out Tryz.underlying30 rfl SK.out ?_))
        refine HNW.out.mono ?_
        rintro e w10 ⟨P2, _, rfl, hp2, hb10⟩
        have HG10 := Lib.hid ((HG9.out.below hb10).less (L' := []) (fun r hr => absurd hr (by simp)))
        have HP2 := Lib.hid hp2
        clear hp2 hb10 HNW HG9 HR9
        go_wp2_with fail
        go_loopw [17, 19, 20, 21, 87, 92, 93] (fun _ _ _ _ v87 _ _ wr => ∃ j : Nat, j ≤ m ∧ v87 = .int .i64 (j : Int) ∧ Below w10.heap.size w10 wr) (fun _ _ _ _ v _ _ _ => m - (intOf v).toNat)
        case atStart => exact ⟨0, by omega, rfl, Below.refl _ _⟩
        case round =>
          obtain ⟨j, hj, rfl, hb⟩ := hrel
          by_cases hlt : j < m
          · have hjE : j < E.length := by rw [HK.out.1]; exact hlt
            obtain ⟨e0, he⟩ : ∃ e0, E[j]? = some e0 := ⟨E[j], List.getElem?_eq_getElem hjE⟩
            have hEe := HK.out.2.2 e0 (List.mem_of_getElem? he)
            obtain ⟨g9, c9', hv9, hr9⟩ := HG10.out.atA j _ (ptrsE_at (bt + 1) E j e0 he) hlt
            cases hv9
            obtain ⟨g10, c10', hv10, hr10⟩ := HG10.out.atB j e0 he hlt
            cases hv10
            have hix9 := index_ptr g9 0 m c9 j hlt
            have hix10 := index_node g10 0 m c10 j hlt
            have HRQ := Lib.hid (readQ_E (bt + 1) E (by rw [HK.out.1]; have := HK.out; have := HLN.out; omega) (fun e h => (HK.out.2.2 e h).1) (by have := HBT.out; omega) (by omega) j e0 he)
            obtain ⟨PX, hPX⟩ : ∃ z, ptrQ keyE (bt + 1) (2 + j) e0.1 = z := ⟨_, rfl⟩
            obtain ⟨RL, hRL⟩ : ∃ z, ptrRow PX = z := ⟨_, rfl⟩
            rw [hPX] at hr9 HRQ
            rw [hRL] at hr9
            simp only [Nat.zero_add] at hr9 hr10 hix9 hix10
            have HSR := Lib.hid (show (Tryz.prog.info? 43).map (·.size) = some RL.length by rw [← hRL]; simpa using SP1.out PX)
            have HRL := Lib.hid hRL
            have HR9 := Lib.hid hr9
            have HR10 := Lib.hid hr10
            have HEE := Lib.hid (And.intro hEe.1 (And.intro hEe.2 (nb_check hEe.1)))
            have HLT := Lib.hid hlt
            have jI : (j : Int) < (m : Int) := by omega
            have j0 : (0 : Int) ≤ (j : Int) := by omega
            have HB := Lib.hid hb
            have hbd := build_two P P2
            have HSN := Lib.hid (show (Tryz.prog.info? 38).map (·.size) = some (nrow e0).length from SN1.out e0.1.lf e0.2.1 e0.2.2.1 e0.2.2.2)
            clear hPX hRL hr9 hr10 he hjE hEe hlt hb hj
            go_wp2_with (first
              | (with_reducible refine wpList_build_run (o := ⟨some 92, _, _, _, _, _⟩) rfl 77 _ rfl #[(0, .pointer (some ⟨P, 0, none⟩)), (1, .pointer (some ⟨P2, 0, none⟩))] (by simp [Act.eval]) (.agg #[.pointer (some ⟨P, 0, none⟩), .pointer (some ⟨P2, 0, none⟩)]) (hbd _) ?_))
            go_loopw [19, 20, 21, 93] (fun _ _ _ v93 wr => ∃ c : Nat, c ≤ 2 ∧ v93 = .int .i64 (c : Int) ∧ Below w10.heap.size w10 wr) (fun _ _ _ v _ => 2 - (intOf v).toNat)
            case atStart => exact ⟨0, by omega, rfl, HB.out⟩
            case round =>
              clear HB
              obtain ⟨c, hc, rfl, hb⟩ := hrel
              by_cases hlt : c < 2
              · obtain rfl | rfl : c = 0 ∨ c = 1 := by omega
                · clear hc hlt
                  have hidx := index_two0 (.pointer (some ⟨P, 0, none⟩)) (.pointer (some ⟨P2, 0, none⟩))
                  have HRD := Lib.hid (show Calls Tryz.prog 33 #[.pointer (some ⟨P, 0, none⟩), .agg RL.toArray] wr fun e w' => ∃ k v p', e = .returned (.tuple #[.agg #[.bool e0.1.lf, k, v, p'], .int .i64 0]) ∧ NR w' k v p' e0.1 ∧ Below wr.heap.size wr w' from by
                    obtain ⟨M, hq, _⟩ := (HG10.out.below hb).q
                    have h := ql_read P (bt + 1) (fillF 32 m) keyE macE PX hq hq.pl keyE_length macE_length
                    rw [HRQ.out, HRL.out] at h
                    exact h)
                  have HR9w := Lib.hid (range_below HR9.out hb)
                  have HB := Lib.hid hb
                  clear hb
                  go_wp2_with (first
                    | (with_reducible refine wpList_load_mid (op := ⟨some 101, _, _, _, _, _⟩) rfl 43 _ rfl g9 (j * 34) rfl RL _ HR9w.out Tryz.underlying43 rfl HSR.out ?_))
                  refine HRD.out.mono ?_
                  rintro e w11 ⟨k1, v1, p1, rfl, hn11, hb11⟩
                  have SX1 := Lib.hid (SN1.out e0.1.lf k1 v1 p1)
                  have SX2 := Lib.hid (SN2.out e0.1.lf k1 v1 p1)
                  have SX3 := Lib.hid (nr_one hn11 e0.1.lf)
                  have HN11 := Lib.hid hn11
                  have HB11 := Lib.hid (HB.out.trans (hb11.mono HB.out.size))
                  clear hn11 hb11 HRD HR9w HB
                  go_upto_region 34 with (first
                    | (with_reducible refine wpList_store_row (o := ⟨none, .store _ (.tmp 20) _, _, _, _, _⟩) rfl 38 _ _ rfl w11.heap.size #[.bool e0.1.lf, k1, v1, p1] rfl rfl 38 ZN (heap_alloc_new w11 _) SX1.out SX2.out SX3.out ?_))
                  generalize hWs : World.setRow _ w11.heap.size _ = w12
                  have hf := fresh13 w11 ZN #[.bool e0.1.lf, k1, v1, p1] 38 w12 hWs.symm
                  have HRA := Lib.hid (by_range (range_of_row (cs := [.bool e0.1.lf, k1, v1, p1]) hf.1))
                  have hb12 := HB11.out.trans (hf.2.mono HB11.out.size)
                  have HB12 := Lib.hid hb12
                  have HRB := Lib.hid (by_range (range_below HR10.out hb12))
                  have hps : e0.1.ps.length ≤ 1000000 := by have := (check_few HEE.out.1).2; omega
                  have HN12 := Lib.hid (HN11.out.below hf.2)
                  have HE12 := Lib.hid (HEE.out.2.1.below (HG10.out.bel.trans (hb12.mono HG10.out.bel.size)))
                  have HPS := Lib.hid hps
                  have SXL := Lib.hid (show (Tryz.prog.info? 38).map (·.size) = some [Value.bool e0.1.lf, k1, v1, p1].length from SX1.out)
                  have HSM := Lib.hid (show ∀ pp : BelowBy w12, Calls Tryz.prog 34 #[.agg #[.bool e0.1.lf, k1, v1, p1], .agg (nrow e0).toArray] pp.now (fun e w' => e = .returned (.bool true) ∧ Below pp.now.heap.size pp.now w') from fun pp => by
                    have h := nsame_any k1 v1 p1 e0.2.1 e0.2.2.1 e0.2.2.2 e0.1 e0.1 pp.now (HN12.out.below pp.bel) (HE12.out.below pp.bel) HEE.out.2.2 HEE.out.2.2 HPS.out HPS.out
                    rw [sameN_refl] at h
                    exact h)
                  clear hWs hf hb12 hps HN11 HB11 HN12 HE12 HPS
                  generalize w11.heap.size = X20 at *
                  refine wp_region_below (by kernel_rfl) (by kernel_rfl) ?_
                  repeat (first
                    | (with_reducible refine quiet_load_row (o := ⟨some 108, _, _, _, _, _⟩) (by kernel_rfl) 38 _ rfl X20 0 rfl [.bool e0.1.lf, k1, v1, p1] _ HRA.out Tryz.underlying38 rfl SXL.out ?_
                       simp only [Act.put, List.setIfInBounds_toArray, List.set_cons_zero, List.set_cons_succ])
                    | (with_reducible refine quiet_load_row (o := ⟨some 112, _, _, _, _, _⟩) (by kernel_rfl) 38 _ rfl g10 (j * 4) rfl (nrow e0) _ HRB.out Tryz.underlying38 rfl HSN.out ?_
                       simp only [Act.put, List.setIfInBounds_toArray, List.set_cons_zero, List.set_cons_succ])
                    | (go_big_quiet_step (first | (go_at_call 34; exact calls_below (HSM.out _)))))
                  refine wpQuiet_nil ?_
                  intro _ hw'
                  obtain ⟨pp, hw''⟩ := hw'
                  subst hw''
                  have HB13 := Lib.hid (HB12.out.trans (pp.bel.mono HB12.out.size))
                  clear HSM HB12 HRA HRB
                  go_wp2_with fail
                  go_roundw
                  case rel => exact ⟨1, by omega, by go_num, HB13.out⟩
                  case measure => simp [intOf]
                · clear hc hlt
                  have hidx := index_two1 (.pointer (some ⟨P, 0, none⟩)) (.pointer (some ⟨P2, 0, none⟩))
                  have HRD := Lib.hid (show Calls Tryz.prog 33 #[.pointer (some ⟨P2, 0, none⟩), .agg RL.toArray] wr fun e w' => ∃ k v p', e = .returned (.tuple #[.agg #[.bool e0.1.lf, k, v, p'], .int .i64 0]) ∧ NR w' k v p' e0.1 ∧ Below wr.heap.size wr w' from by
                    obtain ⟨M, hq, _⟩ := (HG10.out.below hb).q
                    have h := ql_read P2 0 (allF 32) keyE macE PX hq (HP2.out.below hb) keyE_length macE_length
                    rw [HRQ.out, HRL.out] at h
                    exact h)
                  have HR9w := Lib.hid (range_below HR9.out hb)
                  have HB := Lib.hid hb
                  clear hb
                  go_wp2_with (first
                    | (with_reducible refine wpList_load_mid (op := ⟨some 101, _, _, _, _, _⟩) rfl 43 _ rfl g9 (j * 34) rfl RL _ HR9w.out Tryz.underlying43 rfl HSR.out ?_))
                  refine HRD.out.mono ?_
                  rintro e w11 ⟨k1, v1, p1, rfl, hn11, hb11⟩
                  have SX1 := Lib.hid (SN1.out e0.1.lf k1 v1 p1)
                  have SX2 := Lib.hid (SN2.out e0.1.lf k1 v1 p1)
                  have SX3 := Lib.hid (nr_one hn11 e0.1.lf)
                  have HN11 := Lib.hid hn11
                  have HB11 := Lib.hid (HB.out.trans (hb11.mono HB.out.size))
                  clear hn11 hb11 HRD HR9w HB
                  go_upto_region 34 with (first
                    | (with_reducible refine wpList_store_row (o := ⟨none, .store _ (.tmp 20) _, _, _, _, _⟩) rfl 38 _ _ rfl w11.heap.size #[.bool e0.1.lf, k1, v1, p1] rfl rfl 38 ZN (heap_alloc_new w11 _) SX1.out SX2.out SX3.out ?_))
                  generalize hWs : World.setRow _ w11.heap.size _ = w12
                  have hf := fresh13 w11 ZN #[.bool e0.1.lf, k1, v1, p1] 38 w12 hWs.symm
                  have HRA := Lib.hid (by_range (range_of_row (cs := [.bool e0.1.lf, k1, v1, p1]) hf.1))
                  have hb12 := HB11.out.trans (hf.2.mono HB11.out.size)
                  have HB12 := Lib.hid hb12
                  have HRB := Lib.hid (by_range (range_below HR10.out hb12))
                  have hps : e0.1.ps.length ≤ 1000000 := by have := (check_few HEE.out.1).2; omega
                  have HN12 := Lib.hid (HN11.out.below hf.2)
                  have HE12 := Lib.hid (HEE.out.2.1.below (HG10.out.bel.trans (hb12.mono HG10.out.bel.size)))
                  have HPS := Lib.hid hps
                  have SXL := Lib.hid (show (Tryz.prog.info? 38).map (·.size) = some [Value.bool e0.1.lf, k1, v1, p1].length from SX1.out)
                  have HSM := Lib.hid (show ∀ pp : BelowBy w12, Calls Tryz.prog 34 #[.agg #[.bool e0.1.lf, k1, v1, p1], .agg (nrow e0).toArray] pp.now (fun e w' => e = .returned (.bool true) ∧ Below pp.now.heap.size pp.now w') from fun pp => by
                    have h := nsame_any k1 v1 p1 e0.2.1 e0.2.2.1 e0.2.2.2 e0.1 e0.1 pp.now (HN12.out.below pp.bel) (HE12.out.below pp.bel) HEE.out.2.2 HEE.out.2.2 HPS.out HPS.out
                    rw [sameN_refl] at h
                    exact h)
                  clear hWs hf hb12 hps HN11 HB11 HN12 HE12 HPS
                  generalize w11.heap.size = X20 at *
                  refine wp_region_below (by kernel_rfl) (by kernel_rfl) ?_
                  repeat (first
                    | (with_reducible refine quiet_load_row (o := ⟨some 108, _, _, _, _, _⟩) (by kernel_rfl) 38 _ rfl X20 0 rfl [.bool e0.1.lf, k1, v1, p1] _ HRA.out Tryz.underlying38 rfl SXL.out ?_
                       simp only [Act.put, List.setIfInBounds_toArray, List.set_cons_zero, List.set_cons_succ])
                    | (with_reducible refine quiet_load_row (o := ⟨some 112, _, _, _, _, _⟩) (by kernel_rfl) 38 _ rfl g10 (j * 4) rfl (nrow e0) _ HRB.out Tryz.underlying38 rfl HSN.out ?_
                       simp only [Act.put, List.setIfInBounds_toArray, List.set_cons_zero, List.set_cons_succ])
                    | (go_big_quiet_step (first | (go_at_call 34; exact calls_below (HSM.out _)))))
                  refine wpQuiet_nil ?_
                  intro _ hw'
                  obtain ⟨pp, hw''⟩ := hw'
                  subst hw''
                  have HB13 := Lib.hid (HB12.out.trans (pp.bel.mono HB12.out.size))
                  clear HSM HB12 HRA HRB
                  go_wp2_with fail
                  go_roundw
                  case rel => exact ⟨2, by omega, by go_num, HB13.out⟩
                  case measure => simp [intOf]
              · obtain rfl : c = 2 := by omega
                have HB := Lib.hid hb
                clear hb hc hlt
                go_wp2_with fail
                go_roundw
                case rel => exact ⟨j + 1, by have := HLT.out; omega, by go_num, HB.out⟩
                case measure => simp [intOf]; have := HLT.out; omega
          · obtain rfl : j = m := by omega
            have HB := Lib.hid (HG10.out.bel.trans (hb.mono HG10.out.bel.size))
            have HLF := Lib.hid (show Calls Tryz.prog 29 #[.pointer (some ⟨P, 0, none⟩)] wr fun e w' => e = .returned (.int .i64 (30 - (j : Int))) ∧ w' = wr from by
              obtain ⟨M, hq, _⟩ := (HG10.out.below hb).q
              have h := ql_left hq
              rw [cnt_fill 32 j 32 (Nat.le_refl _), show ((32 - (2 + j) : Nat) : Int) = 30 - (j : Int) by have := HLN.out; have := HK.out; omega] at h
              exact h)
            have HLG := Lib.hid (show Calls Tryz.prog 29 #[.pointer (some ⟨P2, 0, none⟩)] wr fun e w' => e = .returned (.int .i64 30) ∧ w' = wr from by
              have h := ppleft_any P2 D 32 0 _ _ wr (HP2.out.below hb)
              rw [cnt_allF 32 (by decide)] at h
              exact h)
            clear hb hj hlt
            go_wp2_with fail
            refine HLF.out.mono ?_
            rintro e w11 ⟨rfl, hw⟩
            subst w11
            clear HLF
            go_wp2_with fail
            refine HLG.out.mono ?_
            rintro e w11 ⟨rfl, hw⟩
            subst w11
            clear HLG
            go_wp2_with fail
            go_ret
            exact ⟨by simp, HB.out⟩
set_option maxRecDepth 100000 in
theorem lifted (os : Os) (started : os.Started) (H : Type) (enc : TypeId × Value → H) :
    ReturnsInHanded {} Tryz.checked os 4 .any (fun w args => (Rows.poolBackSpec.pre enc Tryz.prog Tryz.f4 [] false w args ∧ laidMetH Tryz.prog [("banyan/sha.roundNumbers", Rows.laid_banyan_sha_roundNumbers), ("math/bits.deBruijn64tab", Rows.laid_math_bits_deBruijn64tab)] w) ∧ sizedMet enc Tryz.prog Tryz.f4 (OpenSpec.ofChange Rows.poolBackSpec) false w args)
      (Rows.poolBackSpec.post enc Tryz.prog Tryz.f4 false true false false) := by
  refine returnsInHanded_of_change_and (C := Tryz.checked) (X := fun w _ => laidMetH Tryz.prog [("banyan/sha.roundNumbers", Rows.laid_banyan_sha_roundNumbers), ("math/bits.deBruijn64tab", Rows.laid_math_bits_deBruijn64tab)] w) (fun _ _ _ hh h => h.of_heap hh) own2 started (by kernel_rfl) Tryz.func4
    (ChangeSpec.witness_shaped (enc := enc) (C := Tryz.checked) (os := os) (X := fun w _ => laidMetH Tryz.prog [("banyan/sha.roundNumbers", Rows.laid_banyan_sha_roundNumbers), ("math/bits.deBruijn64tab", Rows.laid_math_bits_deBruijn64tab)] w) false (World.doorLaid Tryz.prog 400 os) #[.slice none 0 0, .int .u32 0] 8 rfl (World.shaped_of_RefB (by kernel_rfl) (by kernel_rfl)) (by kernel_rfl) (by kernel_rfl) (by kernel_rfl) (both_door os _)) ?_
  intro W base args ds gs before hval0 hW _ hsz0 hL _
  have hval : ∀ (j : Nat) t v, Tryz.f4.params[j]? = some t → args[j]? = some v → Value.okWide Tryz.prog W .any base t v := hval0
  have hsz : (DataW.weightsEach Tryz.prog (Tryz.f4.params.toList ++ Rows.poolBackSpec.plain.varTypes Tryz.prog) (ds ++ gs)).all (· ≤ reachBytes) = true := hsz0
  clear hsz0
  have hW' := hW
  obtain ⟨p, q, hA0, hV, rfl, hfz, hnd⟩ := hW
  have hA : DataW.TrodAll enc Tryz.prog W 0 (fun _ => true) true Tryz.f4.params.toList args.toList ds p := hA0
  rw [Tryz.params4] at hA hval hsz
  obtain ⟨v0, vs0, d0, ds0, p0, q0, hargs, rfl, rfl, h0, r0⟩ := trodAll_cons hA
  obtain ⟨v1, vs1, d1, ds1, p1, q1, rfl, rfl, rfl, h1, r1⟩ := trodAll_cons r0
  obtain ⟨rfl, rfl, rfl⟩ := trodAll_nil r1
  obtain rfl : args = #[v0, v1] := by cases args; simp_all
  obtain ⟨rfl, rfl⟩ := trodVars_none hV
  have k0 := h0
  have lt0 : ∀ x ∈ p0, x.block < W.heap.size := by obtain ⟨m, hm⟩ := k0; exact DataW.trod_lt m _ _ _ hm
  have k1 := h1
  have lt1 : ∀ x ∈ p1, x.block < W.heap.size := by obtain ⟨m, hm⟩ := k1; exact DataW.trod_lt m _ _ _ hm
  obtain ⟨x0, a0, len0, cap0, rfl, sl0⟩ := par_slice (j := 0) Tryz.underlying72 opn_nodes (hval 0 72 v0 rfl rfl) h0 hsz rfl rfl
  obtain ⟨z1, rfl, za1, zb1⟩ := par_int (j := 1) .u32 _ _ Tryz.underlying41 wf_u32 (hval 1 41 v1 rfl rfl) h1 hsz rfl rfl
  have hKT := both_of_laid hL
  clear hA0 hval0
  refine (walk W a0 len0 cap0 x0 sl0 z1 za1 zb1 hKT.1 hKT.2).mono fun e W' ⟨he, bel⟩ => ?_
  subst he
  exact ⟨_, rfl, _, _, _, [], _, [], hW', trodAll_mk1 (shut_bool Tryz.underlying4 _), (trodAll_cons_mk (Below.trod laidOut2 (by kernel_rfl) (of_decide_eq_true (by kernel_rfl)) k0 bel lt0) (trodAll_cons_mk (Below.trod laidOut2 (by kernel_rfl) (of_decide_eq_true (by kernel_rfl)) k1 bel lt1) trodAll_mk0)), rfl, bel.frame _, fun h => by cases h⟩

theorem over : Rows.PoolBackSaid :=
  OpenClaim.holds_of_wide 4 Tryz.f4 rfl rfl rfl rfl rfl rfl rfl ⟨rfl, rfl, rfl, rfl, rfl⟩ rfl rfl rfl rfl rfl (by kernel_rfl) Tryz.func4 (by kernel_rfl)
    (of_decide_eq_true (by kernel_rfl)) (by unfold Func.isWrapper; first | (rw [if_pos (by decide +kernel)]; kernel_rfl) | (rw [if_neg (by decide +kernel)]; exact ⟨rfl, rfl⟩))
    (fun os started H enc _ => lifted os started H enc)

/-- The statement. -/
theorem proved : Rows.PoolBackCardSaid :=
  Claim7.holds_tied_plain_at .later [] [.data, .data] true (true, "5b78e827fed50dbb0ffe988080043bf673c046d943e7f5f2a589e3d6361558c0") false
    over (fun _ h => by cases h) (by kernel_rfl) (fun _ h => by cases h) poolBack_row_tie rfl ⟨rfl, rfl⟩ (by kernel_rfl) rfl
    (fun f fn hf hfn => by
      obtain rfl : f = 4 := Option.some.inj ((show Tryz.prog.funcNamed "banyan/banyanlaw13.PoolBack" = some 4 by kernel_rfl).symm.trans hf) |>.symm
      obtain rfl : fn = Tryz.f4 := (Option.some.inj (Tryz.func4.symm.trans hfn)).symm
      exact ⟨by kernel_rfl, fun j t ht => by
        rw [Tryz.params4] at ht
        have hm : t ∈ [72, 41] := by simpa using Array.mem_of_getElem? ht
        have hall : ([72, 41].all fun u => !Tryz.prog.wantsStandIn u) = true := by kernel_rfl
        exact (show Tryz.prog.wantsStandIn t = false by simpa using List.all_eq_true.1 hall t hm)⟩)
    (by kernel_rfl)
#print axioms proved
end Go.Proofs.YtgckapolpifbkaaGreatDoor.poolBack
