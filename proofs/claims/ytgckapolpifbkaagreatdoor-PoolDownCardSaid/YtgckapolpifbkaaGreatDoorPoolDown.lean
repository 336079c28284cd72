/-
  'PoolDown' returns true at every input, and each argument reads behind the call as it read before. Conditions: the package-level variable that the row lists starts as the program's text lays it (the card ties that).
-/
import Derived.Test.YtgckapolpifbkaaGreatDoorLb
import Derived.Test.YtgckapolpifbkaaGreatDoorCards
import Derived.Test.YtgckapolpifbkaaGreatDoorTie
import Derived.Test.YtgckapolpifbkaaGreatDoorWi
import Derived.Test.YtgckapolpifbkaaGreatDoorWk
import Derived.Deep.MidRow
namespace Go.Proofs.YtgckapolpifbkaaGreatDoor.poolDown
open Go.ChangeShapes Go.WideShapes Go.ChangeAt Go.RowKit
set_option linter.unusedVariables false


set_option maxRecDepth 100000 in
set_option maxHeartbeats 1600000 in
theorem walk (w : World) (a0 : Option Addr) (len0 cap0 : Nat) (x0 : List NodeV) (sl0 : SlR RNode 4 w x0 a0 len0 cap0) (z1 : Int) (za1 : 0 ≤ z1) (zb1 : z1 ≤ 255) (hK : KT w) (hT : TZ w) :
    Calls Tryz.prog 7 #[.slice a0 len0 cap0, .int .u8 z1] w fun e w' => e = .returned (.bool true) ∧ Below w.heap.size w w' := by
  have HA := Lib.hid (alive13_any w hK hT)
  have HKT := Lib.hid (And.intro hK hT)
  have hk0 := yvs_none
  have hp0 := zero_ptr
  have hn0 := zero_node0
  have hkl : (keyE ++ macE).length = 64 := by rw [List.length_append, keyE_length, macE_length]
  have SK := Lib.hid (size_keys (keyE ++ macE) hkl)
  have SE := Lib.hid (show (yvs (zeroY 64)).size = (yvs (keyE ++ macE)).size by rw [yvs_size, yvs_size, hkl]; rfl)
  have SO := Lib.hid (yvs_one (keyE ++ macE))
  have SP1 := Lib.hid size_ptrA
  have SP2 := Lib.hid (fun x : PtrV => show (ptrRow zeroPtr).toArray.size = (ptrRow x).toArray.size by simp [ptrRow_length])
  have SP3 := Lib.hid ptrRow_one
  have SN1 := Lib.hid size_node
  have SN2 := Lib.hid (fun (x : Bool) (k v p : Value) => show nzero.size = (#[.bool x, k, v, p] : Array Value).size from rfl)
  obtain ⟨YK, hYK⟩ : ∃ z, yvs (keyE ++ macE) = z := ⟨_, rfl⟩
  obtain ⟨ZK, hZK⟩ : ∃ z, yvs (zeroY 64) = z := ⟨_, rfl⟩
  obtain ⟨ZP, hZP⟩ : ∃ z, (ptrRow zeroPtr).toArray = z := ⟨_, rfl⟩
  obtain ⟨ZN, hZN⟩ : ∃ z, nzero = z := ⟨_, rfl⟩
  have HMD := Lib.hid (fun (n : Nat) (W : World) (hb : Below w.heap.size w W) (h0 : 16 ≤ n) (h1 : n ≤ 4096) (L : List RowE) (M : List Nat) (hL : ∀ r ∈ L, W.heap[r.1]? = some (.cells r.2.1 r.2.2 (0, 0)) ∧ w.heap.size ≤ r.1) (hM : ∀ k ∈ M, k < W.heap.size) => made13L w W n hK hT hb h0 h1 L M hL hM)
  rw [hYK] at HMD SK SE SO
  rw [hZK] at hk0 SE
  rw [hZP] at hp0 SP2
  rw [hZN] at hn0 SN2
  have HZP := Lib.hid hZP
  have HZN := Lib.hid hZN
  have HYL := Lib.hid hYK
  clear hYK hZK hZP hZN hkl hK hT
  have HSL := Lib.hid sl0
  have lI : (len0 : Int) ≤ 140737488351232 := by have := sl0.big; have := sl0.cap; omega
  obtain ⟨lm, rfl⟩ : ∃ t : Nat, z1 = (t : Int) := ⟨z1.toNat, by omega⟩
  have HLM := Lib.hid (show lm ≤ 255 by omega)
  clear za1 zb1 sl0
  by_cases hbig : 12 < len0
  · have bI : (12 : Int) < (len0 : Int) := by omega
    clear hbig
    go_enter Tryz.func7, Tryz.ntmps7
    go_wp2_with fail
    refine HA.out.mono ?_
    rintro e w1 ⟨rfl, hb1⟩
    have HB1 := Lib.hid hb1
    clear hb1 HA
    go_wp2_with fail
    go_ret
    exact ⟨rfl, HB1.out⟩
  · have bI : (len0 : Int) ≤ 12 := by omega
    have HLN := Lib.hid (show len0 ≤ 12 by omega)
    clear hbig
    go_enter Tryz.func7, Tryz.ntmps7
    go_wp2_with fail
    refine HA.out.mono ?_
    rintro e w3 ⟨rfl, hb1⟩
    have HB3 := Lib.hid hb1
    clear hb1 HA
    go_wp2_with fail
    refine (HMD.out 32 w3 HB3.out (by decide) (by decide) [] [] (fun r hr => absurd hr (by simp)) (fun k hk => absurd hk (by simp))).mono ?_
    rintro e w4 ⟨P, D, gl, rfl, hq, _⟩
    have HQ4 := Lib.hid hq
    clear hq HMD HB3
    go_upto_region 6 with (first
      | (with_reducible refine wpList_store_row (o := ⟨none, .store _ (.tmp 7) _, _, _, _, _⟩) rfl 30 _ _ rfl w4.heap.size YK rfl rfl 30 ZK (heap_alloc_new w4 _) SK.out SE.out SO.out ?_))
    generalize hWs : World.setRow _ w4.heap.size _ = w5
    have hqs := HQ4.out.fresh ZK YK 30 w5 hWs.symm
    have hbs := (fresh13 w4 ZK YK 30 w5 hWs.symm).2
    have HQ5 := Lib.hid hqs
    have HSw5 := Lib.hid hbs
    clear hWs hqs hbs HQ4
    generalize w4.heap.size = X9 at *
    have HBG := Lib.hid (show Calls Tryz.prog 14 #[.pointer (some ⟨P, 0, none⟩), .int .u64 (1)] w5 fun e w' => e = .returned (.int .i64 0) ∧ QL w w' P D gl 32 (keyE ++ macE) (allF 32) (1) (zeroY (32 * 512)) [] (-1) false [(X9, YK, 30)] [] ∧ Touch [P] w5 w' from by
      have h := ql_begin (1) HQ5.out
      rw [if_neg (by omega), if_neg (by omega)] at h
      exact h)
    go_wp2_with fail
    refine HBG.out.mono ?_
    rintro e w6 ⟨rfl, hq, _⟩
    have HQ6 := Lib.hid hq
    clear hq HBG HQ5
    obtain ⟨kl, hkl⟩ : ∃ kl, lm % 6 = kl := ⟨_, rfl⟩
    have HKL := Lib.hid (show kl ≤ 5 by omega)
    have hrem : (lm : Int) % 6 = (kl : Int) := by omega
    have lmI : (lm : Int) ≤ 255 := by have := HLM.out; omega
    have lm0 : (0 : Int) ≤ (lm : Int) := by omega
    have HLI := Lib.hid (show Calls Tryz.prog 18 #[.pointer (some ⟨D, 0, none⟩), .int .i64 (kl : Int)] w6 fun e w' => e = .returned (.tuple #[]) ∧ QL w w' P D gl 32 (keyE ++ macE) (allF 32) 1 (zeroY (32 * 512)) [] (kl : Int) false [(X9, YK, 30)] [] ∧ Stay [] w6 w' from by
      have h := ql_limit (kl : Int) HQ6.out (by have := HKL.out; omega)
      rw [if_neg (by omega)] at h
      exact h)
    go_wp2_with fail
    refine HLI.out.mono ?_
    rintro e w7 ⟨rfl, hq7, _⟩
    have HQ7 := Lib.hid (hq7.less (L' := []) (M' := []) (fun r hr => absurd hr (by simp)) (fun k hk => hk))
    have HREM := Lib.hid hrem
    clear hq7 HLI HQ6 hrem lmI lm0 hkl
    have klI : (kl : Int) ≤ 5 := by have := HKL.out; omega
    have kl0 : (0 : Int) ≤ (kl : Int) := by omega
    go_wp2_with fail
    go_loopw [10, 12, 13, 14, 43] (fun v10 _ _ _ v43 wr => ∃ (i j : Nat) (dn : Bool) (ws : List (Nat × List (BitVec 8))), i ≤ len0 ∧ v43 = .int .i64 (i : Int) ∧ v10 = .int .i64 (j : Int) ∧ j ≤ kl ∧ j ≤ i ∧ (dn = true → j = kl) ∧ ws.length = j ∧ QL w wr P D gl 32 (keyE ++ macE) (fillF 32 j) 1 (zeroY (32 * 512)) ws ((kl : Int) - (j : Int)) dn [] []) (fun _ _ _ _ v _ => len0 - (intOf v).toNat)
    case atStart => exact ⟨0, 0, false, [], by omega, rfl, rfl, by omega, by omega, (fun h => by cases h), rfl, by have h := HQ7.out; simpa [fillF_zero] using h⟩
    case round =>
      clear HQ7
      obtain ⟨i, j, dn, ws, hi, rfl, rfl, hjk, hji, hdn, hws, hq⟩ := hrel
      by_cases hlt : i < len0
      · obtain ⟨b, off, q, kq, vq, pq, rfl, hx, hrg, hnr, hnb⟩ := nodes_at HSL.out hq.bel hlt
        have hix := index_node b off len0 cap0 i hlt
        have HLT := Lib.hid (And.intro hlt (And.intro hjk (And.intro hji hws)))
        have HDN := Lib.hid hdn
        have HRG := Lib.hid hrg
        have HQ := Lib.hid hq
        have HNQ := Lib.hid hnr
        have HNBQ := Lib.hid hnb
        have iI : (i : Int) < (len0 : Int) := by omega
        have i0 : (0 : Int) ≤ (i : Int) := by omega
        have jI : (j : Int) ≤ 5 := by omega
        have j0 : (0 : Int) ≤ (j : Int) := by omega
        have sq1 := Lib.hid (SN1.out q.lf kq vq pq)
        have sq2 := Lib.hid (SN2.out q.lf kq vq pq)
        have sq3 := Lib.hid (nr_one hnr q.lf)
        have sql := Lib.hid (show (Tryz.prog.info? 38).map (·.size) = some [Value.bool q.lf, kq, vq, pq].length from SN1.out q.lf kq vq pq)
        clear hi hlt hx hrg hq hnr hnb hjk hji hdn hws
        go_upto_region 14 with (first
          | (with_reducible refine wpList_load_mid (op := ⟨some 46, _, _, _, _, _⟩) rfl 38 _ rfl b (off + i * 4) rfl [.bool q.lf, kq, vq, pq] _ HRG.out Tryz.underlying38 rfl sql.out ?_)
          | (with_reducible refine wpList_store_row (o := ⟨none, .store _ (.tmp 12) _, _, _, _, _⟩) rfl 38 _ _ rfl wr.heap.size #[.bool q.lf, kq, vq, pq] rfl rfl 38 ZN (heap_alloc_new wr _) sq1.out sq2.out sq3.out ?_))
        generalize hWs : World.setRow _ wr.heap.size _ = w8
        have hqs := HQ.out.fresh ZN #[.bool q.lf, kq, vq, pq] 38 w8 hWs.symm
        have hbs := (fresh13 wr ZN #[.bool q.lf, kq, vq, pq] 38 w8 hWs.symm).2
        have HQ8 := Lib.hid hqs
        have HN8 := Lib.hid (HNQ.out.below hbs)
        clear hWs hqs hbs HQ hix HRG HNQ
        generalize wr.heap.size = X12 at *
        have HR8 := Lib.hid (show w8.heap[X12]? = some (.cells #[.bool q.lf, kq, vq, pq] 38 (0, 0)) from HQ8.out.row 0 _ rfl)
        have HHQ := Lib.hid (heavy_any kq vq pq q w8 HN8.out HNBQ.out)
        go_wp2_with (first
          | (with_reducible refine wpList_load_row (o := ⟨some 47, _, _, _, _, _⟩) rfl 38 _ rfl X12 rfl 38 #[.bool q.lf, kq, vq, pq] (0, 0) _ HR8.out Tryz.underlying38 rfl sq1.out ?_))
        refine HHQ.out.mono ?_
        rintro e w9 ⟨hv, rfl, hb9⟩
        have HQ9 := Lib.hid (HQ8.out.below hb9)
        have HN9 := Lib.hid (HN8.out.below hb9)
        clear hb9 HHQ HR8 HQ8 HN8
        cases hv with
        | true =>
          go_wp2_with fail
          go_ret
          exact ⟨rfl, HQ9.out.bel⟩
        | false =>
          have HR9 := Lib.hid (show w9.heap[X12]? = some (.cells #[.bool q.lf, kq, vq, pq] 38 (0, 0)) from HQ9.out.row 0 _ rfl)
          have HCK := Lib.hid (ncheck_any kq vq pq q w9 HN9.out HNBQ.out)
          go_wp2_with (first
            | (with_reducible refine wpList_load_row (o := ⟨some 49, _, _, _, _, _⟩) rfl 38 _ rfl X12 rfl 38 #[.bool q.lf, kq, vq, pq] (0, 0) _ HR9.out Tryz.underlying38 rfl sq1.out ?_))
          refine HCK.out.mono ?_
          rintro e w10 ⟨rfl, hb10⟩
          have HQ10 := Lib.hid (HQ9.out.below hb10)
          have HN10 := Lib.hid (HN9.out.below hb10)
          clear hb10 HCK HR9 HQ9 HN9
          by_cases hc : checkN q = 0
          · have HC := Lib.hid hc
            rw [hc]
            clear hc
            have HR10 := Lib.hid (show w10.heap[X12]? = some (.cells #[.bool q.lf, kq, vq, pq] 38 (0, 0)) from HQ10.out.row 0 _ rfl)
            have hlow := fillF_low 32 j (by have := HLT.out; have := HKL.out; omega)
            by_cases hjk : j < kl
            · have hdn : dn = false := by cases dn with | false => rfl | true => (have := HDN.out rfl; omega)
              subst hdn
              have hg : goP ((kl : Int) - (j : Int)) false = ((kl : Int) - ((j + 1 : Nat) : Int), false) := by
                unfold goP
                rw [if_pos ⟨rfl, by omega⟩, decide_eq_false (by omega)]
                exact Prod.ext (by simp only []; omega) rfl
              have HWR := Lib.hid (show Calls Tryz.prog 21 #[.pointer (some ⟨P, 0, none⟩), .agg #[.bool q.lf, kq, vq, pq]] w10 fun e w' => e = .returned (.tuple #[.agg (ptrRow (ptrQ keyE 1 (2 + j) q)).toArray, .int .i64 0]) ∧ QL w w' P D gl 32 (keyE ++ macE) (fillF 32 (j + 1)) 1 (zeroY (32 * 512)) (ws ++ [(2 + j, sealQ keyE 1 (2 + j) q)]) ((kl : Int) - ((j + 1 : Nat) : Int)) false [(X12, #[.bool q.lf, kq, vq, pq], 38)] [] ∧ Stay [] w10 w' from by
                have h := ql_wok (2 + j) keyE macE kq vq pq q HQ10.out keyE_length macE_length HN10.out HNBQ.out (by decide) (by decide) HC.out hlow.1 hlow.2 (by have := HLT.out; omega) (by rw [hg])
                rw [hg, fillF_next] at h
                exact h)
              have jk : (j : Int) < (lm : Int) % 6 := by rw [HREM.out]; omega
              have HJK := Lib.hid hjk
              clear hg hlow hjk
              go_wp2_with (first
                | (with_reducible refine wpList_load_row (o := ⟨some 54, _, _, _, _, _⟩) rfl 38 _ rfl X12 rfl 38 #[.bool q.lf, kq, vq, pq] (0, 0) _ HR10.out Tryz.underlying38 rfl sq1.out ?_))
              refine HWR.out.mono ?_
              rintro e w11 ⟨rfl, hq11, _⟩
              have HQ11 := Lib.hid (hq11.less (L' := []) (M' := []) (fun r hr => absurd hr (by simp)) (fun k hk => hk))
              clear hq11 HWR HR10 HQ10 HN10
              obtain ⟨PX, hPX⟩ : ∃ z, ptrQ keyE 1 (2 + j) q = z := ⟨_, rfl⟩
              obtain ⟨RX, hRX⟩ : ∃ z, (ptrRow PX).toArray = z := ⟨_, rfl⟩
              have HPX := Lib.hid hPX
              have HRX := Lib.hid hRX
              have sa1 := SP1.out PX
              have sa2 := SP2.out PX
              have sa3 := SP3.out PX
              rw [hRX] at sa1 sa2 sa3
              have SAPX1 := Lib.hid sa1
              have SAPX2 := Lib.hid sa2
              have SAPX3 := Lib.hid sa3
              rw [hPX, hRX]
              clear hPX hRX sa1 sa2 sa3
              go_upto_region 18 with (first
                | (with_reducible refine wpList_store_row (o := ⟨none, .store _ (.tmp 13) _, _, _, _, _⟩) rfl 43 _ _ rfl w11.heap.size RX rfl rfl 43 ZP (heap_alloc_new w11 _) SAPX1.out SAPX2.out SAPX3.out ?_))
              generalize hWs : World.setRow _ w11.heap.size _ = w12
              have hqs := HQ11.out.fresh ZP RX 43 w12 hWs.symm
              have hbs := (fresh13 w11 ZP RX 43 w12 hWs.symm).2
              have HQ12 := Lib.hid hqs
              have HSw12 := Lib.hid hbs
              clear hWs hqs hbs HQ11
              generalize w11.heap.size = X13 at *
              go_wp2_with fail
              go_roundw
              case rel => exact ⟨i + 1, j + 1, false, _, by have := HLT.out.1; omega, by go_num, by go_num, by have := HJK.out; omega, by have := HLT.out; omega, (fun h => by cases h), by rw [List.length_append, HLT.out.2.2.2]; rfl, HQ12.out.less (fun r hr => absurd hr (by simp)) (fun k hk => hk)⟩
              case measure => simp [intOf]; have := HLT.out.1; omega
            · have hjk2 : j = kl := by have := HLT.out.2.1; omega
              subst hjk2
              have hg : goP ((j : Int) - (j : Int)) dn = ((j : Int) - (j : Int), true) := by
                unfold goP
                rw [if_neg (by simp), decide_eq_true (by omega), Bool.or_true]
              have HWR := Lib.hid (show Calls Tryz.prog 21 #[.pointer (some ⟨P, 0, none⟩), .agg #[.bool q.lf, kq, vq, pq]] w10 fun e w' => e = .returned (.tuple #[.agg (ptrRow zeroPtr).toArray, .int .i64 7]) ∧ QL w w' P D gl 32 (keyE ++ macE) (fillF 32 j) 1 (zeroY (32 * 512)) ws ((j : Int) - (j : Int)) true [(X12, #[.bool q.lf, kq, vq, pq], 38)] [] ∧ Stay [] w10 w' from by
                have h := ql_wdown (2 + j) keyE macE kq vq pq q HQ10.out keyE_length macE_length HN10.out HNBQ.out (by decide) (by decide) HC.out hlow.1 hlow.2 (by have := HLT.out; omega) (by rw [hg])
                rw [hg] at h
                exact h)
              have jk : ¬ (j : Int) < (lm : Int) % 6 := by rw [HREM.out]; omega
              clear hg hlow hjk
              have SAZ1 := SP1.out zeroPtr
              have SAZ3 := SP3.out zeroPtr
              rw [HZP.out] at SAZ1 SAZ3 HWR
              have SAZ1 := Lib.hid SAZ1
              have SAZ3 := Lib.hid SAZ3
              go_wp2_with (first
                | (with_reducible refine wpList_load_row (o := ⟨some 54, _, _, _, _, _⟩) rfl 38 _ rfl X12 rfl 38 #[.bool q.lf, kq, vq, pq] (0, 0) _ HR10.out Tryz.underlying38 rfl sq1.out ?_))
              refine HWR.out.mono ?_
              rintro e w11 ⟨rfl, hq11, _⟩
              have HQ11 := Lib.hid (hq11.less (L' := []) (M' := []) (fun r hr => absurd hr (by simp)) (fun k hk => hk))
              clear hq11 HWR HR10 HQ10 HN10
              go_upto_region 18 with (first
                | (with_reducible refine wpList_store_row (o := ⟨none, .store _ (.tmp 13) _, _, _, _, _⟩) rfl 43 _ _ rfl w11.heap.size ZP rfl rfl 43 ZP (heap_alloc_new w11 _) SAZ1.out rfl SAZ3.out ?_))
              generalize hWs : World.setRow _ w11.heap.size _ = w12
              have hqs := HQ11.out.fresh ZP ZP 43 w12 hWs.symm
              have hbs := (fresh13 w11 ZP ZP 43 w12 hWs.symm).2
              have HQ12 := Lib.hid hqs
              have HSw12 := Lib.hid hbs
              clear hWs hqs hbs HQ11
              generalize w11.heap.size = X13 at *
              go_wp2_with fail
              go_roundw
              case rel => exact ⟨i + 1, j, true, ws, by have := HLT.out.1; omega, by go_num, by go_num, by have := HLT.out; omega, by have := HLT.out; omega, (fun _ => rfl), HLT.out.2.2.2, HQ12.out.less (fun r hr => absurd hr (by simp)) (fun k hk => hk)⟩
              case measure => simp [intOf]; have := HLT.out.1; omega
          · have c0 : (checkN q != 0) = true := by simpa using hc
            clear hc
            go_wp2_with fail
            go_roundw
            case rel => exact ⟨i + 1, j, dn, ws, by have := HLT.out.1; omega, by go_num, by go_num, by have := HLT.out; omega, by have := HLT.out; omega, HDN.out, HLT.out.2.2.2, HQ10.out.less (fun r hr => absurd hr (by simp)) (fun k hk => hk)⟩
            case measure => simp [intOf]; have := HLT.out.1; omega
      · obtain rfl : i = len0 := by omega
        have HQ := Lib.hid hq
        have HJ := Lib.hid (And.intro hjk (And.intro hji hws))
        have jI : (j : Int) ≤ 5 := by have := HKL.out; omega
        have j0 : (0 : Int) ≤ (j : Int) := by omega
        clear hi hlt hjk hji hdn hws hq
        have HLF := Lib.hid (show Calls Tryz.prog 29 #[.pointer (some ⟨P, 0, none⟩)] wr fun e w' => e = .returned (.int .i64 (30 - (j : Int))) ∧ w' = wr from by
          have h := ql_left HQ.out
          rw [cnt_fill 32 j 32 (Nat.le_refl _), show ((32 - (2 + j) : Nat) : Int) = 30 - (j : Int) by omega] at h
          exact h)
        go_wp2_with fail
        refine HLF.out.mono ?_
        rintro e w8 ⟨rfl, hw8⟩
        subst w8
        clear HLF
        have HCR := Lib.hid (show Calls Tryz.prog 19 #[.pointer (some ⟨D, 0, none⟩), .int .u64 18446744073709551615, .int .i64 (-1)] wr fun e w' => e = .returned (.tuple #[]) ∧ QL w w' P D gl 32 (keyE ++ macE) (fillF 32 j) 1 (crashM 18446744073709551615 (-1) (zeroY (32 * 512)) ws ws.length) [] (-1) false [] [] ∧ Stay [] wr w' from ql_crash 18446744073709551615 (-1) HQ.out (by have := HJ.out; have := HKL.out; omega) (by decide))
        go_wp2_with fail
        refine HCR.out.mono ?_
        rintro e w9 ⟨rfl, hq9, _⟩
        have HQ9 := Lib.hid hq9
        clear hq9 HCR HQ
        generalize crashM 18446744073709551615 (-1) (zeroY (32 * 512)) ws ws.length = V2 at *
        have hlow := fillF_low 32 j (by have := HJ.out; have := HKL.out; omega)
        have HWR := Lib.hid (show Calls Tryz.prog 21 #[.pointer (some ⟨P, 0, none⟩), .agg #[.bool true, .slice none 0 0, .slice none 0 0, .slice none 0 0]] w9 fun e w' => e = .returned (.tuple #[.agg (ptrRow (ptrQ keyE 1 (2 + j) leafN)).toArray, .int .i64 0]) ∧ QL w w' P D gl 32 (keyE ++ macE) (updF (fillF 32 j) (2 + j) false) 1 V2 [(2 + j, sealQ keyE 1 (2 + j) leafN)] (-1) false [] [] ∧ Stay [] w9 w' from ql_wok (2 + j) keyE macE _ _ _ leafN HQ9.out keyE_length macE_length (nr_leaf _) (nb_check leaf_check) (by decide) (by decide) leaf_check hlow.1 hlow.2 (by simp) (by decide))
        clear hlow
        go_wp2_with (first
          | (with_reducible refine wpList_build_run (o := ⟨some 86, _, _, _, _, _⟩) rfl 38 _ rfl #[(0, .bool true)] (by simp [Act.eval]) (.agg #[.bool true, .slice none 0 0, .slice none 0 0, .slice none 0 0]) (build_leaf _) ?_))
        refine HWR.out.mono ?_
        rintro e w10 ⟨rfl, hq10, _⟩
        have HQ10 := Lib.hid hq10
        clear hq10 HWR HQ9
        obtain ⟨PX, hPX⟩ : ∃ z, ptrQ keyE 1 (2 + j) leafN = z := ⟨_, rfl⟩
        obtain ⟨RX, hRX⟩ : ∃ z, (ptrRow PX).toArray = z := ⟨_, rfl⟩
        have HPX := Lib.hid hPX
        have HRX := Lib.hid hRX
        have sa1 := SP1.out PX
        have sa2 := SP2.out PX
        have sa3 := SP3.out PX
        rw [hRX] at sa1 sa2 sa3
        have SAPX1 := Lib.hid sa1
        have SAPX2 := Lib.hid sa2
        have SAPX3 := Lib.hid sa3
        rw [hPX, hRX]
        clear hPX hRX sa1 sa2 sa3
        go_upto_region 27 with (first
          | (with_reducible refine wpList_store_row (o := ⟨none, .store _ (.tmp 15) _, _, _, _, _⟩) rfl 43 _ _ rfl w10.heap.size RX rfl rfl 43 ZP (heap_alloc_new w10 _) SAPX1.out SAPX2.out SAPX3.out ?_))
        generalize hWs : World.setRow _ w10.heap.size _ = w11
        have hqs := HQ10.out.fresh ZP RX 43 w11 hWs.symm
        have hbs := (fresh13 w10 ZP RX 43 w11 hWs.symm).2
        have HQ11 := Lib.hid hqs
        have HSw11 := Lib.hid hbs
        clear hWs hqs hbs HQ10
        generalize w10.heap.size = X15 at *
        have hx := (show w11.heap[X15]? = some (.cells RX 43 (0, 0)) from HQ11.out.row 0 _ rfl)
        rw [← HRX.out] at hx
        obtain ⟨x0, _, _⟩ := ptr_at hx
        obtain ⟨gx0, _, _⟩ := ptrQ_parts (kk := keyE) (b := 1) (a := 2 + j) (nd := leafN) (by have := HJ.out; have := HKL.out; omega) (by decide)
        rw [HPX.out] at gx0
        rw [gx0, show ((2 + j : Nat) : Int) = 2 + (j : Int) by omega] at x0
        clear hx gx0
        go_wp2_with fail
        go_ret
        exact ⟨by simp, HQ11.out.bel⟩
set_option maxRecDepth 100000 in
theorem lifted (os : Os) (started : os.Started) (H : Type) (enc : TypeId × Value → H) :
    ReturnsInHanded {} Tryz.checked os 7 .any (fun w args => (Rows.poolDownSpec.pre enc Tryz.prog Tryz.f7 [] false w args ∧ laidMetH Tryz.prog [("banyan/sha.roundNumbers", Rows.laid_banyan_sha_roundNumbers), ("math/bits.deBruijn64tab", Rows.laid_math_bits_deBruijn64tab)] w) ∧ sizedMet enc Tryz.prog Tryz.f7 (OpenSpec.ofChange Rows.poolDownSpec) false w args)
      (Rows.poolDownSpec.post enc Tryz.prog Tryz.f7 false true false false) := by
  refine returnsInHanded_of_change_and (C := Tryz.checked) (X := fun w _ => laidMetH Tryz.prog [("banyan/sha.roundNumbers", Rows.laid_banyan_sha_roundNumbers), ("math/bits.deBruijn64tab", Rows.laid_math_bits_deBruijn64tab)] w) (fun _ _ _ hh h => h.of_heap hh) own2 started (by kernel_rfl) Tryz.func7
    (ChangeSpec.witness_shaped (enc := enc) (C := Tryz.checked) (os := os) (X := fun w _ => laidMetH Tryz.prog [("banyan/sha.roundNumbers", Rows.laid_banyan_sha_roundNumbers), ("math/bits.deBruijn64tab", Rows.laid_math_bits_deBruijn64tab)] w) false (World.doorLaid Tryz.prog 400 os) #[.slice none 0 0, .int .u8 0] 8 rfl (World.shaped_of_RefB (by kernel_rfl) (by kernel_rfl)) (by kernel_rfl) (by kernel_rfl) (by kernel_rfl) (both_door os _)) ?_
  intro W base args ds gs before hval0 hW _ hsz0 hL _
  have hval : ∀ (j : Nat) t v, Tryz.f7.params[j]? = some t → args[j]? = some v → Value.okWide Tryz.prog W .any base t v := hval0
  have hsz : (DataW.weightsEach Tryz.prog (Tryz.f7.params.toList ++ Rows.poolDownSpec.plain.varTypes Tryz.prog) (ds ++ gs)).all (· ≤ reachBytes) = true := hsz0
  clear hsz0
  have hW' := hW
  obtain ⟨p, q, hA0, hV, rfl, hfz, hnd⟩ := hW
  have hA : DataW.TrodAll enc Tryz.prog W 0 (fun _ => true) true Tryz.f7.params.toList args.toList ds p := hA0
  rw [Tryz.params7] at hA hval hsz
  obtain ⟨v0, vs0, d0, ds0, p0, q0, hargs, rfl, rfl, h0, r0⟩ := trodAll_cons hA
  obtain ⟨v1, vs1, d1, ds1, p1, q1, rfl, rfl, rfl, h1, r1⟩ := trodAll_cons r0
  obtain ⟨rfl, rfl, rfl⟩ := trodAll_nil r1
  obtain rfl : args = #[v0, v1] := by cases args; simp_all
  obtain ⟨rfl, rfl⟩ := trodVars_none hV
  have k0 := h0
  have lt0 : ∀ x ∈ p0, x.block < W.heap.size := by obtain ⟨m, hm⟩ := k0; exact DataW.trod_lt m _ _ _ hm
  have k1 := h1
  have lt1 : ∀ x ∈ p1, x.block < W.heap.size := by obtain ⟨m, hm⟩ := k1; exact DataW.trod_lt m _ _ _ hm
  obtain ⟨x0, a0, len0, cap0, rfl, sl0⟩ := par_slice (j := 0) Tryz.underlying72 opn_nodes (hval 0 72 v0 rfl rfl) h0 hsz rfl rfl
  obtain ⟨z1, rfl, za1, zb1⟩ := par_int (j := 1) .u8 _ _ Tryz.underlying5 wf_u8 (hval 1 5 v1 rfl rfl) h1 hsz rfl rfl
  have hKT := both_of_laid hL
  clear hA0 hval0
  refine (walk W a0 len0 cap0 x0 sl0 z1 za1 zb1 hKT.1 hKT.2).mono fun e W' ⟨he, bel⟩ => ?_
  subst he
  exact ⟨_, rfl, _, _, _, [], _, [], hW', trodAll_mk1 (shut_bool Tryz.underlying4 _), (trodAll_cons_mk (Below.trod laidOut2 (by kernel_rfl) (of_decide_eq_true (by kernel_rfl)) k0 bel lt0) (trodAll_cons_mk (Below.trod laidOut2 (by kernel_rfl) (of_decide_eq_true (by kernel_rfl)) k1 bel lt1) trodAll_mk0)), rfl, bel.frame _, fun h => by cases h⟩

theorem over : Rows.PoolDownSaid :=
  OpenClaim.holds_of_wide 7 Tryz.f7 rfl rfl rfl rfl rfl rfl rfl ⟨rfl, rfl, rfl, rfl, rfl⟩ rfl rfl rfl rfl rfl (by kernel_rfl) Tryz.func7 (by kernel_rfl)
    (of_decide_eq_true (by kernel_rfl)) (by unfold Func.isWrapper; first | (rw [if_pos (by decide +kernel)]; kernel_rfl) | (rw [if_neg (by decide +kernel)]; exact ⟨rfl, rfl⟩))
    (fun os started H enc _ => lifted os started H enc)

/-- The statement. -/
theorem proved : Rows.PoolDownCardSaid :=
  Claim7.holds_tied_plain_at .later [] [.data, .data] true (true, "5b78e827fed50dbb0ffe988080043bf673c046d943e7f5f2a589e3d6361558c0") false
    over (fun _ h => by cases h) (by kernel_rfl) (fun _ h => by cases h) poolDown_row_tie rfl ⟨rfl, rfl⟩ (by kernel_rfl) rfl
    (fun f fn hf hfn => by
      obtain rfl : f = 7 := Option.some.inj ((show Tryz.prog.funcNamed "banyan/banyanlaw13.PoolDown" = some 7 by kernel_rfl).symm.trans hf) |>.symm
      obtain rfl : fn = Tryz.f7 := (Option.some.inj (Tryz.func7.symm.trans hfn)).symm
      exact ⟨by kernel_rfl, fun j t ht => by
        rw [Tryz.params7] at ht
        have hm : t ∈ [72, 5] := by simpa using Array.mem_of_getElem? ht
        have hall : ([72, 5].all fun u => !Tryz.prog.wantsStandIn u) = true := by kernel_rfl
        exact (show Tryz.prog.wantsStandIn t = false by simpa using List.all_eq_true.1 hall t hm)⟩)
    (by kernel_rfl)
#print axioms proved
end Go.Proofs.YtgckapolpifbkaaGreatDoor.poolDown
