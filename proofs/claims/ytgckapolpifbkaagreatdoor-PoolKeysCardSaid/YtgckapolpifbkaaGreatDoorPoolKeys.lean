/-
  'PoolKeys' returns true at every input, and each argument reads behind the call as it read before. Conditions: the package-level variable that the row lists starts as the program's text lays it (the card ties that).
-/
import Derived.Test.YtgckapolpifbkaaGreatDoorLb
import Derived.Test.YtgckapolpifbkaaGreatDoorCards
import Derived.Test.YtgckapolpifbkaaGreatDoorTie
import Derived.Test.YtgckapolpifbkaaGreatDoorWi
import Derived.Test.YtgckapolpifbkaaGreatDoorYEq
import Derived.Deep.MidRow
namespace Go.Proofs.YtgckapolpifbkaaGreatDoor.poolKeys
open Go.ChangeShapes Go.WideShapes Go.ChangeAt Go.RowKit
set_option linter.unusedVariables false

theorem eq_keys13 (x y : List (BitVec 8)) (hx : x.length = 32) (hy : y.length = 32) (w : World) : (Op.equalIn 10000 27 (.agg (yvs x)) (.agg (yvs y))).run Tryz.prog w = .ok (decide (x = y)) w := by
  obtain ⟨i0, hi, hs⟩ := Option.map_eq_some_iff.1 yone
  rw [cells_y x, cells_y y, run_equalIn_bytes w 9998 27 5 32 Tryz.underlying27 Tryz.underlying5 (fun w => by simp [sizeOf, typeInfo, hi, hs]) _ _ (by simpa using hx) (by simpa using hy), ybytes_inj x y]
/-- Under another key the bytes are right, and tell some node, or none. -/
theorem readQ_key {kk k2 : List (BitVec 8)} {b a n : Nat} {nd : NodeV} {V : List (BitVec 8)} {ws : List (Nat × List (BitVec 8))} (hc : checkN nd = 0) (ha2 : 2 ≤ a) (han : a < n) (ha : a < 4294967296) (hb : b < 18446744073709551616) (hb0 : b ≠ 0) (hL : readM V ws a = sealQ kk b a nd) : (readQ k2 n (ptrQ kk b a nd) V ws false).2 = 0 ∨ (readQ k2 n (ptrQ kk b a nd) V ws false).2 = 4 := by
  obtain ⟨h1, h2, h3⟩ := ptrQ_parts (kk := kk) (nd := nd) ha hb
  obtain ⟨h4, h5⟩ := ptrQ_may (kk := kk) (nd := nd) ha2 han ha hb hb0
  unfold readQ
  rw [if_neg (by simp [h4, h5]), if_neg (by simp), h1, Int.toNat_natCast, hL]
  have hl : (sealQ kk b a nd).length = 512 := sealQ_length hc
  have ho : openA k2 (ptrQ kk b a nd) (sealQ kk b a nd) = (sealS k2 (ptrQ kk b a nd).bi.toNat (ptrQ kk b a nd).ad.toNat (sealQ kk b a nd), 0) := by
    unfold openA
    rw [if_neg (by omega), fits_len _ _ hl, h3, if_pos (by simp)]
  unfold upR
  rw [ho, if_neg (by simp)]
  rcases getN_two _ (show ((sealS k2 (ptrQ kk b a nd).bi.toNat (ptrQ kk b a nd).ad.toNat (sealQ kk b a nd)).map yv).length = 512 by rw [List.length_map]; exact sealS_length _ _ _ _ hl) with h | h
  · exact .inl h
  · exact .inr h.1

set_option maxRecDepth 100000 in
set_option maxHeartbeats 1600000 in
theorem walk (w : World) (k0 v0 p0 : Value) (n0 : NodeV) (nr0 : NR w k0 v0 p0 n0) (nb0 : NB n0) (a1 : Option Addr) (len1 cap1 : Nat) (x1 : List Int) (e1 : x1.length = len1) (m1 : len1 ≤ cap1) (n1 : cap1 ≤ 140737488351232) (b1 : BS w (.slice a1 len1 cap1) x1) (hK : KT w) (hT : TZ w) :
    Calls Tryz.prog 8 #[.agg #[.bool n0.lf, k0, v0, p0], .slice a1 len1 cap1] w fun e w' => e = .returned (.bool true) ∧ Below w.heap.size w w' := by
  have HA := Lib.hid (alive13_any w hK hT)
  have HKT := Lib.hid (And.intro hK hT)
  have hk0 := yvs_none
  have hp0 := zero_ptr
  have hn0 := zero_node0
  have hkl : (keyE ++ macE).length = 64 := by rw [List.length_append, keyE_length, macE_length]
  have SK := Lib.hid (size_keys (keyE ++ macE) hkl)
  have SE := Lib.hid (show (yvs (zeroY 64)).size = (yvs (keyE ++ macE)).size by rw [yvs_size, yvs_size, hkl]; rfl)
  have SO := Lib.hid (yvs_one (keyE ++ macE))
  have SP1 := Lib.hid size_ptrA
  have SP2 := Lib.hid (fun x : PtrV => show (ptrRow zeroPtr).toArray.size = (ptrRow x).toArray.size by simp [ptrRow_length])
  have SP3 := Lib.hid ptrRow_one
  have SN1 := Lib.hid size_node
  have SN2 := Lib.hid (fun (x : Bool) (k v p : Value) => show nzero.size = (#[.bool x, k, v, p] : Array Value).size from rfl)
  obtain ⟨YK, hYK⟩ : ∃ z, yvs (keyE ++ macE) = z := ⟨_, rfl⟩
  obtain ⟨ZK, hZK⟩ : ∃ z, yvs (zeroY 64) = z := ⟨_, rfl⟩
  obtain ⟨ZP, hZP⟩ : ∃ z, (ptrRow zeroPtr).toArray = z := ⟨_, rfl⟩
  obtain ⟨ZN, hZN⟩ : ∃ z, nzero = z := ⟨_, rfl⟩
  have HMD := Lib.hid (fun (n : Nat) (W : World) (hb : Below w.heap.size w W) (h0 : 16 ≤ n) (h1 : n ≤ 4096) (L : List RowE) (M : List Nat) (hL : ∀ r ∈ L, W.heap[r.1]? = some (.cells r.2.1 r.2.2 (0, 0)) ∧ w.heap.size ≤ r.1) (hM : ∀ k ∈ M, k < W.heap.size) => made13L w W n hK hT hb h0 h1 L M hL hM)
  rw [hYK] at HMD SK SE SO
  rw [hZK] at hk0 SE
  rw [hZP] at hp0 SP2
  rw [hZN] at hn0 SN2
  have HZP := Lib.hid hZP
  have HZN := Lib.hid hZN
  have HYL := Lib.hid hYK
  clear hYK hZK hZP hZN hkl hK hT
  have lI : (len1 : Int) ≤ 140737488351232 := by omega
  have HBS := Lib.hid b1
  have HLX := Lib.hid (And.intro e1 (And.intro m1 n1))
  have hnb1 := (Below.refl w.heap.size w).alloc (Nat.le_refl _) (.cells #[.bool n0.lf, k0, v0, p0] 38)
  have hnr1 := heap_alloc_new w (.cells #[.bool n0.lf, k0, v0, p0] 38)
  have HNR := Lib.hid (fun (W : World) (hW : Below w.heap.size w W) => nr0.below hW)
  have HNB := Lib.hid nb0
  have HHV := Lib.hid (fun (W : World) (hW : Below w.heap.size w W) => heavy_any k0 v0 p0 n0 W (nr0.below hW) nb0)
  have HAL := Lib.hid (fun (W : World) (hW : Below w.heap.size w W) => alive13_any W (HKT.out.1.below hW HKT.out.1.pos) (HKT.out.2.below hW))
  have SN := Lib.hid (size_node n0.lf k0 v0 p0)
  clear b1 e1 m1 n1
  clear HA nr0 nb0
  generalize hw1 : w.alloc (.cells #[.bool n0.lf, k0, v0, p0] 38) = w1 at *
  have HB1 := Lib.hid hnb1
  have HN1 := Lib.hid hnr1
  clear hnb1 hnr1
  go_enter Tryz.func8, Tryz.ntmps8
  go_upto_region 1 with fail
  try rw [hw1]
  clear hw1
  go_wp2_with fail
  refine (HAL.out w1 HB1.out).mono ?_
  rintro e w2 ⟨rfl, hb2⟩
  have HB2 := Lib.hid (HB1.out.trans (hb2.mono HB1.out.size))
  have HN2 := Lib.hid ((hb2.block _ (lt_of_block HN1.out)).trans HN1.out)
  clear hb2 HB1 HN1 HAL
  by_cases hbig : 100 < len1
  · have bI : (100 : Int) < (len1 : Int) := by omega
    clear hbig
    go_wp2_with (first
      | (with_reducible refine wpList_load_row (o := ⟨some 18, _, _, _, _, _⟩) rfl 38 _ rfl w.heap.size rfl 38 #[.bool n0.lf, k0, v0, p0] (0, 0) _ HN2.out Tryz.underlying38 rfl SN.out ?_))
    refine (HHV.out w2 HB2.out).mono ?_
    rintro e w3 ⟨hv, rfl, hb3⟩
    have HB3 := Lib.hid (HB2.out.trans (hb3.mono HB2.out.size))
    have HN3 := Lib.hid ((hb3.block _ (lt_of_block HN2.out)).trans HN2.out)
    clear hb3 HB2 HN2 HHV
    cases hv with
    | true =>
      go_wp2_with fail
      go_ret
      exact ⟨rfl, HB3.out⟩
    | false =>
      go_wp2_with fail
      go_ret
      exact ⟨rfl, HB3.out⟩
  · have bI : ¬ (100 : Int) < (len1 : Int) := by omega
    clear hbig
    go_wp2_with (first
      | (with_reducible refine wpList_load_row (o := ⟨some 18, _, _, _, _, _⟩) rfl 38 _ rfl w.heap.size rfl 38 #[.bool n0.lf, k0, v0, p0] (0, 0) _ HN2.out Tryz.underlying38 rfl SN.out ?_))
    refine (HHV.out w2 HB2.out).mono ?_
    rintro e w3 ⟨hv, rfl, hb3⟩
    have HB3 := Lib.hid (HB2.out.trans (hb3.mono HB2.out.size))
    have HN3 := Lib.hid ((hb3.block _ (lt_of_block HN2.out)).trans HN2.out)
    clear hb3 HB2 HN2 HHV
    cases hv with
    | true =>
      go_wp2_with fail
      go_ret
      exact ⟨rfl, HB3.out⟩
    | false =>
      go_wp2_with fail
      refine (HMD.out 16 w3 HB3.out (by decide) (by decide) [(w.heap.size, #[.bool n0.lf, k0, v0, p0], 38)] [] (fun r hr => by rcases List.mem_singleton.1 hr with rfl; exact ⟨HN3.out, Nat.le_refl _⟩) (fun k hk => absurd hk (by simp))).mono ?_
      rintro e w4 ⟨P, D, gl, rfl, hq, _⟩
      have HQ4 := Lib.hid hq
      clear hq HMD HB3 HN3
      go_upto_region 6 with (first
        | (with_reducible refine wpList_store_row (o := ⟨none, .store _ (.tmp 7) _, _, _, _, _⟩) rfl 30 _ _ rfl w4.heap.size YK rfl rfl 30 ZK (heap_alloc_new w4 _) SK.out SE.out SO.out ?_))
      generalize hWs : World.setRow _ w4.heap.size _ = w5
      have hqs := HQ4.out.fresh ZK YK 30 w5 hWs.symm
      have hbs := (fresh13 w4 ZK YK 30 w5 hWs.symm).2
      have HQ5 := Lib.hid hqs
      have HSw5 := Lib.hid hbs
      clear hWs hqs hbs HQ4
      generalize w4.heap.size = X9 at *
      have HBG := Lib.hid (show Calls Tryz.prog 14 #[.pointer (some ⟨P, 0, none⟩), .int .u64 (1)] w5 fun e w' => e = .returned (.int .i64 0) ∧ QL w w' P D gl 16 (keyE ++ macE) (allF 16) (1) (zeroY (16 * 512)) [] (-1) false [(X9, YK, 30), (w.heap.size, #[.bool n0.lf, k0, v0, p0], 38)] [] ∧ Touch [P] w5 w' from by
        have h := ql_begin (1) HQ5.out
        rw [if_neg (by omega), if_neg (by omega)] at h
        exact h)
      go_wp2_with fail
      refine HBG.out.mono ?_
      rintro e w6 ⟨rfl, hq, _⟩
      have HQ6 := Lib.hid hq
      clear hq HBG HQ5
      have HN6 := Lib.hid (show w6.heap[w.heap.size]? = some (.cells #[.bool n0.lf, k0, v0, p0] 38 (0, 0)) from HQ6.out.row 1 _ rfl)
      by_cases hc : checkN n0 = 0
      · have HC := Lib.hid hc
        clear hc
        have HWR := Lib.hid (show Calls Tryz.prog 21 #[.pointer (some ⟨P, 0, none⟩), .agg #[.bool n0.lf, k0, v0, p0]] w6 fun e w' => e = .returned (.tuple #[.agg (ptrRow (ptrQ keyE 1 2 n0)).toArray, .int .i64 0]) ∧ QL w w' P D gl 16 (keyE ++ macE) (updF (allF 16) 2 false) 1 (zeroY (16 * 512)) [(2, sealQ keyE 1 2 n0)] (-1) false [(X9, YK, 30), (w.heap.size, #[.bool n0.lf, k0, v0, p0], 38)] [] ∧ Stay [] w6 w' from ql_wok 2 keyE macE k0 v0 p0 n0 HQ6.out keyE_length macE_length (HNR.out w6 HQ6.out.bel) HNB.out (by decide) (by decide) HC.out (by decide) (by decide) (by simp) (by decide))
        go_wp2_with (first
          | (with_reducible refine wpList_load_row (o := ⟨some 40, _, _, _, _, _⟩) rfl 38 _ rfl w.heap.size rfl 38 #[.bool n0.lf, k0, v0, p0] (0, 0) _ HN6.out Tryz.underlying38 rfl SN.out ?_))
        refine HWR.out.mono ?_
        rintro e w7 ⟨rfl, hq, _⟩
        have HQ7 := Lib.hid hq
        clear hq HWR HQ6 HN6
        obtain ⟨PX, hPX⟩ : ∃ z, ptrQ keyE 1 2 n0 = z := ⟨_, rfl⟩
        obtain ⟨RX, hRX⟩ : ∃ z, (ptrRow PX).toArray = z := ⟨_, rfl⟩
        have HPX := Lib.hid hPX
        have HRX := Lib.hid hRX
        have sa1 := SP1.out PX
        have sa2 := SP2.out PX
        have sa3 := SP3.out PX
        rw [hRX] at sa1 sa2 sa3
        have SAPX1 := Lib.hid sa1
        have SAPX2 := Lib.hid sa2
        have SAPX3 := Lib.hid sa3
        rw [hPX, hRX]
        clear hPX hRX sa1 sa2 sa3
        go_upto_region 9 with (first
          | (with_reducible refine wpList_store_row (o := ⟨none, .store _ (.tmp 9) _, _, _, _, _⟩) rfl 43 _ _ rfl w7.heap.size RX rfl rfl 43 ZP (heap_alloc_new w7 _) SAPX1.out SAPX2.out SAPX3.out ?_))
        generalize hWs : World.setRow _ w7.heap.size _ = w8
        have hqs := HQ7.out.fresh ZP RX 43 w8 hWs.symm
        have hbs := (fresh13 w7 ZP RX 43 w8 hWs.symm).2
        have HQ8 := Lib.hid hqs
        have HSw8 := Lib.hid hbs
        clear hWs hqs hbs HQ7
        generalize w7.heap.size = X11 at *
        have HDE := Lib.hid (pkeysK_any x1 (.slice a1 len1 cap1) w8 (HBS.out.kept HQ8.out.bel) (room_of _ _ _ HLX.out.2.1 (by have := HLX.out.2.2; omega)) HQ8.out.ktn (by rw [HLX.out.1]; omega))
        obtain ⟨k2, hk2⟩ : ∃ z, encK x1 = z := ⟨_, rfl⟩
        obtain ⟨m2, hm2⟩ : ∃ z, macK x1 = z := ⟨_, rfl⟩
        rw [hk2, hm2] at HDE
        have HK2 := Lib.hid (show k2.length = 32 by rw [← hk2]; exact encK_length x1)
        have HM2 := Lib.hid (show m2.length = 32 by rw [← hm2]; exact macK_length x1)
        have HKM := Lib.hid (show (k2 ++ m2).length = 64 by rw [List.length_append, HK2.out, HM2.out])
        have sk1 := size_keys (k2 ++ m2) HKM.out
        have sk2 : ZK.size = (yvs (k2 ++ m2)).size := by rw [SE.out, ← HYL.out, yvs_size, yvs_size, HKM.out, List.length_append, keyE_length, macE_length]
        have sk3 := yvs_one (k2 ++ m2)
        obtain ⟨Y2, hY2⟩ : ∃ z, yvs (k2 ++ m2) = z := ⟨_, rfl⟩
        have HY2 := Lib.hid hY2
        rw [hY2] at HDE sk1 sk2 sk3
        have SK1 := Lib.hid sk1
        have SK2 := Lib.hid sk2
        have SK3 := Lib.hid sk3
        clear hk2 hm2 hY2 sk1 sk2 sk3
        go_wp2_with fail
        refine HDE.out.mono ?_
        rintro e w9 ⟨rfl, hb9⟩
        have HQ9 := Lib.hid (HQ8.out.below hb9)
        clear hb9 HDE HQ8
        go_upto_region 12 with (first
          | (with_reducible refine wpList_store_row (o := ⟨none, .store _ (.tmp 11) _, _, _, _, _⟩) rfl 30 _ _ rfl w9.heap.size Y2 rfl rfl 30 ZK (heap_alloc_new w9 _) SK1.out SK2.out SK3.out ?_))
        generalize hWs : World.setRow _ w9.heap.size _ = w10
        have hqs := HQ9.out.fresh ZK Y2 30 w10 hWs.symm
        have hbs := (fresh13 w9 ZK Y2 30 w10 hWs.symm).2
        have HQ10 := Lib.hid hqs
        have HSw10 := Lib.hid hbs
        clear hWs hqs hbs HQ9
        generalize w9.heap.size = X13 at *
        have HR10 := Lib.hid (show w10.heap[X13]? = some (.cells Y2 30 (0, 0)) from HQ10.out.row 0 _ rfl)
        have HNW := Lib.hid (show Calls Tryz.prog 32 #[.pointer (some ⟨D, 0, none⟩), .agg Y2] w10 fun e w' => ∃ P2, w10.heap.size ≤ P2 ∧ e = .returned (.tuple #[.pointer (some ⟨P2, 0, none⟩), .int .i64 0]) ∧ PL w' P2 D 16 (k2 ++ m2) (allF 16) 0 ∧ Below w10.heap.size w10 w' from by
          obtain ⟨bm, vw, hd, _⟩ := HQ10.out.po
          rw [← HY2.out]
          exact ppnew_any D gl bm 16 vw _ _ _ _ (k2 ++ m2) w10 hd HKM.out (by decide) (by decide))
        go_wp2_with (first
          | (with_reducible refine wpList_load_row (o := ⟨some 50, _, _, _, _, _⟩) rfl 30 _ rfl X13 rfl 30 Y2 (0, 0) _ HR10.out Tryz.underlying30 rfl SK1.out ?_))
        refine HNW.out.mono ?_
        rintro e w11 ⟨P2, _, rfl, hp2, hb11⟩
        have HQ11 := Lib.hid (HQ10.out.below hb11)
        have HP2 := Lib.hid hp2
        clear hp2 hb11 HNW HQ10 HR10
        have HR11 := Lib.hid (show w11.heap[X11]? = some (.cells RX 43 (0, 0)) from HQ11.out.row 1 _ rfl)
        have HRD := Lib.hid (ql_read P2 0 (allF 16) k2 m2 PX HQ11.out HP2.out HK2.out HM2.out)
        obtain ⟨g4, g5⟩ := ptrQ_may (kk := keyE) (b := 1) (a := 2) (n := 16) (nd := n0) (by decide) (by decide) (by decide) (by decide) (by decide)
        have HRQ := Lib.hid (show (k2 = keyE → readQ k2 16 PX (zeroY (16 * 512)) [(2, sealQ keyE 1 2 n0)] false = (n0, 0)) ∧ ((readQ k2 16 PX (zeroY (16 * 512)) [(2, sealQ keyE 1 2 n0)] false).2 = 0 ∨ (readQ k2 16 PX (zeroY (16 * 512)) [(2, sealQ keyE 1 2 n0)] false).2 = 4) from by
          rw [← HPX.out]
          exact ⟨fun e => by rw [e]; exact readQ_wrote (kk := keyE) (b := 1) (a := 2) (n := 16) (nd := n0) HC.out (by decide) (by decide) (by decide) (by decide) (by decide) rfl, readQ_key HC.out (by decide) (by decide) (by decide) (by decide) (by decide) rfl⟩)
        have HRB := Lib.hid (readQ_nb k2 16 PX (zeroY (16 * 512)) [(2, sealQ keyE 1 2 n0)] false)
        rw [HRX.out] at HRD
        generalize readQ k2 16 PX (zeroY (16 * 512)) [(2, sealQ keyE 1 2 n0)] false = rq at *
        clear g4 g5
        go_wp2_with (first
          | (with_reducible refine wpList_load_row (o := ⟨some 58, _, _, _, _, _⟩) rfl 43 _ rfl X11 rfl 43 RX (0, 0) _ HR11.out Tryz.underlying43 rfl SAPX1.out ?_))
        refine HRD.out.mono ?_
        rintro e w12 ⟨k3, v3, p3, rfl, hn12, hb12⟩
        have HQ12 := Lib.hid (HQ11.out.below hb12)
        have HN12 := Lib.hid hn12
        have SX1 := Lib.hid (SN1.out rq.1.lf k3 v3 p3)
        have SX2 := Lib.hid (SN2.out rq.1.lf k3 v3 p3)
        have SX3 := Lib.hid (nr_one hn12 rq.1.lf)
        clear hn12 hb12 HRD HR11 HQ11 HP2
        go_upto_region 16 with (first
          | (with_reducible refine wpList_store_row (o := ⟨none, .store _ (.tmp 14) _, _, _, _, _⟩) rfl 38 _ _ rfl w12.heap.size #[.bool rq.1.lf, k3, v3, p3] rfl rfl 38 ZN (heap_alloc_new w12 _) SX1.out SX2.out SX3.out ?_))
        generalize hWs : World.setRow _ w12.heap.size _ = w13
        have hqs := HQ12.out.fresh ZN #[.bool rq.1.lf, k3, v3, p3] 38 w13 hWs.symm
        have hbs := (fresh13 w12 ZN #[.bool rq.1.lf, k3, v3, p3] 38 w13 hWs.symm).2
        have HN13 := Lib.hid (HN12.out.below hbs)
        have HQ13 := Lib.hid hqs
        have HSw13 := Lib.hid hbs
        clear hWs hqs hbs HQ12 HN12
        generalize w12.heap.size = X15 at *
        have hx13 := (show w13.heap[X13]? = some (.cells Y2 30 (0, 0)) from HQ13.out.row 1 _ rfl)
        have hx9 := (show w13.heap[X9]? = some (.cells YK 30 (0, 0)) from HQ13.out.row 3 _ rfl)
        rw [← HY2.out] at hx13
        rw [← HYL.out] at hx9
        have HE2 := Lib.hid (KeyB.enc (show KeyB w13 X13 30 k2 m2 from hx13) HK2.out)
        have HE9 := Lib.hid (KeyB.enc (show KeyB w13 X9 30 keyE macE from hx9) keyE_length)
        have hek := fun W => eq_keys13 k2 keyE HK2.out keyE_length W
        have IK2 := Lib.hid (info_keyL k2 HK2.out)
        have IKE := Lib.hid (info_keyL keyE keyE_length)
        obtain ⟨KA, hKA⟩ : ∃ z, yvs k2 = z := ⟨_, rfl⟩
        obtain ⟨KB, hKB⟩ : ∃ z, yvs keyE = z := ⟨_, rfl⟩
        rw [hKA] at HE2 hek IK2
        rw [hKB] at HE9 hek IKE
        clear hx13 hx9 hKA hKB
        have HA13 := Lib.hid (show w13.heap[X15]? = some (.cells #[.bool rq.1.lf, k3, v3, p3] 38 (0, 0)) from HQ13.out.row 0 _ rfl)
        have HB13 := Lib.hid (show w13.heap[w.heap.size]? = some (.cells #[.bool n0.lf, k0, v0, p0] 38 (0, 0)) from HQ13.out.row 4 _ rfl)
        have HBL := Lib.hid HQ13.out.bel
        by_cases hkk : k2 = keyE
        · have hrq := HRQ.out.1 hkk
          rw [decide_eq_true hkk] at hek
          have h1 : rq.2 = 0 := by rw [hrq]
          have hps : n0.ps.length ≤ 1000000 := by have := (check_few HC.out).2; omega
          have HSM := Lib.hid (nsame_any k3 v3 p3 k0 v0 p0 rq.1 n0 w13 HN13.out (HNR.out w13 HBL.out) HRB.out.1 HNB.out HRB.out.2 hps)
          rw [show sameN rq.1 n0 = true by rw [hrq]; exact sameN_refl n0] at HSM
          rw [h1]
          clear hrq h1 hps hkk HRQ HRB
          go_wp2_with (first
            | (with_reducible refine wpList_load_mid (op := ⟨some 63, _, _, _, _, _⟩) rfl 27 _ rfl X13 0 rfl KA.toList _ HE2.out Tryz.underlying27 rfl IK2.out ?_; simp only [Array.toArray_toList])
            | (with_reducible refine wpList_load_mid (op := ⟨some 65, _, _, _, _, _⟩) rfl 27 _ rfl X9 0 rfl KB.toList _ HE9.out Tryz.underlying27 rfl IKE.out ?_; simp only [Array.toArray_toList])
            | (with_reducible refine wpList_load_guarded (o := ⟨some 70, _, _, _, _, _⟩) (by kernel_rfl) 38 _ rfl X15 rfl 38 #[.bool rq.1.lf, k3, v3, p3] (0, 0) _ HA13.out Tryz.underlying38 rfl SX1.out ?_)
            | (with_reducible refine wpList_load_guarded (o := ⟨some 71, _, _, _, _, _⟩) (by kernel_rfl) 38 _ rfl w.heap.size rfl 38 #[.bool n0.lf, k0, v0, p0] (0, 0) _ HB13.out Tryz.underlying38 rfl SN.out ?_))
          refine HSM.out.mono ?_
          rintro e w14 ⟨rfl, hb14⟩
          have HB14 := Lib.hid (HBL.out.trans (hb14.mono HBL.out.size))
          clear hb14 HSM
          go_wp2_with fail
          go_ret
          exact ⟨rfl, HB14.out⟩
        · rw [decide_eq_false hkk] at hek
          have hrq := HRQ.out.2
          clear hkk HRQ HRB
          generalize rq.2 = r2 at *
          rcases hrq with rfl | rfl
          · go_wp2_with (first
              | (with_reducible refine wpList_load_mid (op := ⟨some 63, _, _, _, _, _⟩) rfl 27 _ rfl X13 0 rfl KA.toList _ HE2.out Tryz.underlying27 rfl IK2.out ?_; simp only [Array.toArray_toList])
              | (with_reducible refine wpList_load_mid (op := ⟨some 65, _, _, _, _, _⟩) rfl 27 _ rfl X9 0 rfl KB.toList _ HE9.out Tryz.underlying27 rfl IKE.out ?_; simp only [Array.toArray_toList]))
            go_ret
            exact ⟨rfl, HBL.out⟩
          · go_wp2_with (first
              | (with_reducible refine wpList_load_mid (op := ⟨some 63, _, _, _, _, _⟩) rfl 27 _ rfl X13 0 rfl KA.toList _ HE2.out Tryz.underlying27 rfl IK2.out ?_; simp only [Array.toArray_toList])
              | (with_reducible refine wpList_load_mid (op := ⟨some 65, _, _, _, _, _⟩) rfl 27 _ rfl X9 0 rfl KB.toList _ HE9.out Tryz.underlying27 rfl IKE.out ?_; simp only [Array.toArray_toList]))
            go_ret
            exact ⟨rfl, HBL.out⟩
      · have HC := Lib.hid hc
        clear hc
        have HWR := Lib.hid (ql_wbad k0 v0 p0 n0 HQ6.out (HNR.out w6 HQ6.out.bel) HNB.out (by omega) HC.out)
        go_wp2_with (first
          | (with_reducible refine wpList_load_row (o := ⟨some 40, _, _, _, _, _⟩) rfl 38 _ rfl w.heap.size rfl 38 #[.bool n0.lf, k0, v0, p0] (0, 0) _ HN6.out Tryz.underlying38 rfl SN.out ?_))
        refine HWR.out.mono ?_
        rintro e w7 ⟨rfl, hb⟩
        have HQ7 := Lib.hid (HQ6.out.below hb)
        clear hb HWR HQ6 HN6
        have SAZ1 := SP1.out zeroPtr
        have SAZ3 := SP3.out zeroPtr
        rw [HZP.out] at SAZ1 SAZ3 ⊢
        have SAZ1 := Lib.hid SAZ1
        have SAZ3 := Lib.hid SAZ3
        go_upto_region 9 with (first
          | (with_reducible refine wpList_store_row (o := ⟨none, .store _ (.tmp 9) _, _, _, _, _⟩) rfl 43 _ _ rfl w7.heap.size ZP rfl rfl 43 ZP (heap_alloc_new w7 _) SAZ1.out rfl SAZ3.out ?_))
        generalize hWs : World.setRow _ w7.heap.size _ = w8
        have hqs := HQ7.out.fresh ZP ZP 43 w8 hWs.symm
        have hbs := (fresh13 w7 ZP ZP 43 w8 hWs.symm).2
        have HQ8 := Lib.hid hqs
        have HSw8 := Lib.hid hbs
        clear hWs hqs hbs HQ7
        generalize w7.heap.size = X11 at *
        have hc1 : (checkN n0 != 0) = true := by simpa using HC.out
        go_wp2_with fail
        go_ret
        exact ⟨rfl, HQ8.out.bel⟩
set_option maxRecDepth 100000 in
theorem lifted (os : Os) (started : os.Started) (H : Type) (enc : TypeId × Value → H) :
    ReturnsInHanded {} Tryz.checked os 8 .any (fun w args => (Rows.poolKeysSpec.pre enc Tryz.prog Tryz.f8 [] false w args ∧ laidMetH Tryz.prog [("banyan/sha.roundNumbers", Rows.laid_banyan_sha_roundNumbers), ("math/bits.deBruijn64tab", Rows.laid_math_bits_deBruijn64tab)] w) ∧ sizedMet enc Tryz.prog Tryz.f8 (OpenSpec.ofChange Rows.poolKeysSpec) false w args)
      (Rows.poolKeysSpec.post enc Tryz.prog Tryz.f8 false true false false) := by
  refine returnsInHanded_of_change_and (C := Tryz.checked) (X := fun w _ => laidMetH Tryz.prog [("banyan/sha.roundNumbers", Rows.laid_banyan_sha_roundNumbers), ("math/bits.deBruijn64tab", Rows.laid_math_bits_deBruijn64tab)] w) (fun _ _ _ hh h => h.of_heap hh) own2 started (by kernel_rfl) Tryz.func8
    (ChangeSpec.witness_shaped (enc := enc) (C := Tryz.checked) (os := os) (X := fun w _ => laidMetH Tryz.prog [("banyan/sha.roundNumbers", Rows.laid_banyan_sha_roundNumbers), ("math/bits.deBruijn64tab", Rows.laid_math_bits_deBruijn64tab)] w) false (World.doorLaid Tryz.prog 400 os) #[.agg #[.bool false, .slice none 0 0, .slice none 0 0, .slice none 0 0], .slice none 0 0] 8 rfl (World.shaped_of_RefB (by kernel_rfl) (by kernel_rfl)) (by kernel_rfl) (by kernel_rfl) (by kernel_rfl) (both_door os _)) ?_
  intro W base args ds gs before hval0 hW _ hsz0 hL _
  have hval : ∀ (j : Nat) t v, Tryz.f8.params[j]? = some t → args[j]? = some v → Value.okWide Tryz.prog W .any base t v := hval0
  have hsz : (DataW.weightsEach Tryz.prog (Tryz.f8.params.toList ++ Rows.poolKeysSpec.plain.varTypes Tryz.prog) (ds ++ gs)).all (· ≤ reachBytes) = true := hsz0
  clear hsz0
  have hW' := hW
  obtain ⟨p, q, hA0, hV, rfl, hfz, hnd⟩ := hW
  have hA : DataW.TrodAll enc Tryz.prog W 0 (fun _ => true) true Tryz.f8.params.toList args.toList ds p := hA0
  rw [Tryz.params8] at hA hval hsz
  obtain ⟨v0, vs0, d0, ds0, p0, q0, hargs, rfl, rfl, h0, r0⟩ := trodAll_cons hA
  obtain ⟨v1, vs1, d1, ds1, p1, q1, rfl, rfl, rfl, h1, r1⟩ := trodAll_cons r0
  obtain ⟨rfl, rfl, rfl⟩ := trodAll_nil r1
  obtain rfl : args = #[v0, v1] := by cases args; simp_all
  obtain ⟨rfl, rfl⟩ := trodVars_none hV
  have k0 := h0
  have lt0 : ∀ x ∈ p0, x.block < W.heap.size := by obtain ⟨m, hm⟩ := k0; exact DataW.trod_lt m _ _ _ hm
  have k1 := h1
  have lt1 : ∀ x ∈ p1, x.block < W.heap.size := by obtain ⟨m, hm⟩ := k1; exact DataW.trod_lt m _ _ _ hm
  obtain ⟨kk0, vv0, pp0, n0, rfl, nr0, nb0⟩ := par_node (j := 0) (hval 0 38 v0 rfl rfl) h0 hsz rfl rfl
  obtain ⟨a1, len1, cap1, x1, rfl, e1, m1, n1, b1⟩ := par_bytes (j := 1) (hval 1 62 v1 rfl rfl) h1 hsz rfl rfl
  have hKT := both_of_laid hL
  clear hA0 hval0
  refine (walk W kk0 vv0 pp0 n0 nr0 nb0 a1 len1 cap1 x1 e1 m1 n1 b1 hKT.1 hKT.2).mono fun e W' ⟨he, bel⟩ => ?_
  subst he
  exact ⟨_, rfl, _, _, _, [], _, [], hW', trodAll_mk1 (shut_bool Tryz.underlying4 _), (trodAll_cons_mk (Below.trod laidOut2 (by kernel_rfl) (of_decide_eq_true (by kernel_rfl)) k0 bel lt0) (trodAll_cons_mk (Below.trod laidOut2 (by kernel_rfl) (of_decide_eq_true (by kernel_rfl)) k1 bel lt1) trodAll_mk0)), rfl, bel.frame _, fun h => by cases h⟩

theorem over : Rows.PoolKeysSaid :=
  OpenClaim.holds_of_wide 8 Tryz.f8 rfl rfl rfl rfl rfl rfl rfl ⟨rfl, rfl, rfl, rfl, rfl⟩ rfl rfl rfl rfl rfl (by kernel_rfl) Tryz.func8 (by kernel_rfl)
    (of_decide_eq_true (by kernel_rfl)) (by unfold Func.isWrapper; first | (rw [if_pos (by decide +kernel)]; kernel_rfl) | (rw [if_neg (by decide +kernel)]; exact ⟨rfl, rfl⟩))
    (fun os started H enc _ => lifted os started H enc)

/-- The statement. -/
theorem proved : Rows.PoolKeysCardSaid :=
  Claim7.holds_tied_plain_at .later [] [.data, .data] true (true, "5b78e827fed50dbb0ffe988080043bf673c046d943e7f5f2a589e3d6361558c0") false
    over (fun _ h => by cases h) (by kernel_rfl) (fun _ h => by cases h) poolKeys_row_tie rfl ⟨rfl, rfl⟩ (by kernel_rfl) rfl
    (fun f fn hf hfn => by
      obtain rfl : f = 8 := Option.some.inj ((show Tryz.prog.funcNamed "banyan/banyanlaw13.PoolKeys" = some 8 by kernel_rfl).symm.trans hf) |>.symm
      obtain rfl : fn = Tryz.f8 := (Option.some.inj (Tryz.func8.symm.trans hfn)).symm
      exact ⟨by kernel_rfl, fun j t ht => by
        rw [Tryz.params8] at ht
        have hm : t ∈ [38, 62] := by simpa using Array.mem_of_getElem? ht
        have hall : ([38, 62].all fun u => !Tryz.prog.wantsStandIn u) = true := by kernel_rfl
        exact (show Tryz.prog.wantsStandIn t = false by simpa using List.all_eq_true.1 hall t hm)⟩)
    (by kernel_rfl)
#print axioms proved
end Go.Proofs.YtgckapolpifbkaaGreatDoor.poolKeys
