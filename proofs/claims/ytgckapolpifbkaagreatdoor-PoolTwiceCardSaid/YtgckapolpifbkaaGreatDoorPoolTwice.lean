/-
  'PoolTwice' returns true at every input, and each argument reads behind the call as it read before. Conditions: the package-level variable that the row lists starts as the program's text lays it (the card ties that).
-/
import Derived.Test.YtgckapolpifbkaaGreatDoorLb
import Derived.Test.YtgckapolpifbkaaGreatDoorCards
import Derived.Test.YtgckapolpifbkaaGreatDoorTie
import Derived.Test.YtgckapolpifbkaaGreatDoorWi
namespace Go.Proofs.YtgckapolpifbkaaGreatDoor.poolTwice
open Go.ChangeShapes Go.WideShapes Go.ChangeAt Go.RowKit
set_option linter.unusedVariables false


set_option maxRecDepth 100000 in
set_option maxHeartbeats 1600000 in
theorem walk (w : World) (k0 v0 p0 : Value) (n0 : NodeV) (nr0 : NR w k0 v0 p0 n0) (nb0 : NB n0) (z1 : Int) (za1 : 0 ≤ z1) (zb1 : z1 ≤ 255) (z2 : Int) (za2 : 0 ≤ z2) (zb2 : z2 ≤ 255) (hK : KT w) (hT : TZ w) :
    Calls Tryz.prog 9 #[.agg #[.bool n0.lf, k0, v0, p0], .int .u8 z1, .int .u8 z2] w fun e w' => e = .returned (.bool true) ∧ Below w.heap.size w w' := by
  have HA := Lib.hid (alive13_any w hK hT)
  have HKT := Lib.hid (And.intro hK hT)
  have hk0 := yvs_none
  have hp0 := zero_ptr
  have hn0 := zero_node0
  have hkl : (keyE ++ macE).length = 64 := by rw [List.length_append, keyE_length, macE_length]
  have SK := Lib.hid (size_keys (keyE ++ macE) hkl)
  have SE := Lib.hid (show (yvs (zeroY 64)).size = (yvs (keyE ++ macE)).size by rw [yvs_size, yvs_size, hkl]; rfl)
  have SO := Lib.hid (yvs_one (keyE ++ macE))
  have SP1 := Lib.hid size_ptrA
  have SP2 := Lib.hid (fun x : PtrV => show (ptrRow zeroPtr).toArray.size = (ptrRow x).toArray.size by simp [ptrRow_length])
  have SP3 := Lib.hid ptrRow_one
  have SN1 := Lib.hid size_node
  have SN2 := Lib.hid (fun (x : Bool) (k v p : Value) => show nzero.size = (#[.bool x, k, v, p] : Array Value).size from rfl)
  obtain ⟨YK, hYK⟩ : ∃ z, yvs (keyE ++ macE) = z := ⟨_, rfl⟩
  obtain ⟨ZK, hZK⟩ : ∃ z, yvs (zeroY 64) = z := ⟨_, rfl⟩
  obtain ⟨ZP, hZP⟩ : ∃ z, (ptrRow zeroPtr).toArray = z := ⟨_, rfl⟩
  obtain ⟨ZN, hZN⟩ : ∃ z, nzero = z := ⟨_, rfl⟩
  have HMD := Lib.hid (fun (n : Nat) (W : World) (hb : Below w.heap.size w W) (h0 : 16 ≤ n) (h1 : n ≤ 4096) (L : List RowE) (M : List Nat) (hL : ∀ r ∈ L, W.heap[r.1]? = some (.cells r.2.1 r.2.2 (0, 0)) ∧ w.heap.size ≤ r.1) (hM : ∀ k ∈ M, k < W.heap.size) => made13L w W n hK hT hb h0 h1 L M hL hM)
  rw [hYK] at HMD SK SE SO
  rw [hZK] at hk0 SE
  rw [hZP] at hp0 SP2
  rw [hZN] at hn0 SN2
  have HZP := Lib.hid hZP
  have HZN := Lib.hid hZN
  clear hYK hZK hZP hZN hkl hK hT
  obtain ⟨a, rfl⟩ : ∃ a : Nat, z1 = (a : Int) := ⟨z1.toNat, by omega⟩
  obtain ⟨b, rfl⟩ : ∃ b : Nat, z2 = (b : Int) := ⟨z2.toNat, by omega⟩
  have HAB := Lib.hid (show a ≤ 255 ∧ b ≤ 255 by omega)
  have hnb1 := (Below.refl w.heap.size w).alloc (Nat.le_refl _) (.cells #[.bool n0.lf, k0, v0, p0] 38)
  have hnr1 := heap_alloc_new w (.cells #[.bool n0.lf, k0, v0, p0] 38)
  have HNR := Lib.hid (fun (W : World) (hW : Below w.heap.size w W) => nr0.below hW)
  have HNB := Lib.hid nb0
  have HHV := Lib.hid (fun (W : World) (hW : Below w.heap.size w W) => heavy_any k0 v0 p0 n0 W (nr0.below hW) nb0)
  have HAL := Lib.hid (fun (W : World) (hW : Below w.heap.size w W) => alive13_any W (HKT.out.1.below hW HKT.out.1.pos) (HKT.out.2.below hW))
  have SN := Lib.hid (size_node n0.lf k0 v0 p0)
  clear HA nr0 nb0
  generalize hw1 : w.alloc (.cells #[.bool n0.lf, k0, v0, p0] 38) = w1 at *
  have HB1 := Lib.hid hnb1
  have HN1 := Lib.hid hnr1
  clear hnb1 hnr1
  go_enter Tryz.func9, Tryz.ntmps9
  go_upto_region 1 with fail
  try rw [hw1]
  clear hw1
  go_wp2_with fail
  refine (HAL.out w1 HB1.out).mono ?_
  rintro e w2 ⟨rfl, hb2⟩
  have HB2 := Lib.hid (HB1.out.trans (hb2.mono HB1.out.size))
  have HN2 := Lib.hid ((hb2.block _ (lt_of_block HN1.out)).trans HN1.out)
  clear hb2 HB1 HN1 HAL
  clear HKT
  go_wp2_with (first
    | (with_reducible refine wpList_load_row (o := ⟨some 21, _, _, _, _, _⟩) rfl 38 _ rfl w.heap.size rfl 38 #[.bool n0.lf, k0, v0, p0] (0, 0) _ HN2.out Tryz.underlying38 rfl SN.out ?_))
  refine (HHV.out w2 HB2.out).mono ?_
  rintro e w3 ⟨hv, rfl, hb3⟩
  have HB3 := Lib.hid (HB2.out.trans (hb3.mono HB2.out.size))
  have HN3 := Lib.hid ((hb3.block _ (lt_of_block HN2.out)).trans HN2.out)
  clear hb3 HB2 HN2 HHV
  cases hv with
  | true =>
    go_wp2_with fail
    go_ret
    exact ⟨rfl, HB3.out⟩
  | false =>
    go_wp2_with fail
    refine (HMD.out 16 w3 HB3.out (by decide) (by decide) [(w.heap.size, #[.bool n0.lf, k0, v0, p0], 38)] [] (fun r hr => by rcases List.mem_singleton.1 hr with rfl; exact ⟨HN3.out, Nat.le_refl _⟩) (fun k hk => absurd hk (by simp))).mono ?_
    rintro e w4 ⟨P, D, gl, rfl, hq4, _⟩
    have HQ4 := Lib.hid hq4
    clear hq4 HMD HN3 HB3
    go_upto_region 6 with (first
      | (with_reducible refine wpList_store_row (o := ⟨none, .store _ (.tmp 9) _, _, _, _, _⟩) rfl 30 _ _ rfl w4.heap.size YK rfl rfl 30 ZK (heap_alloc_new w4 _) SK.out SE.out SO.out ?_))
    generalize hWs : World.setRow _ w4.heap.size _ = w5
    have hqs := HQ4.out.fresh ZK YK 30 w5 hWs.symm
    have hbs := (fresh13 w4 ZK YK 30 w5 hWs.symm).2
    have HQ5 := Lib.hid hqs
    have HSw5 := Lib.hid hbs
    clear hWs hqs hbs HQ4
    generalize w4.heap.size = X9 at *
    have HBG := Lib.hid (show Calls Tryz.prog 14 #[.pointer (some ⟨P, 0, none⟩), .int .u64 ((a : Int) + 1)] w5 fun e w' => e = .returned (.int .i64 0) ∧ QL w w' P D gl 16 (keyE ++ macE) (allF 16) (a + 1) (zeroY (16 * 512)) [] (-1) false [(X9, YK, 30), (w.heap.size, #[.bool n0.lf, k0, v0, p0], 38)] [] ∧ Touch [P] w5 w' from by
      have h := ql_begin (a + 1) HQ5.out
      rw [if_neg (by omega), if_neg (by omega)] at h
      exact h)
    have ha1 : IntKind.u64.wrap ((a : Int) + 1) = (a : Int) + 1 := IntWalk.u64_in _ (by have := HAB.out; omega)
    go_wp2_with fail
    refine HBG.out.mono ?_
    rintro e w6 ⟨rfl, hq6, _⟩
    have HQ6 := Lib.hid hq6
    clear hq6 HBG HQ5 ha1
    have HN6 := Lib.hid (HQ6.out.row 1 _ rfl)
    by_cases hc : checkN n0 = 0
    · have HC := Lib.hid hc
      clear hc
      have HWR := Lib.hid (show Calls Tryz.prog 21 #[.pointer (some ⟨P, 0, none⟩), .agg #[.bool n0.lf, k0, v0, p0]] w6 fun e w' => e = .returned (.tuple #[.agg (ptrRow (ptrQ keyE (a + 1) 2 n0)).toArray, .int .i64 0]) ∧ QL w w' P D gl 16 (keyE ++ macE) (updF (allF 16) 2 false) (a + 1) (zeroY (16 * 512)) [(2, sealQ keyE (a + 1) 2 n0)] (-1) false [(X9, YK, 30), (w.heap.size, #[.bool n0.lf, k0, v0, p0], 38)] [] ∧ Stay [] w6 w' from ql_wok 2 keyE macE k0 v0 p0 n0 HQ6.out keyE_length macE_length (HNR.out w6 HQ6.out.bel) HNB.out (by have := HAB.out; omega) (by omega) HC.out (by decide) (by decide) (by simp) (by decide))
      go_wp2_with (first
        | (with_reducible refine wpList_load_row (o := ⟨some 41, _, _, _, _, _⟩) rfl 38 _ rfl w.heap.size rfl 38 #[.bool n0.lf, k0, v0, p0] (0, 0) _ HN6.out Tryz.underlying38 rfl SN.out ?_))
      refine HWR.out.mono ?_
      rintro e w7 ⟨rfl, hq7, _⟩
      have HQ7 := Lib.hid hq7
      clear hq7 HWR HQ6 HN6
      obtain ⟨PX, hPX⟩ : ∃ z, ptrQ keyE (a + 1) 2 n0 = z := ⟨_, rfl⟩
      obtain ⟨RX, hRX⟩ : ∃ z, (ptrRow PX).toArray = z := ⟨_, rfl⟩
      have HPX := Lib.hid hPX
      have HRX := Lib.hid hRX
      have sa1 := SP1.out PX
      have sa2 := SP2.out PX
      have sa3 := SP3.out PX
      rw [hRX] at sa1 sa2 sa3
      have SAPX1 := Lib.hid sa1
      have SAPX2 := Lib.hid sa2
      have SAPX3 := Lib.hid sa3
      rw [hPX, hRX]
      clear hPX hRX sa1 sa2 sa3
      go_upto_region 9 with (first
        | (with_reducible refine wpList_store_row (o := ⟨none, .store _ (.tmp 11) _, _, _, _, _⟩) rfl 43 _ _ rfl w7.heap.size RX rfl rfl 43 ZP (heap_alloc_new w7 _) SAPX1.out SAPX2.out SAPX3.out ?_))
      generalize hWs : World.setRow _ w7.heap.size _ = w8
      have hqs := HQ7.out.fresh ZP RX 43 w8 hWs.symm
      have hbs := (fresh13 w7 ZP RX 43 w8 hWs.symm).2
      have HQ8 := Lib.hid hqs
      have HSw8 := Lib.hid hbs
      clear hWs hqs hbs HQ7
      generalize w7.heap.size = X11 at *
      have HBG := Lib.hid (show Calls Tryz.prog 14 #[.pointer (some ⟨P, 0, none⟩), .int .u64 ((b : Int) + 1)] w8 fun e w' => e = .returned (.int .i64 0) ∧ QL w w' P D gl 16 (keyE ++ macE) (updF (allF 16) 2 false) (b + 1) (zeroY (16 * 512)) [(2, sealQ keyE (a + 1) 2 n0)] (-1) false ((X11, RX, 43) :: [(X9, YK, 30), (w.heap.size, #[.bool n0.lf, k0, v0, p0], 38)]) [] ∧ Touch [P] w8 w' from by
        have h := ql_begin (b + 1) HQ8.out
        rw [if_neg (by omega), if_neg (by omega)] at h
        exact h)
      have hb1 : IntKind.u64.wrap ((b : Int) + 1) = (b : Int) + 1 := IntWalk.u64_in _ (by have := HAB.out; omega)
      go_wp2_with fail
      refine HBG.out.mono ?_
      rintro e w9 ⟨rfl, hq9, _⟩
      have HQ9 := Lib.hid hq9
      clear hq9 HBG HQ8 hb1
      have HN9 := Lib.hid (HQ9.out.row 2 _ rfl)
      have HWR := Lib.hid (show Calls Tryz.prog 21 #[.pointer (some ⟨P, 0, none⟩), .agg #[.bool n0.lf, k0, v0, p0]] w9 fun e w' => e = .returned (.tuple #[.agg (ptrRow (ptrQ keyE (b + 1) 3 n0)).toArray, .int .i64 0]) ∧ QL w w' P D gl 16 (keyE ++ macE) (updF (updF (allF 16) 2 false) 3 false) (b + 1) (zeroY (16 * 512)) [(2, sealQ keyE (a + 1) 2 n0), (3, sealQ keyE (b + 1) 3 n0)] (-1) false ((X11, RX, 43) :: [(X9, YK, 30), (w.heap.size, #[.bool n0.lf, k0, v0, p0], 38)]) [] ∧ Stay [] w9 w' from ql_wok 3 keyE macE k0 v0 p0 n0 HQ9.out keyE_length macE_length (HNR.out w9 HQ9.out.bel) HNB.out (by have := HAB.out; omega) (by omega) HC.out (by decide) (by decide) (by simp) (by decide))
      go_wp2_with (first
        | (with_reducible refine wpList_load_row (o := ⟨some 53, _, _, _, _, _⟩) rfl 38 _ rfl w.heap.size rfl 38 #[.bool n0.lf, k0, v0, p0] (0, 0) _ HN9.out Tryz.underlying38 rfl SN.out ?_))
      refine HWR.out.mono ?_
      rintro e w10 ⟨rfl, hq10, _⟩
      have HQ10 := Lib.hid hq10
      clear hq10 HWR HQ9 HN9
      obtain ⟨PY, hPY⟩ : ∃ z, ptrQ keyE (b + 1) 3 n0 = z := ⟨_, rfl⟩
      obtain ⟨RY, hRY⟩ : ∃ z, (ptrRow PY).toArray = z := ⟨_, rfl⟩
      have HPY := Lib.hid hPY
      have HRY := Lib.hid hRY
      have sa1 := SP1.out PY
      have sa2 := SP2.out PY
      have sa3 := SP3.out PY
      rw [hRY] at sa1 sa2 sa3
      have SAPY1 := Lib.hid sa1
      have SAPY2 := Lib.hid sa2
      have SAPY3 := Lib.hid sa3
      rw [hPY, hRY]
      clear hPY hRY sa1 sa2 sa3
      go_upto_region 12 with (first
        | (with_reducible refine wpList_store_row (o := ⟨none, .store _ (.tmp 13) _, _, _, _, _⟩) rfl 43 _ _ rfl w10.heap.size RY rfl rfl 43 ZP (heap_alloc_new w10 _) SAPY1.out SAPY2.out SAPY3.out ?_))
      generalize hWs : World.setRow _ w10.heap.size _ = w11
      have hqs := HQ10.out.fresh ZP RY 43 w11 hWs.symm
      have hbs := (fresh13 w10 ZP RY 43 w11 hWs.symm).2
      have HQ11 := Lib.hid hqs
      have HSw11 := Lib.hid hbs
      clear hWs hqs hbs HQ10
      generalize w10.heap.size = X13 at *
      have HRD := Lib.hid (show Calls Tryz.prog 33 #[.pointer (some ⟨P, 0, none⟩), .agg RX] w11 fun e w' => ∃ k v p', e = .returned (.tuple #[.agg #[.bool n0.lf, k, v, p'], .int .i64 0]) ∧ NR w' k v p' n0 ∧ Below w11.heap.size w11 w' from by
        have h := ql_read P (b + 1) (updF (updF (allF 16) 2 false) 3 false) keyE macE PX HQ11.out HQ11.out.pl keyE_length macE_length
        rw [← HPX.out, readQ_wrote (kk := keyE) (b := a + 1) (a := 2) (n := 16) (nd := n0) HC.out (by decide) (by decide) (by decide) (by have := HAB.out; omega) (by omega) rfl, HPX.out, HRX.out] at h
        exact h)
      have HR11 := Lib.hid (HQ11.out.row 1 _ rfl)
      go_wp2_with (first
        | (with_reducible refine wpList_load_row (o := ⟨some 68, _, _, _, _, _⟩) rfl 43 _ rfl X11 rfl 43 RX (0, 0) _ HR11.out Tryz.underlying43 rfl SAPX1.out ?_))
      refine HRD.out.mono ?_
      rintro e w12 ⟨k1, v1, p1, rfl, hn12, hb12⟩
      have HQ12 := Lib.hid (HQ11.out.below hb12)
      have HNX := Lib.hid hn12
      have SX1 := Lib.hid (SN1.out n0.lf k1 v1 p1)
      have SX2 := Lib.hid (SN2.out n0.lf k1 v1 p1)
      have SX3 := Lib.hid (nr_one hn12 n0.lf)
      clear hn12 hb12 HRD HR11 HQ11
      go_upto_region 15 with (first
        | (with_reducible refine wpList_store_row (o := ⟨none, .store _ (.tmp 15) _, _, _, _, _⟩) rfl 38 _ _ rfl w12.heap.size #[.bool n0.lf, k1, v1, p1] rfl rfl 38 ZN (heap_alloc_new w12 _) SX1.out SX2.out SX3.out ?_))
      generalize hWs : World.setRow _ w12.heap.size _ = w13
      have hqs := HQ12.out.fresh ZN #[.bool n0.lf, k1, v1, p1] 38 w13 hWs.symm
      have hbs := (fresh13 w12 ZN #[.bool n0.lf, k1, v1, p1] 38 w13 hWs.symm).2
      have HN13 := Lib.hid (HNX.out.below hbs)
      have HQ13 := Lib.hid hqs
      have HSw13 := Lib.hid hbs
      clear hWs hqs hbs HQ12 HNX
      generalize w12.heap.size = X15 at *
      have HRD := Lib.hid (show Calls Tryz.prog 33 #[.pointer (some ⟨P, 0, none⟩), .agg RY] w13 fun e w' => ∃ k v p', e = .returned (.tuple #[.agg #[.bool n0.lf, k, v, p'], .int .i64 0]) ∧ NR w' k v p' n0 ∧ Below w13.heap.size w13 w' from by
        have h := ql_read P (b + 1) (updF (updF (allF 16) 2 false) 3 false) keyE macE PY HQ13.out HQ13.out.pl keyE_length macE_length
        rw [← HPY.out, readQ_wrote (kk := keyE) (b := b + 1) (a := 3) (n := 16) (nd := n0) HC.out (by decide) (by decide) (by decide) (by have := HAB.out; omega) (by omega) rfl, HPY.out, HRY.out] at h
        exact h)
      have HR13 := Lib.hid (HQ13.out.row 1 _ rfl)
      go_wp2_with (first
        | (with_reducible refine wpList_load_row (o := ⟨some 74, _, _, _, _, _⟩) rfl 43 _ rfl X13 rfl 43 RY (0, 0) _ HR13.out Tryz.underlying43 rfl SAPY1.out ?_))
      refine HRD.out.mono ?_
      rintro e w14 ⟨k2, v2, p2, rfl, hn14, hb14⟩
      have HQ14 := Lib.hid (HQ13.out.below hb14)
      have HNX14 := Lib.hid (HN13.out.below hb14)
      have HNY := Lib.hid hn14
      have SY1 := Lib.hid (SN1.out n0.lf k2 v2 p2)
      have SY2 := Lib.hid (SN2.out n0.lf k2 v2 p2)
      have SY3 := Lib.hid (nr_one hn14 n0.lf)
      clear hn14 hb14 HRD HR13 HQ13 HN13
      go_upto_region 16 with (first
        | (with_reducible refine wpList_store_row (o := ⟨none, .store _ (.tmp 17) _, _, _, _, _⟩) rfl 38 _ _ rfl w14.heap.size #[.bool n0.lf, k2, v2, p2] rfl rfl 38 ZN (heap_alloc_new w14 _) SY1.out SY2.out SY3.out ?_))
      generalize hWs : World.setRow _ w14.heap.size _ = w15
      have hqs := HQ14.out.fresh ZN #[.bool n0.lf, k2, v2, p2] 38 w15 hWs.symm
      have hbs := (fresh13 w14 ZN #[.bool n0.lf, k2, v2, p2] 38 w15 hWs.symm).2
      have HNX15 := Lib.hid (HNX14.out.below hbs)
      have HNY15 := Lib.hid (HNY.out.below hbs)
      have HQ15 := Lib.hid hqs
      have HSw15 := Lib.hid hbs
      clear hWs hqs hbs HQ14 HNX14 HNY
      generalize w14.heap.size = X17 at *
      have hx := (show w15.heap[X11]? = some (.cells RX 43 (0, 0)) from HQ15.out.row 3 _ rfl)
      have hy := (show w15.heap[X13]? = some (.cells RY 43 (0, 0)) from HQ15.out.row 2 _ rfl)
      have HX15 := Lib.hid hx
      have HY15 := Lib.hid hy
      have HV15 := Lib.hid (show w15.heap[X15]? = some (.cells #[.bool n0.lf, k1, v1, p1] 38 (0, 0)) from HQ15.out.row 1 _ rfl)
      have HB15 := Lib.hid (show w15.heap[w.heap.size]? = some (.cells #[.bool n0.lf, k0, v0, p0] 38 (0, 0)) from HQ15.out.row 5 _ rfl)
      rw [← HRX.out] at hx
      rw [← HRY.out] at hy
      obtain ⟨x0, x1, _⟩ := ptr_at hx
      obtain ⟨y0, y1, _⟩ := ptr_at hy
      obtain ⟨gx0, gx1, _⟩ := ptrQ_parts (kk := keyE) (b := a + 1) (a := 2) (nd := n0) (by decide) (by have := HAB.out; omega)
      obtain ⟨gy0, gy1, _⟩ := ptrQ_parts (kk := keyE) (b := b + 1) (a := 3) (nd := n0) (by decide) (by have := HAB.out; omega)
      rw [HPX.out] at gx0 gx1
      rw [HPY.out] at gy0 gy1
      have hne : ∀ W : World, (Op.equalIn 10000 43 (.agg RX) (.agg RY)).run Tryz.prog W = .ok false W := fun W => by
        have h := eq_ptr PX PY W
        rw [HRX.out, HRY.out, decide_eq_false (fun e => by rw [e, gy0] at gx0; simp at gx0)] at h
        exact h
      rw [gx0] at x0
      rw [gx1] at x1
      rw [gy0] at y0
      rw [gy1] at y1
      clear hx hy gx0 gx1 gy0 gy1
      have x1' : w15.cell? ⟨X11, 1, none⟩ = some (.int .u64 ((a : Int) + 1)) := x1
      have y1' : w15.cell? ⟨X13, 1, none⟩ = some (.int .u64 ((b : Int) + 1)) := y1
      clear x1 y1
      have ha1 : IntKind.u64.wrap ((a : Int) + 1) = (a : Int) + 1 := IntWalk.u64_in _ (by have := HAB.out; omega)
      have hb1 : IntKind.u64.wrap ((b : Int) + 1) = (b : Int) + 1 := IntWalk.u64_in _ (by have := HAB.out; omega)
      have hps : n0.ps.length ≤ 1000000 := by have := (check_few HC.out).2; omega
      have HS1 := Lib.hid (nsame_any k1 v1 p1 k0 v0 p0 n0 n0 w15 HNX15.out (HNR.out w15 HQ15.out.bel) HNB.out HNB.out hps hps)
      rw [sameN_refl] at HS1
      have HPS := Lib.hid hps
      clear hps
      go_wp2_with (first
        | (with_reducible refine wpList_load_row (o := ⟨some 78, _, _, _, _, _⟩) rfl 43 _ rfl X11 rfl 43 RX (0, 0) _ HX15.out Tryz.underlying43 rfl SAPX1.out ?_)
        | (with_reducible refine wpList_load_row (o := ⟨some 79, _, _, _, _, _⟩) rfl 43 _ rfl X13 rfl 43 RY (0, 0) _ HY15.out Tryz.underlying43 rfl SAPY1.out ?_)
        | (with_reducible refine wpList_load_guarded (o := ⟨some 116, _, _, _, _, _⟩) (by kernel_rfl) 38 _ rfl X15 rfl 38 #[.bool n0.lf, k1, v1, p1] (0, 0) _ HV15.out Tryz.underlying38 rfl (SN1.out _ _ _ _) ?_)
        | (with_reducible refine wpList_load_guarded (o := ⟨some 117, _, _, _, _, _⟩) (by kernel_rfl) 38 _ rfl w.heap.size rfl 38 #[.bool n0.lf, k0, v0, p0] (0, 0) _ HB15.out Tryz.underlying38 rfl SN.out ?_))
      refine HS1.out.mono ?_
      rintro e w16 ⟨rfl, hb16⟩
      have HQ16 := Lib.hid (HQ15.out.below hb16)
      have HNY16 := Lib.hid (HNY15.out.below hb16)
      have HW16 := Lib.hid (show w16.heap[X17]? = some (.cells #[.bool n0.lf, k2, v2, p2] 38 (0, 0)) from HQ16.out.row 0 _ rfl)
      have HB16 := Lib.hid (show w16.heap[w.heap.size]? = some (.cells #[.bool n0.lf, k0, v0, p0] 38 (0, 0)) from HQ16.out.row 5 _ rfl)
      have HS2 := Lib.hid (nsame_any k2 v2 p2 k0 v0 p0 n0 n0 w16 HNY16.out (HNR.out w16 HQ16.out.bel) HNB.out HNB.out HPS.out HPS.out)
      rw [sameN_refl] at HS2
      clear hb16 HS1 HX15 HY15 HV15 HB15 x0 y0 x1' y1' hne ha1 hb1 HQ15
      go_wp2_with (first
        | (with_reducible refine wpList_load_guarded (o := ⟨some 121, _, _, _, _, _⟩) (by kernel_rfl) 38 _ rfl X17 rfl 38 #[.bool n0.lf, k2, v2, p2] (0, 0) _ HW16.out Tryz.underlying38 rfl (SN1.out _ _ _ _) ?_)
        | (with_reducible refine wpList_load_guarded (o := ⟨some 122, _, _, _, _, _⟩) (by kernel_rfl) 38 _ rfl w.heap.size rfl 38 #[.bool n0.lf, k0, v0, p0] (0, 0) _ HB16.out Tryz.underlying38 rfl SN.out ?_))
      refine HS2.out.mono ?_
      rintro e w17 ⟨rfl, hb17⟩
      have HB17 := Lib.hid (HQ16.out.below hb17).bel
      clear hb17 HS2 HQ16 HW16 HB16
      go_wp2_with fail
      go_ret
      exact ⟨rfl, HB17.out⟩
    · have HC := Lib.hid hc
      clear hc
      have HWR := Lib.hid (fun (W : World) (hW : Below w.heap.size w W) (F : Nat → Bool) (bb : Nat) (hb : bb ≠ 0) (L : List RowE) (h : QL w W P D gl 16 (keyE ++ macE) F bb (zeroY (16 * 512)) [] (-1) false L []) => ql_wbad k0 v0 p0 n0 h (HNR.out W hW) HNB.out hb HC.out)
      go_wp2_with (first
        | (with_reducible refine wpList_load_row (o := ⟨some 41, _, _, _, _, _⟩) rfl 38 _ rfl w.heap.size rfl 38 #[.bool n0.lf, k0, v0, p0] (0, 0) _ HN6.out Tryz.underlying38 rfl SN.out ?_))
      refine (HWR.out w6 HQ6.out.bel _ _ (by omega) _ HQ6.out).mono ?_
      rintro e w7 ⟨rfl, hb7⟩
      have HQ7 := Lib.hid (HQ6.out.below hb7)
      clear hb7 HQ6 HN6
      have SAZ1 := SP1.out zeroPtr
      have SAZ3 := SP3.out zeroPtr
      rw [HZP.out] at SAZ1 SAZ3 ⊢
      have SAZ1 := Lib.hid SAZ1
      have SAZ3 := Lib.hid SAZ3
      go_upto_region 9 with (first
        | (with_reducible refine wpList_store_row (o := ⟨none, .store _ (.tmp 11) _, _, _, _, _⟩) rfl 43 _ _ rfl w7.heap.size ZP rfl rfl 43 ZP (heap_alloc_new w7 _) SAZ1.out rfl SAZ3.out ?_))
      generalize hWs : World.setRow _ w7.heap.size _ = w8
      have hqs := HQ7.out.fresh ZP ZP 43 w8 hWs.symm
      have hbs := (fresh13 w7 ZP ZP 43 w8 hWs.symm).2
      have HQ8 := Lib.hid hqs
      have HSw8 := Lib.hid hbs
      clear hWs hqs hbs HQ7
      generalize w7.heap.size = X11 at *
      have HBG := Lib.hid (show Calls Tryz.prog 14 #[.pointer (some ⟨P, 0, none⟩), .int .u64 ((b : Int) + 1)] w8 fun e w' => e = .returned (.int .i64 0) ∧ QL w w' P D gl 16 (keyE ++ macE) (allF 16) (b + 1) (zeroY (16 * 512)) [] (-1) false ((X11, ZP, 43) :: [(X9, YK, 30), (w.heap.size, #[.bool n0.lf, k0, v0, p0], 38)]) [] ∧ Touch [P] w8 w' from by
        have h := ql_begin (b + 1) HQ8.out
        rw [if_neg (by omega), if_neg (by omega)] at h
        exact h)
      have hb1 : IntKind.u64.wrap ((b : Int) + 1) = (b : Int) + 1 := IntWalk.u64_in _ (by have := HAB.out; omega)
      go_wp2_with fail
      refine HBG.out.mono ?_
      rintro e w9 ⟨rfl, hq9, _⟩
      have HQ9 := Lib.hid hq9
      clear hq9 HBG HQ8 hb1
      have HN9 := Lib.hid (HQ9.out.row 2 _ rfl)
      go_wp2_with (first
        | (with_reducible refine wpList_load_row (o := ⟨some 53, _, _, _, _, _⟩) rfl 38 _ rfl w.heap.size rfl 38 #[.bool n0.lf, k0, v0, p0] (0, 0) _ HN9.out Tryz.underlying38 rfl SN.out ?_))
      refine (HWR.out w9 HQ9.out.bel _ _ (by omega) _ HQ9.out).mono ?_
      rintro e w10 ⟨rfl, hb10⟩
      have HQ10 := Lib.hid (HQ9.out.below hb10)
      clear hb10 HQ9 HN9 HWR
      rw [HZP.out]
      go_upto_region 12 with (first
        | (with_reducible refine wpList_store_row (o := ⟨none, .store _ (.tmp 13) _, _, _, _, _⟩) rfl 43 _ _ rfl w10.heap.size ZP rfl rfl 43 ZP (heap_alloc_new w10 _) SAZ1.out rfl SAZ3.out ?_))
      generalize hWs : World.setRow _ w10.heap.size _ = w11
      have hqs := HQ10.out.fresh ZP ZP 43 w11 hWs.symm
      have hbs := (fresh13 w10 ZP ZP 43 w11 hWs.symm).2
      have HQ11 := Lib.hid hqs
      have HSw11 := Lib.hid hbs
      clear hWs hqs hbs HQ10
      generalize w10.heap.size = X13 at *
      have hc1 : (checkN n0 != 0) = true := by simpa using HC.out
      go_wp2_with fail
      go_ret
      exact ⟨by simp, HQ11.out.bel⟩
set_option maxRecDepth 100000 in
theorem lifted (os : Os) (started : os.Started) (H : Type) (enc : TypeId × Value → H) :
    ReturnsInHanded {} Tryz.checked os 9 .any (fun w args => (Rows.poolTwiceSpec.pre enc Tryz.prog Tryz.f9 [] false w args ∧ laidMetH Tryz.prog [("banyan/sha.roundNumbers", Rows.laid_banyan_sha_roundNumbers), ("math/bits.deBruijn64tab", Rows.laid_math_bits_deBruijn64tab)] w) ∧ sizedMet enc Tryz.prog Tryz.f9 (OpenSpec.ofChange Rows.poolTwiceSpec) false w args)
      (Rows.poolTwiceSpec.post enc Tryz.prog Tryz.f9 false true false false) := by
  refine returnsInHanded_of_change_and (C := Tryz.checked) (X := fun w _ => laidMetH Tryz.prog [("banyan/sha.roundNumbers", Rows.laid_banyan_sha_roundNumbers), ("math/bits.deBruijn64tab", Rows.laid_math_bits_deBruijn64tab)] w) (fun _ _ _ hh h => h.of_heap hh) own2 started (by kernel_rfl) Tryz.func9
    (ChangeSpec.witness_shaped (enc := enc) (C := Tryz.checked) (os := os) (X := fun w _ => laidMetH Tryz.prog [("banyan/sha.roundNumbers", Rows.laid_banyan_sha_roundNumbers), ("math/bits.deBruijn64tab", Rows.laid_math_bits_deBruijn64tab)] w) false (World.doorLaid Tryz.prog 400 os) #[.agg #[.bool false, .slice none 0 0, .slice none 0 0, .slice none 0 0], .int .u8 0, .int .u8 0] 8 rfl (World.shaped_of_RefB (by kernel_rfl) (by kernel_rfl)) (by kernel_rfl) (by kernel_rfl) (by kernel_rfl) (both_door os _)) ?_
  intro W base args ds gs before hval0 hW _ hsz0 hL _
  have hval : ∀ (j : Nat) t v, Tryz.f9.params[j]? = some t → args[j]? = some v → Value.okWide Tryz.prog W .any base t v := hval0
  have hsz : (DataW.weightsEach Tryz.prog (Tryz.f9.params.toList ++ Rows.poolTwiceSpec.plain.varTypes Tryz.prog) (ds ++ gs)).all (· ≤ reachBytes) = true := hsz0
  clear hsz0
  have hW' := hW
  obtain ⟨p, q, hA0, hV, rfl, hfz, hnd⟩ := hW
  have hA : DataW.TrodAll enc Tryz.prog W 0 (fun _ => true) true Tryz.f9.params.toList args.toList ds p := hA0
  rw [Tryz.params9] at hA hval hsz
  obtain ⟨v0, vs0, d0, ds0, p0, q0, hargs, rfl, rfl, h0, r0⟩ := trodAll_cons hA
  obtain ⟨v1, vs1, d1, ds1, p1, q1, rfl, rfl, rfl, h1, r1⟩ := trodAll_cons r0
  obtain ⟨v2, vs2, d2, ds2, p2, q2, rfl, rfl, rfl, h2, r2⟩ := trodAll_cons r1
  obtain ⟨rfl, rfl, rfl⟩ := trodAll_nil r2
  obtain rfl : args = #[v0, v1, v2] := by cases args; simp_all
  obtain ⟨rfl, rfl⟩ := trodVars_none hV
  have k0 := h0
  have lt0 : ∀ x ∈ p0, x.block < W.heap.size := by obtain ⟨m, hm⟩ := k0; exact DataW.trod_lt m _ _ _ hm
  have k1 := h1
  have lt1 : ∀ x ∈ p1, x.block < W.heap.size := by obtain ⟨m, hm⟩ := k1; exact DataW.trod_lt m _ _ _ hm
  have k2 := h2
  have lt2 : ∀ x ∈ p2, x.block < W.heap.size := by obtain ⟨m, hm⟩ := k2; exact DataW.trod_lt m _ _ _ hm
  obtain ⟨kk0, vv0, pp0, n0, rfl, nr0, nb0⟩ := par_node (j := 0) (hval 0 38 v0 rfl rfl) h0 hsz rfl rfl
  obtain ⟨z1, rfl, za1, zb1⟩ := par_int (j := 1) .u8 _ _ Tryz.underlying5 wf_u8 (hval 1 5 v1 rfl rfl) h1 hsz rfl rfl
  obtain ⟨z2, rfl, za2, zb2⟩ := par_int (j := 2) .u8 _ _ Tryz.underlying5 wf_u8 (hval 2 5 v2 rfl rfl) h2 hsz rfl rfl
  have hKT := both_of_laid hL
  clear hA0 hval0
  refine (walk W kk0 vv0 pp0 n0 nr0 nb0 z1 za1 zb1 z2 za2 zb2 hKT.1 hKT.2).mono fun e W' ⟨he, bel⟩ => ?_
  subst he
  exact ⟨_, rfl, _, _, _, [], _, [], hW', trodAll_mk1 (shut_bool Tryz.underlying4 _), (trodAll_cons_mk (Below.trod laidOut2 (by kernel_rfl) (of_decide_eq_true (by kernel_rfl)) k0 bel lt0) (trodAll_cons_mk (Below.trod laidOut2 (by kernel_rfl) (of_decide_eq_true (by kernel_rfl)) k1 bel lt1) (trodAll_cons_mk (Below.trod laidOut2 (by kernel_rfl) (of_decide_eq_true (by kernel_rfl)) k2 bel lt2) trodAll_mk0))), rfl, bel.frame _, fun h => by cases h⟩

theorem over : Rows.PoolTwiceSaid :=
  OpenClaim.holds_of_wide 9 Tryz.f9 rfl rfl rfl rfl rfl rfl rfl ⟨rfl, rfl, rfl, rfl, rfl⟩ rfl rfl rfl rfl rfl (by kernel_rfl) Tryz.func9 (by kernel_rfl)
    (of_decide_eq_true (by kernel_rfl)) (by unfold Func.isWrapper; first | (rw [if_pos (by decide +kernel)]; kernel_rfl) | (rw [if_neg (by decide +kernel)]; exact ⟨rfl, rfl⟩))
    (fun os started H enc _ => lifted os started H enc)

/-- The statement. -/
theorem proved : Rows.PoolTwiceCardSaid :=
  Claim7.holds_tied_plain_at .later [] [.data, .data] true (true, "5b78e827fed50dbb0ffe988080043bf673c046d943e7f5f2a589e3d6361558c0") false
    over (fun _ h => by cases h) (by kernel_rfl) (fun _ h => by cases h) poolTwice_row_tie rfl ⟨rfl, rfl⟩ (by kernel_rfl) rfl
    (fun f fn hf hfn => by
      obtain rfl : f = 9 := Option.some.inj ((show Tryz.prog.funcNamed "banyan/banyanlaw13.PoolTwice" = some 9 by kernel_rfl).symm.trans hf) |>.symm
      obtain rfl : fn = Tryz.f9 := (Option.some.inj (Tryz.func9.symm.trans hfn)).symm
      exact ⟨by kernel_rfl, fun j t ht => by
        rw [Tryz.params9] at ht
        have hm : t ∈ [38, 5, 5] := by simpa using Array.mem_of_getElem? ht
        have hall : ([38, 5, 5].all fun u => !Tryz.prog.wantsStandIn u) = true := by kernel_rfl
        exact (show Tryz.prog.wantsStandIn t = false by simpa using List.all_eq_true.1 hall t hm)⟩)
    (by kernel_rfl)
#print axioms proved
end Go.Proofs.YtgckapolpifbkaaGreatDoor.poolTwice
