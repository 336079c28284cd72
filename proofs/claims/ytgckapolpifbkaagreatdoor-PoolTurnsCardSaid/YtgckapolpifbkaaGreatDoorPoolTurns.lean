/-
  'PoolTurns' returns true at every input, and each argument reads behind the call as it read before. Conditions: the package-level variable that the row lists starts as the program's text lays it (the card ties that).
-/
import Derived.Test.YtgckapolpifbkaaGreatDoorLb
import Derived.Test.YtgckapolpifbkaaGreatDoorCards
import Derived.Test.YtgckapolpifbkaaGreatDoorTie
import Derived.Test.YtgckapolpifbkaaGreatDoorWi
import Derived.Test.YtgckapolpifbkaaGreatDoorWj
namespace Go.Proofs.YtgckapolpifbkaaGreatDoor.poolTurns
open Go.ChangeShapes Go.WideShapes Go.ChangeAt Go.RowKit
set_option linter.unusedVariables false

theorem readQ_fits {kk : List (BitVec 8)} {n : Nat} {q : PtrV} {V : List (BitVec 8)} {ws : List (Nat × List (BitVec 8))} (h0 : q.ad ≠ 0) (hc : checkE q n = 0) (hl : (readM V ws q.ad.toNat).length = 512) (hs : hashS ((readM V ws q.ad.toNat).map yv) = q.su) : (readQ kk n q V ws false).2 = 0 ∨ (readQ kk n q V ws false).2 = 4 := by
  unfold readQ
  rw [if_neg (by simp [h0, hc]), if_neg (by simp)]
  have ho : openA kk q (readM V ws q.ad.toNat) = (sealS kk q.bi.toNat q.ad.toNat (readM V ws q.ad.toNat), 0) := by
    unfold openA
    rw [if_neg (by omega), fits_len _ _ hl, if_pos (by simpa using hs)]
  unfold upR
  rw [ho, if_neg (by simp)]
  rcases getN_two _ (show ((sealS kk q.bi.toNat q.ad.toNat (readM V ws q.ad.toNat)).map yv).length = 512 by rw [List.length_map]; exact sealS_length _ _ _ _ hl) with h | h
  · exact .inl h
  · exact .inr h.1

set_option maxRecDepth 100000 in
set_option maxHeartbeats 1600000 in
theorem walk (w : World) (k0 v0 p0 : Value) (n0 : NodeV) (nr0 : NR w k0 v0 p0 n0) (nb0 : NB n0) (a1 : Option Addr) (len1 cap1 : Nat) (x1 : List Int) (e1 : x1.length = len1) (m1 : len1 ≤ cap1) (n1 : cap1 ≤ 140737488351232) (b1 : BS w (.slice a1 len1 cap1) x1) (z2 : Int) (za2 : 0 ≤ z2) (zb2 : z2 ≤ 65535) (hK : KT w) (hT : TZ w) :
    Calls Tryz.prog 5 #[.agg #[.bool n0.lf, k0, v0, p0], .slice a1 len1 cap1, .int .u16 z2] w fun e w' => e = .returned (.bool true) ∧ Below w.heap.size w w' := by
  have HA := Lib.hid (alive13_any w hK hT)
  have HKT := Lib.hid (And.intro hK hT)
  have hk0 := yvs_none
  have hp0 := zero_ptr
  have hn0 := zero_node0
  have hkl : (keyE ++ macE).length = 64 := by rw [List.length_append, keyE_length, macE_length]
  have SK := Lib.hid (size_keys (keyE ++ macE) hkl)
  have SE := Lib.hid (show (yvs (zeroY 64)).size = (yvs (keyE ++ macE)).size by rw [yvs_size, yvs_size, hkl]; rfl)
  have SO := Lib.hid (yvs_one (keyE ++ macE))
  have SP1 := Lib.hid size_ptrA
  have SP2 := Lib.hid (fun x : PtrV => show (ptrRow zeroPtr).toArray.size = (ptrRow x).toArray.size by simp [ptrRow_length])
  have SP3 := Lib.hid ptrRow_one
  have SN1 := Lib.hid size_node
  have SN2 := Lib.hid (fun (x : Bool) (k v p : Value) => show nzero.size = (#[.bool x, k, v, p] : Array Value).size from rfl)
  obtain ⟨YK, hYK⟩ : ∃ z, yvs (keyE ++ macE) = z := ⟨_, rfl⟩
  obtain ⟨ZK, hZK⟩ : ∃ z, yvs (zeroY 64) = z := ⟨_, rfl⟩
  obtain ⟨ZP, hZP⟩ : ∃ z, (ptrRow zeroPtr).toArray = z := ⟨_, rfl⟩
  obtain ⟨ZN, hZN⟩ : ∃ z, nzero = z := ⟨_, rfl⟩
  have HMD := Lib.hid (fun (n : Nat) (W : World) (hb : Below w.heap.size w W) (h0 : 16 ≤ n) (h1 : n ≤ 4096) (L : List RowE) (M : List Nat) (hL : ∀ r ∈ L, W.heap[r.1]? = some (.cells r.2.1 r.2.2 (0, 0)) ∧ w.heap.size ≤ r.1) (hM : ∀ k ∈ M, k < W.heap.size) => made13L w W n hK hT hb h0 h1 L M hL hM)
  rw [hYK] at HMD SK SE SO
  rw [hZK] at hk0 SE
  rw [hZP] at hp0 SP2
  rw [hZN] at hn0 SN2
  have HZP := Lib.hid hZP
  have HZN := Lib.hid hZN
  have HYL := Lib.hid hYK
  clear hYK hZK hZP hZN hkl hK hT
  have lI : (len1 : Int) ≤ 140737488351232 := by omega
  have HBS := Lib.hid b1
  have HLX := Lib.hid (And.intro e1 (And.intro m1 n1))
  obtain ⟨t, rfl⟩ : ∃ t : Nat, z2 = (t : Int) := ⟨z2.toNat, by omega⟩
  have HT2 := Lib.hid (show t ≤ 65535 by omega)
  clear za2 zb2
  have hnb1 := (Below.refl w.heap.size w).alloc (Nat.le_refl _) (.cells #[.bool n0.lf, k0, v0, p0] 38)
  have hnr1 := heap_alloc_new w (.cells #[.bool n0.lf, k0, v0, p0] 38)
  have HNR := Lib.hid (fun (W : World) (hW : Below w.heap.size w W) => nr0.below hW)
  have HNB := Lib.hid nb0
  have HHV := Lib.hid (fun (W : World) (hW : Below w.heap.size w W) => heavy_any k0 v0 p0 n0 W (nr0.below hW) nb0)
  have HAL := Lib.hid (fun (W : World) (hW : Below w.heap.size w W) => alive13_any W (HKT.out.1.below hW HKT.out.1.pos) (HKT.out.2.below hW))
  have SN := Lib.hid (size_node n0.lf k0 v0 p0)
  clear b1 e1 m1 n1
  clear HA nr0 nb0
  generalize hw1 : w.alloc (.cells #[.bool n0.lf, k0, v0, p0] 38) = w1 at *
  have HB1 := Lib.hid hnb1
  have HN1 := Lib.hid hnr1
  clear hnb1 hnr1
  go_enter Tryz.func5, Tryz.ntmps5
  go_upto_region 1 with fail
  try rw [hw1]
  clear hw1
  go_wp2_with fail
  refine (HAL.out w1 HB1.out).mono ?_
  rintro e w2 ⟨rfl, hb2⟩
  have HB2 := Lib.hid (HB1.out.trans (hb2.mono HB1.out.size))
  have HN2 := Lib.hid ((hb2.block _ (lt_of_block HN1.out)).trans HN1.out)
  clear hb2 HB1 HN1 HAL
  by_cases hbig : 512 < len1
  · have bI : (512 : Int) < (len1 : Int) := by omega
    clear hbig
    go_wp2_with (first
      | (with_reducible refine wpList_load_row (o := ⟨some 20, _, _, _, _, _⟩) rfl 38 _ rfl w.heap.size rfl 38 #[.bool n0.lf, k0, v0, p0] (0, 0) _ HN2.out Tryz.underlying38 rfl SN.out ?_))
    refine (HHV.out w2 HB2.out).mono ?_
    rintro e w3 ⟨hv, rfl, hb3⟩
    have HB3 := Lib.hid (HB2.out.trans (hb3.mono HB2.out.size))
    have HN3 := Lib.hid ((hb3.block _ (lt_of_block HN2.out)).trans HN2.out)
    clear hb3 HB2 HN2 HHV
    cases hv with
    | true =>
      go_wp2_with fail
      go_ret
      exact ⟨rfl, HB3.out⟩
    | false =>
      go_wp2_with fail
      go_ret
      exact ⟨rfl, HB3.out⟩
  · have bI : ¬ (512 : Int) < (len1 : Int) := by omega
    have HLB := Lib.hid (show len1 ≤ 512 by omega)
    clear hbig
    go_wp2_with (first
      | (with_reducible refine wpList_load_row (o := ⟨some 20, _, _, _, _, _⟩) rfl 38 _ rfl w.heap.size rfl 38 #[.bool n0.lf, k0, v0, p0] (0, 0) _ HN2.out Tryz.underlying38 rfl SN.out ?_))
    refine (HHV.out w2 HB2.out).mono ?_
    rintro e w3 ⟨hv, rfl, hb3⟩
    have HB3 := Lib.hid (HB2.out.trans (hb3.mono HB2.out.size))
    have HN3 := Lib.hid ((hb3.block _ (lt_of_block HN2.out)).trans HN2.out)
    clear hb3 HB2 HN2 HHV
    cases hv with
    | true =>
      go_wp2_with fail
      go_ret
      exact ⟨rfl, HB3.out⟩
    | false =>
      go_wp2_with fail
      refine (HMD.out 16 w3 HB3.out (by decide) (by decide) [(w.heap.size, #[.bool n0.lf, k0, v0, p0], 38)] [] (fun r hr => by rcases List.mem_singleton.1 hr with rfl; exact ⟨HN3.out, Nat.le_refl _⟩) (fun k hk => absurd hk (by simp))).mono ?_
      rintro e w4 ⟨P, D, gl, rfl, hq, _⟩
      have HQ4 := Lib.hid hq
      clear hq HMD HB3 HN3
      go_upto_region 6 with (first
        | (with_reducible refine wpList_store_row (o := ⟨none, .store _ (.tmp 9) _, _, _, _, _⟩) rfl 30 _ _ rfl w4.heap.size YK rfl rfl 30 ZK (heap_alloc_new w4 _) SK.out SE.out SO.out ?_))
      generalize hWs : World.setRow _ w4.heap.size _ = w5
      have hqs := HQ4.out.fresh ZK YK 30 w5 hWs.symm
      have hbs := (fresh13 w4 ZK YK 30 w5 hWs.symm).2
      have HQ5 := Lib.hid hqs
      have HSw5 := Lib.hid hbs
      clear hWs hqs hbs HQ4
      generalize w4.heap.size = X9 at *
      have HBG := Lib.hid (show Calls Tryz.prog 14 #[.pointer (some ⟨P, 0, none⟩), .int .u64 (3)] w5 fun e w' => e = .returned (.int .i64 0) ∧ QL w w' P D gl 16 (keyE ++ macE) (allF 16) (3) (zeroY (16 * 512)) [] (-1) false [(X9, YK, 30), (w.heap.size, #[.bool n0.lf, k0, v0, p0], 38)] [] ∧ Touch [P] w5 w' from by
        have h := ql_begin (3) HQ5.out
        rw [if_neg (by omega), if_neg (by omega)] at h
        exact h)
      go_wp2_with fail
      refine HBG.out.mono ?_
      rintro e w6 ⟨rfl, hq, _⟩
      have HQ6 := Lib.hid hq
      clear hq HBG HQ5
      have HN6 := Lib.hid (show w6.heap[w.heap.size]? = some (.cells #[.bool n0.lf, k0, v0, p0] 38 (0, 0)) from HQ6.out.row 1 _ rfl)
      by_cases hc : checkN n0 = 0
      · have HC := Lib.hid hc
        clear hc
        have HWR := Lib.hid (show Calls Tryz.prog 21 #[.pointer (some ⟨P, 0, none⟩), .agg #[.bool n0.lf, k0, v0, p0]] w6 fun e w' => e = .returned (.tuple #[.agg (ptrRow (ptrQ keyE 3 2 n0)).toArray, .int .i64 0]) ∧ QL w w' P D gl 16 (keyE ++ macE) (updF (allF 16) 2 false) 3 (zeroY (16 * 512)) [(2, sealQ keyE 3 2 n0)] (-1) false [(X9, YK, 30), (w.heap.size, #[.bool n0.lf, k0, v0, p0], 38)] [] ∧ Stay [] w6 w' from ql_wok 2 keyE macE k0 v0 p0 n0 HQ6.out keyE_length macE_length (HNR.out w6 HQ6.out.bel) HNB.out (by decide) (by decide) HC.out (by decide) (by decide) (by simp) (by decide))
        go_wp2_with (first
          | (with_reducible refine wpList_load_row (o := ⟨some 42, _, _, _, _, _⟩) rfl 38 _ rfl w.heap.size rfl 38 #[.bool n0.lf, k0, v0, p0] (0, 0) _ HN6.out Tryz.underlying38 rfl SN.out ?_))
        refine HWR.out.mono ?_
        rintro e w7 ⟨rfl, hq, _⟩
        have HQ7 := Lib.hid hq
        clear hq HWR HQ6 HN6
        obtain ⟨PX, hPX⟩ : ∃ z, ptrQ keyE 3 2 n0 = z := ⟨_, rfl⟩
        obtain ⟨RX, hRX⟩ : ∃ z, (ptrRow PX).toArray = z := ⟨_, rfl⟩
        have HPX := Lib.hid hPX
        have HRX := Lib.hid hRX
        have sa1 := SP1.out PX
        have sa2 := SP2.out PX
        have sa3 := SP3.out PX
        rw [hRX] at sa1 sa2 sa3
        have SAPX1 := Lib.hid sa1
        have SAPX2 := Lib.hid sa2
        have SAPX3 := Lib.hid sa3
        rw [hPX, hRX]
        clear hPX hRX sa1 sa2 sa3
        go_upto_region 9 with (first
          | (with_reducible refine wpList_store_row (o := ⟨none, .store _ (.tmp 11) _, _, _, _, _⟩) rfl 43 _ _ rfl w7.heap.size RX rfl rfl 43 ZP (heap_alloc_new w7 _) SAPX1.out SAPX2.out SAPX3.out ?_))
        generalize hWs : World.setRow _ w7.heap.size _ = w8
        have hqs := HQ7.out.fresh ZP RX 43 w8 hWs.symm
        have hbs := (fresh13 w7 ZP RX 43 w8 hWs.symm).2
        have HQ8 := Lib.hid hqs
        have HSw8 := Lib.hid hbs
        clear hWs hqs hbs HQ7
        generalize w7.heap.size = X11 at *
        have HFL := Lib.hid (ql_flush HQ8.out (by simp))
        go_wp2_with fail
        refine HFL.out.mono ?_
        rintro e w9 ⟨rfl, hq9, _⟩
        have HSL := Lib.hid (sealQ_length (kk := keyE) (b := 3) (a := 2) HC.out)
        have HSV := Lib.hid (show secY (flushM (zeroY (16 * 512)) [(2, sealQ keyE 3 2 n0)]) 2 = (sealQ keyE 3 2 n0) from secY_same _ _ 2 16 (by simp [zeroY]) (by decide) HSL.out)
        have HQ9 := Lib.hid hq9
        clear hq9 HFL HQ8
        generalize flushM (zeroY (16 * 512)) [(2, sealQ keyE 3 2 n0)] = V1 at *
        have hx9 := (show w9.heap[X11]? = some (.cells RX 43 (0, 0)) from HQ9.out.row 0 _ rfl)
        rw [← HRX.out] at hx9
        obtain ⟨x0, _, _⟩ := ptr_at hx9
        obtain ⟨gx0, _, _⟩ := ptrQ_parts (kk := keyE) (b := 3) (a := 2) (nd := n0) (by decide) (by decide)
        rw [HPX.out] at gx0
        rw [gx0] at x0
        have x0' : w9.cell? ⟨X11, 0, none⟩ = some (.int .u32 2) := x0
        clear hx9 gx0 x0
        have HPK := Lib.hid (show Calls Tryz.prog 35 #[.pointer (some ⟨D, 0, none⟩), .int .u32 2] w9 (Fresh6 w9 (sealQ keyE 3 2 n0)) from by
          have h := ql_peek 2 HQ9.out (by decide)
          rw [HSV.out] at h
          exact h)
        obtain ⟨S, hS⟩ : ∃ z, (sealQ keyE 3 2 n0) = z := ⟨_, rfl⟩
        have HSQ := Lib.hid hS
        rw [hS] at HPK HSL HSV
        clear hS
        go_wp2_with fail
        refine HPK.out.mono ?_
        rintro e w10 ⟨rfl, hA10, _, hb10⟩
        have HQ10 := Lib.hid (HQ9.out.add hb10 _ (yvs S) 117 (Nat.le_refl _) hA10)
        clear hA10 hb10 HPK HQ9 x0'
        generalize w9.heap.size = X13 at *
        obtain ⟨g, cg, cur, w11, hrun, hge, hrow, htk, hcg, hcm, hb11⟩ := copied_row w10 (.slice (some ⟨X13, 0, none⟩) 512 512) S (BS.of_arr0 (show ArrY w10 X13 117 S from HQ10.out.row 0 _ rfl) HSL.out) HSL.out
        have HRUN := Lib.hid hrun
        have HQ11 := Lib.hid (HQ10.out.add hb11 g cur.toArray 5 hge hrow)
        have HTK := Lib.hid htk
        have HCG := Lib.hid (And.intro hcg hcm)
        have HGN := Lib.hid (fun r hr => show r.1 ≠ g from Nat.ne_of_lt (Nat.lt_of_lt_of_le (lt_of_block (HQ10.out.rows r hr).1) hge))
        clear hrun hge hrow htk hcg hcm hb11
        have hlit := lit_nob w10
        go_upto_region 14 with (first
          | (at_builtin; refine wpList_append_run (o := ⟨some 63, _, _, _, _, _⟩) rfl _ _ _ _ rfl _ _ _ _ rfl rfl HRUN.out ?_))
        clear hlit HRUN HQ10
        obtain ⟨off, hoff⟩ : ∃ off, t % 512 = off := ⟨_, rfl⟩
        have HOF := Lib.hid (show off < 512 by omega)
        have hrem : (t : Int) % 512 = (off : Int) := by omega
        have htI : (t : Int) ≤ 65535 := by have := HT2.out; omega
        have ht0 : (0 : Int) ≤ (t : Int) := by omega
        have hsl := slice_from13 g off cg HOF.out HCG.out.1
        obtain ⟨cv, w12, cur2, hrun, hrow, htk, htt⟩ := copy_any13 w11 g off (cg - off) len1 cap1 3 cur S a1 x1 (HQ11.out.row 0 _ rfl) HTK.out HSL.out HOF.out (HBS.out.kept HQ11.out.bel) HLX.out.1
        have HRUN := Lib.hid hrun
        have HQ12 := Lib.hid (HQ11.out.upd htt hrow HGN.out)
        have HTK2 := Lib.hid htk
        clear hrun hrow htk htt HTK HGN hoff
        have hrunc := HRUN.out
        go_upto_region 15 with fail
        clear hrem htI ht0 hsl hrunc HRUN HQ11
        have HNL := Lib.hid (show (putL S off ((toY x1).take (512 - off))).length = 512 by rw [putL_length _ _ _ (by rw [HSL.out, List.length_take]; have := HOF.out; omega)]; exact HSL.out)
        generalize putL S off ((toY x1).take (512 - off)) = NL at *
        have hx9 := (show w12.heap[X11]? = some (.cells RX 43 (0, 0)) from HQ12.out.row 2 _ rfl)
        rw [← HRX.out] at hx9
        obtain ⟨x0, _, _⟩ := ptr_at hx9
        obtain ⟨gx0, _, _⟩ := ptrQ_parts (kk := keyE) (b := 3) (a := 2) (nd := n0) (by decide) (by decide)
        rw [HPX.out] at gx0
        rw [gx0] at x0
        have x0' : w12.cell? ⟨X11, 0, none⟩ = some (.int .u32 2) := x0
        clear hx9 gx0 x0
        have HPO := Lib.hid (show Calls Tryz.prog 36 #[.pointer (some ⟨D, 0, none⟩), .int .u32 2, .slice (some ⟨g, 0, none⟩) 512 cg] w12 fun e w' => e = .returned (.int .i64 0) ∧ QL w w' P D gl 16 (keyE ++ macE) (updF (allF 16) 2 false) 3 (putL V1 (2 * 512) NL) [] (-1) false [(g, cur2.toArray, 5), (X13, yvs S, 117), (X11, RX, 43), (X9, YK, 30), (w.heap.size, #[.bool n0.lf, k0, v0, p0], 38)] [] ∧ Stay [] w12 w' from ql_poke13 2 g cg NL HQ12.out (by decide) (range_take (HQ12.out.row 0 _ rfl) HTK2.out) (by simp) HNL.out)
        go_wp2_with fail
        refine HPO.out.mono ?_
        rintro e w13 ⟨rfl, hq13, _⟩
        have HV1 := Lib.hid HQ12.out.len
        have HQ13 := Lib.hid hq13
        have HSN := Lib.hid (show readM (putL V1 (2 * 512) NL) [] 2 = NL from secY_same V1 NL 2 16 HV1.out (by decide) HNL.out)
        clear hq13 HPO HQ12 x0' HV1
        generalize putL V1 (2 * 512) NL = V2 at *
        have HR13 := Lib.hid (show w13.heap[X11]? = some (.cells RX 43 (0, 0)) from HQ13.out.row 2 _ rfl)
        have HRD := Lib.hid (ql_read P 3 (updF (allF 16) 2 false) keyE macE PX HQ13.out HQ13.out.pl keyE_length macE_length)
        have HRQ := Lib.hid (show (NL = S → readQ keyE 16 PX V2 [] false = (n0, 0)) ∧ (hashS (NL.map yv) ≠ hashS (S.map yv) → readQ keyE 16 PX V2 [] false = (zeroNode, 5)) ∧ (hashS (NL.map yv) = hashS (S.map yv) → (readQ keyE 16 PX V2 [] false).2 = 0 ∨ (readQ keyE 16 PX V2 [] false).2 = 4) from by
          obtain ⟨g1, g2, g3⟩ := ptrQ_parts (kk := keyE) (b := 3) (a := 2) (nd := n0) (by decide) (by decide)
          obtain ⟨g4, g5⟩ := ptrQ_may (kk := keyE) (b := 3) (a := 2) (n := 16) (nd := n0) (by decide) (by decide) (by decide) (by decide) (by decide)
          rw [HSQ.out] at g3
          refine ⟨fun e => ?_, fun e => ?_, fun e => ?_⟩
          · rw [← HPX.out]; exact readQ_wrote (kk := keyE) (b := 3) (a := 2) (n := 16) (nd := n0) HC.out (by decide) (by decide) (by decide) (by decide) (by decide) (by rw [HSN.out, e]; exact HSQ.out.symm)
          · rw [HPX.out] at g1 g3 g4 g5
            have g6 : readM V2 [] PX.ad.toNat = NL := by rw [g1]; exact HSN.out
            exact readQ_sum g4 g5 (by rw [g6]; exact HNL.out) (by rw [g6, g3]; exact e)
          · rw [HPX.out] at g1 g3 g4 g5
            have g6 : readM V2 [] PX.ad.toNat = NL := by rw [g1]; exact HSN.out
            exact readQ_fits g4 g5 (by rw [g6]; exact HNL.out) (by rw [g6, g3]; exact e))
        have HRB := Lib.hid (readQ_nb keyE 16 PX V2 [] false)
        rw [HRX.out] at HRD
        generalize readQ keyE 16 PX V2 [] false = rq at *
        go_wp2_with (first
          | (with_reducible refine wpList_load_row (o := ⟨some 78, _, _, _, _, _⟩) rfl 43 _ rfl X11 rfl 43 RX (0, 0) _ HR13.out Tryz.underlying43 rfl SAPX1.out ?_))
        refine HRD.out.mono ?_
        rintro e w14 ⟨k3, v3, p3, rfl, hn14, hb14⟩
        have HQ14 := Lib.hid (HQ13.out.below hb14)
        have HN14 := Lib.hid hn14
        have SX1 := Lib.hid (SN1.out rq.1.lf k3 v3 p3)
        have SX2 := Lib.hid (SN2.out rq.1.lf k3 v3 p3)
        have SX3 := Lib.hid (nr_one hn14 rq.1.lf)
        clear hn14 hb14 HRD HR13 HQ13
        go_upto_region 17 with (first
          | (with_reducible refine wpList_store_row (o := ⟨none, .store _ (.tmp 16) _, _, _, _, _⟩) rfl 38 _ _ rfl w14.heap.size #[.bool rq.1.lf, k3, v3, p3] rfl rfl 38 ZN (heap_alloc_new w14 _) SX1.out SX2.out SX3.out ?_))
        generalize hWs : World.setRow _ w14.heap.size _ = w15
        have hqs := HQ14.out.fresh ZN #[.bool rq.1.lf, k3, v3, p3] 38 w15 hWs.symm
        have hbs := (fresh13 w14 ZN #[.bool rq.1.lf, k3, v3, p3] 38 w15 hWs.symm).2
        have HN15 := Lib.hid (HN14.out.below hbs)
        have HQ15 := Lib.hid hqs
        have HSw15 := Lib.hid hbs
        clear hWs hqs hbs HQ14 HN14
        generalize w14.heap.size = X17 at *
        have HG15 := Lib.hid (show w15.heap[g]? = some (.cells cur2.toArray 5 (0, 0)) from HQ15.out.row 1 _ rfl)
        have HX15 := Lib.hid (show w15.heap[X13]? = some (.cells (yvs S) 117 (0, 0)) from HQ15.out.row 2 _ rfl)
        have HBN := Lib.hid (bs_range (c := cg) (range_take HG15.out HTK2.out) HNL.out)
        have HBW := Lib.hid (BS.of_arr0 (n := 512) (cap := 512) (show ArrY w15 X13 117 S from HX15.out) HSL.out)
        have HSM := Lib.hid (same_any w15 (.slice (some ⟨g, 0, none⟩) 512 cg) (.slice (some ⟨X13, 0, none⟩) 512 512) (NL.map yv) (S.map yv) HBN.out HBW.out)
        go_wp2_with fail
        refine HSM.out.mono ?_
        rintro e w16 ⟨rfl, hw16⟩
        subst w16
        clear HSM
        have HA15 := Lib.hid (show w15.heap[X17]? = some (.cells #[.bool rq.1.lf, k3, v3, p3] 38 (0, 0)) from HQ15.out.row 0 _ rfl)
        have HB15 := Lib.hid (show w15.heap[w.heap.size]? = some (.cells #[.bool n0.lf, k0, v0, p0] 38 (0, 0)) from HQ15.out.row 5 _ rfl)
        have HBL := Lib.hid HQ15.out.bel
        by_cases hse : NL = S
        · have hrq := HRQ.out.1 hse
          have h1 : rq.2 = 0 := by rw [hrq]
          have hps : n0.ps.length ≤ 1000000 := by have := (check_few HC.out).2; omega
          have HSA := Lib.hid (nsame_any k3 v3 p3 k0 v0 p0 rq.1 n0 w15 HN15.out (HNR.out w15 HBL.out) HRB.out.1 HNB.out HRB.out.2 hps)
          rw [show sameN rq.1 n0 = true by rw [hrq]; exact sameN_refl n0] at HSA
          rw [h1, decide_eq_true (show NL.map yv = S.map yv by rw [hse])]
          clear hrq h1 hps hse HRQ HRB
          go_wp2_with (first
            | (with_reducible refine wpList_load_guarded (o := ⟨some 88, _, _, _, _, _⟩) (by kernel_rfl) 38 _ rfl X17 rfl 38 #[.bool rq.1.lf, k3, v3, p3] (0, 0) _ HA15.out Tryz.underlying38 rfl SX1.out ?_)
            | (with_reducible refine wpList_load_guarded (o := ⟨some 89, _, _, _, _, _⟩) (by kernel_rfl) 38 _ rfl w.heap.size rfl 38 #[.bool n0.lf, k0, v0, p0] (0, 0) _ HB15.out Tryz.underlying38 rfl SN.out ?_))
          refine HSA.out.mono ?_
          rintro e w16 ⟨rfl, hb16⟩
          have HB16 := Lib.hid (HBL.out.trans (hb16.mono HBL.out.size))
          clear hb16 HSA
          go_wp2_with fail
          go_ret
          exact ⟨rfl, HB16.out⟩
        · rw [decide_eq_false (show ¬ NL.map yv = S.map yv from fun e => hse ((List.map_inj_right (fun a b h => (yv_inj a b).1 h)).1 e))]
          clear hse
          by_cases hh : hashS (NL.map yv) = hashS (S.map yv)
          · have hrq := HRQ.out.2.2 hh
            have HS1 := Lib.hid (shasum_any (NL.map yv) (.slice (some ⟨g, 0, none⟩) 512 cg) w15 HQ15.out.ktn HBN.out (room_of _ _ _ HCG.out.1 HCG.out.2) (by rw [List.length_map, HNL.out]; decide))
            have HS2 := Lib.hid (fun (W : World) (hW : Below w15.heap.size w15 W) => shasum_any (S.map yv) (.slice (some ⟨X13, 0, none⟩) 512 512) W (HQ15.out.ktn.below hW HQ15.out.ktn.pos) (HBW.out.kept hW) (room_of _ _ _ (Nat.le_refl _) (by decide)) (by rw [List.length_map, HSL.out]; decide))
            have hes := fun W => eq_hash_same (hashS (S.map yv)) (hashS_length _) (hashS_byt _) W
            rw [hh] at HS1
            generalize u8s (hashS (S.map yv)) = HU at *
            clear hh HRQ HRB
            generalize rq.2 = r2 at *
            rcases hrq with rfl | rfl
            · go_wp2_with fail
              refine HS1.out.mono ?_
              rintro e w16 ⟨rfl, hb16⟩
              have HB16 := Lib.hid hb16
              clear hb16 HS1
              go_wp2_with fail
              refine (HS2.out w16 HB16.out).mono ?_
              rintro e w17 ⟨rfl, hb17⟩
              have HB17 := Lib.hid (HBL.out.trans ((HB16.out.mono HBL.out.size).trans (hb17.mono (Nat.le_trans HBL.out.size HB16.out.size))))
              clear hb17 HS2
              go_wp2_with fail
              go_ret
              exact ⟨rfl, HB17.out⟩
            · go_wp2_with fail
              refine HS1.out.mono ?_
              rintro e w16 ⟨rfl, hb16⟩
              have HB16 := Lib.hid hb16
              clear hb16 HS1
              go_wp2_with fail
              refine (HS2.out w16 HB16.out).mono ?_
              rintro e w17 ⟨rfl, hb17⟩
              have HB17 := Lib.hid (HBL.out.trans ((HB16.out.mono HBL.out.size).trans (hb17.mono (Nat.le_trans HBL.out.size HB16.out.size))))
              clear hb17 HS2
              go_wp2_with fail
              go_ret
              exact ⟨rfl, HB17.out⟩
          · have hrq := HRQ.out.2.1 hh
            have HSA := Lib.hid (nsame_any k3 v3 p3 (.slice none 0 0) (.slice none 0 0) (.slice none 0 0) rq.1 zeroNode w15 HN15.out (nr_zero _) HRB.out.1 nb_zero HRB.out.2 (by decide))
            rw [show sameN rq.1 zeroNode = true by rw [hrq]; exact sameN_refl _] at HSA
            have HSA := Lib.hid (show Calls Tryz.prog 34 #[.agg #[.bool rq.1.lf, k3, v3, p3], .agg ZN] w15 fun e w' => e = .returned (.bool true) ∧ Below w15.heap.size w15 w' from by rw [← HZN.out]; exact HSA.out)
            have h1 : rq.2 = 5 := by rw [hrq]
            rw [h1]
            clear hrq h1 hh HRQ HRB
            go_wp2_with (first
              | (with_reducible refine wpList_load_guarded (o := ⟨some 95, _, _, _, _, _⟩) (by kernel_rfl) 38 _ rfl X17 rfl 38 #[.bool rq.1.lf, k3, v3, p3] (0, 0) _ HA15.out Tryz.underlying38 rfl SX1.out ?_))
            refine HSA.out.mono ?_
            rintro e w16 ⟨rfl, hb16⟩
            have HB16 := Lib.hid (HBL.out.trans (hb16.mono HBL.out.size))
            clear hb16 HSA
            go_wp2_with fail
            go_ret
            exact ⟨rfl, HB16.out⟩
      · have HC := Lib.hid hc
        clear hc
        have HWR := Lib.hid (ql_wbad k0 v0 p0 n0 HQ6.out (HNR.out w6 HQ6.out.bel) HNB.out (by omega) HC.out)
        go_wp2_with (first
          | (with_reducible refine wpList_load_row (o := ⟨some 42, _, _, _, _, _⟩) rfl 38 _ rfl w.heap.size rfl 38 #[.bool n0.lf, k0, v0, p0] (0, 0) _ HN6.out Tryz.underlying38 rfl SN.out ?_))
        refine HWR.out.mono ?_
        rintro e w7 ⟨rfl, hb⟩
        have HQ7 := Lib.hid (HQ6.out.below hb)
        clear hb HWR HQ6 HN6
        have SAZ1 := SP1.out zeroPtr
        have SAZ3 := SP3.out zeroPtr
        rw [HZP.out] at SAZ1 SAZ3 ⊢
        have SAZ1 := Lib.hid SAZ1
        have SAZ3 := Lib.hid SAZ3
        go_upto_region 9 with (first
          | (with_reducible refine wpList_store_row (o := ⟨none, .store _ (.tmp 11) _, _, _, _, _⟩) rfl 43 _ _ rfl w7.heap.size ZP rfl rfl 43 ZP (heap_alloc_new w7 _) SAZ1.out rfl SAZ3.out ?_))
        generalize hWs : World.setRow _ w7.heap.size _ = w8
        have hqs := HQ7.out.fresh ZP ZP 43 w8 hWs.symm
        have hbs := (fresh13 w7 ZP ZP 43 w8 hWs.symm).2
        have HQ8 := Lib.hid hqs
        have HSw8 := Lib.hid hbs
        clear hWs hqs hbs HQ7
        generalize w7.heap.size = X11 at *
        have hc1 : (checkN n0 != 0) = true := by simpa using HC.out
        have HN8 := Lib.hid (show w8.heap[w.heap.size]? = some (.cells #[.bool n0.lf, k0, v0, p0] 38 (0, 0)) from HQ8.out.row 2 _ rfl)
        have HCK := Lib.hid (ncheck_any k0 v0 p0 n0 w8 (HNR.out w8 HQ8.out.bel) HNB.out)
        go_wp2_with (first
          | (with_reducible refine wpList_load_row (o := ⟨some 49, _, _, _, _, _⟩) rfl 38 _ rfl w.heap.size rfl 38 #[.bool n0.lf, k0, v0, p0] (0, 0) _ HN8.out Tryz.underlying38 rfl SN.out ?_))
        refine HCK.out.mono ?_
        rintro e w9 ⟨rfl, hb9⟩
        have HB9 := Lib.hid (HQ8.out.below hb9).bel
        clear hb9 HCK
        go_wp2_with fail
        go_ret
        exact ⟨by simp, HB9.out⟩
set_option maxRecDepth 100000 in
theorem lifted (os : Os) (started : os.Started) (H : Type) (enc : TypeId × Value → H) :
    ReturnsInHanded {} Tryz.checked os 5 .any (fun w args => (Rows.poolTurnsSpec.pre enc Tryz.prog Tryz.f5 [] false w args ∧ laidMetH Tryz.prog [("banyan/sha.roundNumbers", Rows.laid_banyan_sha_roundNumbers), ("math/bits.deBruijn64tab", Rows.laid_math_bits_deBruijn64tab)] w) ∧ sizedMet enc Tryz.prog Tryz.f5 (OpenSpec.ofChange Rows.poolTurnsSpec) false w args)
      (Rows.poolTurnsSpec.post enc Tryz.prog Tryz.f5 false true false false) := by
  refine returnsInHanded_of_change_and (C := Tryz.checked) (X := fun w _ => laidMetH Tryz.prog [("banyan/sha.roundNumbers", Rows.laid_banyan_sha_roundNumbers), ("math/bits.deBruijn64tab", Rows.laid_math_bits_deBruijn64tab)] w) (fun _ _ _ hh h => h.of_heap hh) own2 started (by kernel_rfl) Tryz.func5
    (ChangeSpec.witness_shaped (enc := enc) (C := Tryz.checked) (os := os) (X := fun w _ => laidMetH Tryz.prog [("banyan/sha.roundNumbers", Rows.laid_banyan_sha_roundNumbers), ("math/bits.deBruijn64tab", Rows.laid_math_bits_deBruijn64tab)] w) false (World.doorLaid Tryz.prog 400 os) #[.agg #[.bool false, .slice none 0 0, .slice none 0 0, .slice none 0 0], .slice none 0 0, .int .u16 0] 8 rfl (World.shaped_of_RefB (by kernel_rfl) (by kernel_rfl)) (by kernel_rfl) (by kernel_rfl) (by kernel_rfl) (both_door os _)) ?_
  intro W base args ds gs before hval0 hW _ hsz0 hL _
  have hval : ∀ (j : Nat) t v, Tryz.f5.params[j]? = some t → args[j]? = some v → Value.okWide Tryz.prog W .any base t v := hval0
  have hsz : (DataW.weightsEach Tryz.prog (Tryz.f5.params.toList ++ Rows.poolTurnsSpec.plain.varTypes Tryz.prog) (ds ++ gs)).all (· ≤ reachBytes) = true := hsz0
  clear hsz0
  have hW' := hW
  obtain ⟨p, q, hA0, hV, rfl, hfz, hnd⟩ := hW
  have hA : DataW.TrodAll enc Tryz.prog W 0 (fun _ => true) true Tryz.f5.params.toList args.toList ds p := hA0
  rw [Tryz.params5] at hA hval hsz
  obtain ⟨v0, vs0, d0, ds0, p0, q0, hargs, rfl, rfl, h0, r0⟩ := trodAll_cons hA
  obtain ⟨v1, vs1, d1, ds1, p1, q1, rfl, rfl, rfl, h1, r1⟩ := trodAll_cons r0
  obtain ⟨v2, vs2, d2, ds2, p2, q2, rfl, rfl, rfl, h2, r2⟩ := trodAll_cons r1
  obtain ⟨rfl, rfl, rfl⟩ := trodAll_nil r2
  obtain rfl : args = #[v0, v1, v2] := by cases args; simp_all
  obtain ⟨rfl, rfl⟩ := trodVars_none hV
  have k0 := h0
  have lt0 : ∀ x ∈ p0, x.block < W.heap.size := by obtain ⟨m, hm⟩ := k0; exact DataW.trod_lt m _ _ _ hm
  have k1 := h1
  have lt1 : ∀ x ∈ p1, x.block < W.heap.size := by obtain ⟨m, hm⟩ := k1; exact DataW.trod_lt m _ _ _ hm
  have k2 := h2
  have lt2 : ∀ x ∈ p2, x.block < W.heap.size := by obtain ⟨m, hm⟩ := k2; exact DataW.trod_lt m _ _ _ hm
  obtain ⟨kk0, vv0, pp0, n0, rfl, nr0, nb0⟩ := par_node (j := 0) (hval 0 38 v0 rfl rfl) h0 hsz rfl rfl
  obtain ⟨a1, len1, cap1, x1, rfl, e1, m1, n1, b1⟩ := par_bytes (j := 1) (hval 1 62 v1 rfl rfl) h1 hsz rfl rfl
  obtain ⟨z2, rfl, za2, zb2⟩ := par_int (j := 2) .u16 _ _ Tryz.underlying82 wf_u16 (hval 2 82 v2 rfl rfl) h2 hsz rfl rfl
  have hKT := both_of_laid hL
  clear hA0 hval0
  refine (walk W kk0 vv0 pp0 n0 nr0 nb0 a1 len1 cap1 x1 e1 m1 n1 b1 z2 za2 zb2 hKT.1 hKT.2).mono fun e W' ⟨he, bel⟩ => ?_
  subst he
  exact ⟨_, rfl, _, _, _, [], _, [], hW', trodAll_mk1 (shut_bool Tryz.underlying4 _), (trodAll_cons_mk (Below.trod laidOut2 (by kernel_rfl) (of_decide_eq_true (by kernel_rfl)) k0 bel lt0) (trodAll_cons_mk (Below.trod laidOut2 (by kernel_rfl) (of_decide_eq_true (by kernel_rfl)) k1 bel lt1) (trodAll_cons_mk (Below.trod laidOut2 (by kernel_rfl) (of_decide_eq_true (by kernel_rfl)) k2 bel lt2) trodAll_mk0))), rfl, bel.frame _, fun h => by cases h⟩

theorem over : Rows.PoolTurnsSaid :=
  OpenClaim.holds_of_wide 5 Tryz.f5 rfl rfl rfl rfl rfl rfl rfl ⟨rfl, rfl, rfl, rfl, rfl⟩ rfl rfl rfl rfl rfl (by kernel_rfl) Tryz.func5 (by kernel_rfl)
    (of_decide_eq_true (by kernel_rfl)) (by unfold Func.isWrapper; first | (rw [if_pos (by decide +kernel)]; kernel_rfl) | (rw [if_neg (by decide +kernel)]; exact ⟨rfl, rfl⟩))
    (fun os started H enc _ => lifted os started H enc)

/-- The statement. -/
theorem proved : Rows.PoolTurnsCardSaid :=
  Claim7.holds_tied_plain_at .later [] [.data, .data] true (true, "5b78e827fed50dbb0ffe988080043bf673c046d943e7f5f2a589e3d6361558c0") false
    over (fun _ h => by cases h) (by kernel_rfl) (fun _ h => by cases h) poolTurns_row_tie rfl ⟨rfl, rfl⟩ (by kernel_rfl) rfl
    (fun f fn hf hfn => by
      obtain rfl : f = 5 := Option.some.inj ((show Tryz.prog.funcNamed "banyan/banyanlaw13.PoolTurns" = some 5 by kernel_rfl).symm.trans hf) |>.symm
      obtain rfl : fn = Tryz.f5 := (Option.some.inj (Tryz.func5.symm.trans hfn)).symm
      exact ⟨by kernel_rfl, fun j t ht => by
        rw [Tryz.params5] at ht
        have hm : t ∈ [38, 62, 82] := by simpa using Array.mem_of_getElem? ht
        have hall : ([38, 62, 82].all fun u => !Tryz.prog.wantsStandIn u) = true := by kernel_rfl
        exact (show Tryz.prog.wantsStandIn t = false by simpa using List.all_eq_true.1 hall t hm)⟩)
    (by kernel_rfl)
#print axioms proved
end Go.Proofs.YtgckapolpifbkaaGreatDoor.poolTurns
