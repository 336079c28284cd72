/-
  'PoolFills' returns true at every input, and each argument reads behind the call as it read before. Conditions: the package-level variable that the row lists starts as the program's text lays it (the card ties that).
-/
import Derived.Test.YtgckapolpifbkaaGreatDoorLb
import Derived.Test.YtgckapolpifbkaaGreatDoorCards
import Derived.Test.YtgckapolpifbkaaGreatDoorTie
import Derived.Test.YtgckapolpifbkaaGreatDoorWi
import Derived.Test.YtgckapolpifbkaaGreatDoorWl
namespace Go.Proofs.YtgckapolpifbkaaGreatDoor.poolFills
open Go.ChangeShapes Go.WideShapes Go.ChangeAt Go.RowKit
set_option linter.unusedVariables false


set_option maxRecDepth 100000 in
set_option maxHeartbeats 1600000 in
theorem walk (w : World) (l0 : List Nat) (a0 : Option Addr) (len0 cap0 : Nat) (us0 : US w a0 len0 cap0 l0) (cp0 : len0 ≤ cap0) (bg0 : len0 ≤ 140737488351232) (z1 : Int) (za1 : 0 ≤ z1) (zb1 : z1 ≤ 255) (hK : KT w) (hT : TZ w) :
    Calls Tryz.prog 6 #[.slice a0 len0 cap0, .int .u8 z1] w fun e w' => e = .returned (.bool true) ∧ Below w.heap.size w w' := by
  have HA := Lib.hid (alive13_any w hK hT)
  have HKT := Lib.hid (And.intro hK hT)
  have hk0 := yvs_none
  have hp0 := zero_ptr
  have hn0 := zero_node0
  have hkl : (keyE ++ macE).length = 64 := by rw [List.length_append, keyE_length, macE_length]
  have SK := Lib.hid (size_keys (keyE ++ macE) hkl)
  have SE := Lib.hid (show (yvs (zeroY 64)).size = (yvs (keyE ++ macE)).size by rw [yvs_size, yvs_size, hkl]; rfl)
  have SO := Lib.hid (yvs_one (keyE ++ macE))
  have SP1 := Lib.hid size_ptrA
  have SP2 := Lib.hid (fun x : PtrV => show (ptrRow zeroPtr).toArray.size = (ptrRow x).toArray.size by simp [ptrRow_length])
  have SP3 := Lib.hid ptrRow_one
  have SN1 := Lib.hid size_node
  have SN2 := Lib.hid (fun (x : Bool) (k v p : Value) => show nzero.size = (#[.bool x, k, v, p] : Array Value).size from rfl)
  obtain ⟨YK, hYK⟩ : ∃ z, yvs (keyE ++ macE) = z := ⟨_, rfl⟩
  obtain ⟨ZK, hZK⟩ : ∃ z, yvs (zeroY 64) = z := ⟨_, rfl⟩
  obtain ⟨ZP, hZP⟩ : ∃ z, (ptrRow zeroPtr).toArray = z := ⟨_, rfl⟩
  obtain ⟨ZN, hZN⟩ : ∃ z, nzero = z := ⟨_, rfl⟩
  have HMD := Lib.hid (fun (n : Nat) (W : World) (hb : Below w.heap.size w W) (h0 : 16 ≤ n) (h1 : n ≤ 4096) (L : List RowE) (M : List Nat) (hL : ∀ r ∈ L, W.heap[r.1]? = some (.cells r.2.1 r.2.2 (0, 0)) ∧ w.heap.size ≤ r.1) (hM : ∀ k ∈ M, k < W.heap.size) => made13L w W n hK hT hb h0 h1 L M hL hM)
  rw [hYK] at HMD SK SE SO
  rw [hZK] at hk0 SE
  rw [hZP] at hp0 SP2
  rw [hZN] at hn0 SN2
  have HZP := Lib.hid hZP
  have HZN := Lib.hid hZN
  have HYL := Lib.hid hYK
  clear hYK hZK hZP hZN hkl hK hT
  have HU := Lib.hid us0
  have lI : (len0 : Int) ≤ 140737488351232 := by omega
  have HXT := Lib.hid (show 0 ≤ z1 ∧ z1 ≤ 255 by omega)
  clear za1 zb1 us0 cp0 bg0
  by_cases hbig : 100 < len0
  · have bI : (100 : Int) < (len0 : Int) := by omega
    clear hbig
    go_enter Tryz.func6, Tryz.ntmps6
    go_wp2_with fail
    refine HA.out.mono ?_
    rintro e w3 ⟨rfl, hb1⟩
    have HB3 := Lib.hid hb1
    clear hb1 HA
    go_wp2_with fail
    refine (HMD.out 20 w3 HB3.out (by decide) (by decide) [] [] (fun r hr => absurd hr (by simp)) (fun k hk => absurd hk (by simp))).mono ?_
    rintro e w4 ⟨P, D, gl, rfl, hq, _⟩
    have HQ4 := Lib.hid hq
    clear hq HMD HB3
    go_upto_region 4 with (first
      | (with_reducible refine wpList_store_row (o := ⟨none, .store _ (.tmp 7) _, _, _, _, _⟩) rfl 30 _ _ rfl w4.heap.size YK rfl rfl 30 ZK (heap_alloc_new w4 _) SK.out SE.out SO.out ?_))
    generalize hWs : World.setRow _ w4.heap.size _ = w5
    have hqs := HQ4.out.fresh ZK YK 30 w5 hWs.symm
    have hbs := (fresh13 w4 ZK YK 30 w5 hWs.symm).2
    have HQ5 := Lib.hid hqs
    have HSw5 := Lib.hid hbs
    clear hWs hqs hbs HQ4
    generalize w4.heap.size = X9 at *
    have HBG := Lib.hid (show Calls Tryz.prog 14 #[.pointer (some ⟨P, 0, none⟩), .int .u64 (1)] w5 fun e w' => e = .returned (.int .i64 0) ∧ QL w w' P D gl 20 (keyE ++ macE) (allF 20) (1) (zeroY (20 * 512)) [] (-1) false [(X9, YK, 30)] [] ∧ Touch [P] w5 w' from by
      have h := ql_begin (1) HQ5.out
      rw [if_neg (by omega), if_neg (by omega)] at h
      exact h)
    go_wp2_with fail
    refine HBG.out.mono ?_
    rintro e w6 ⟨rfl, hq, _⟩
    have HQ6 := Lib.hid hq
    clear hq HBG HQ5
    go_wp2_with fail
    go_ret
    exact ⟨rfl, HQ6.out.bel⟩
  · have bI : (len0 : Int) ≤ 100 := by omega
    have HLN := Lib.hid (show len0 ≤ 100 by omega)
    clear hbig
    go_enter Tryz.func6, Tryz.ntmps6
    go_wp2_with fail
    refine HA.out.mono ?_
    rintro e w3 ⟨rfl, hb1⟩
    have HB3 := Lib.hid hb1
    clear hb1 HA
    go_wp2_with fail
    refine (HMD.out 20 w3 HB3.out (by decide) (by decide) [] [] (fun r hr => absurd hr (by simp)) (fun k hk => absurd hk (by simp))).mono ?_
    rintro e w4 ⟨P, D, gl, rfl, hq, _⟩
    have HQ4 := Lib.hid hq
    clear hq HMD HB3
    go_upto_region 4 with (first
      | (with_reducible refine wpList_store_row (o := ⟨none, .store _ (.tmp 7) _, _, _, _, _⟩) rfl 30 _ _ rfl w4.heap.size YK rfl rfl 30 ZK (heap_alloc_new w4 _) SK.out SE.out SO.out ?_))
    generalize hWs : World.setRow _ w4.heap.size _ = w5
    have hqs := HQ4.out.fresh ZK YK 30 w5 hWs.symm
    have hbs := (fresh13 w4 ZK YK 30 w5 hWs.symm).2
    have HQ5 := Lib.hid hqs
    have HSw5 := Lib.hid hbs
    clear hWs hqs hbs HQ4
    generalize w4.heap.size = X9 at *
    have HBG := Lib.hid (show Calls Tryz.prog 14 #[.pointer (some ⟨P, 0, none⟩), .int .u64 (1)] w5 fun e w' => e = .returned (.int .i64 0) ∧ QL w w' P D gl 20 (keyE ++ macE) (allF 20) (1) (zeroY (20 * 512)) [] (-1) false [(X9, YK, 30)] [] ∧ Touch [P] w5 w' from by
      have h := ql_begin (1) HQ5.out
      rw [if_neg (by omega), if_neg (by omega)] at h
      exact h)
    go_wp2_with fail
    refine HBG.out.mono ?_
    rintro e w6 ⟨rfl, hq, _⟩
    have HQ6 := Lib.hid hq
    clear hq HBG HQ5
    have HM0 := Lib.hid (um_made w6)
    have hba := (Below.refl w6.heap.size w6).alloc (Nat.le_refl _) (.map #[] 0)
    have HQ7 := Lib.hid ((HQ6.out.addM hba w6.heap.size (Nat.le_refl _) (lt_of_block (heap_alloc_new w6 _))).less (L' := []) (M' := [w6.heap.size]) (fun r hr => absurd hr (by simp)) (fun k hk => hk))
    have HMB := Lib.hid (show w.heap.size ≤ w6.heap.size from HQ6.out.bel.size)
    have hmm : ∀ W : World, (Instr.makeMap 86 none).run Tryz.prog W = .ok (.map (some W.heap.size)) (W.alloc (.map #[] 0)) := fun W => run_makeMap _ W
    clear hba HQ6
    go_wp2_with fail
    clear hmm
    generalize World.alloc w6 _ = w7 at *
    generalize w6.heap.size = Mb at *
    go_loopw [10, 12, 41] (fun v10 _ v41 wr => ∃ (i d : Nat) (a : Option Addr) (c : Nat) (T M : List Nat), i ≤ len0 ∧ v41 = .int .i64 (i : Int) ∧ v10 = .slice a i c ∧ T.length = i ∧ (∀ x ∈ T, 2 ≤ x ∧ x < 20) ∧ OU wr w.heap.size (.slice a i c) T ∧ UM wr Mb i d T ∧ QL w wr P D gl 20 (keyE ++ macE) (allF 20) 1 (zeroY (20 * 512)) [] (-1) false [] M ∧ (∀ g, (Value.slice a i c).ownBlock = some g → g ∈ M ∧ g ≠ Mb) ∧ Mb ∈ M ∧ d + cnt (minF 20 T) 20 = 18) (fun _ _ v _ => len0 - (intOf v).toNat)
    case atStart => exact ⟨0, 0, none, 0, [], [Mb], by omega, rfl, rfl, rfl, (fun x hx => absurd hx (by simp)), OU.nil _ _, HM0.out, HQ7.out, (fun g hg => by cases hg), by simp, by rw [minF_nil, cnt_allF 20 (by decide)]⟩
    case round =>
      clear HQ7 HM0
      obtain ⟨i, d, a, c, T, M, hi, rfl, rfl, hTl, hTn, hO, hm, hq, hg, hMm, hd⟩ := hrel
      by_cases hlt : i < len0
      · obtain ⟨b, off, rfl, hx⟩ := (HU.out.below hq.bel).at hlt
        have hix := index_u32 b off len0 cap0 i hlt
        have iI : (i : Int) < (len0 : Int) := by omega
        have i0 : (0 : Int) ≤ (i : Int) := by omega
        generalize l0.getD i 0 = x at *
        obtain ⟨y, hy⟩ : ∃ y, 2 + x % 18 = y := ⟨_, rfl⟩
        have HY := Lib.hid (show 2 ≤ y ∧ y < 20 by omega)
        have hyI : (2 : Int) + (x : Int) % 18 = (y : Int) := by omega
        have x0 : (0 : Int) ≤ (x : Int) := by omega
        have y0 : (2 : Int) ≤ (y : Int) := by omega
        have y1 : (y : Int) < 20 := by omega
        clear hy
        obtain ⟨a', c', w8, hap, hO8, ht8, ho8⟩ := u32_app13 wr w.heap.size i c y a T hO hTl (by omega) (by have := HLN.out; omega) hq.bel.size
        have hmne : Mb ∉ (Value.slice a i c).ownBlock.toList := fun e => (hg Mb (by simpa using e)).2 rfl
        have hm8 := hm.touch ht8 hmne
        obtain ⟨M8, hq8, hsub, hown⟩ := hq.grown13 ht8 (fun g e => ⟨(hg g e).1, (hO.lt g e).1⟩) (fun r hr => absurd hr (by simp)) ho8
        have hmlt : Mb < wr.heap.size := hm.lt
        have hne8 : ∀ g, (Value.slice a' (i + 1) c').ownBlock = some g → g ∈ M8 ∧ g ≠ Mb := fun g e => ⟨hown g e, by
          rcases ho8 with h | ⟨X, h, h1, _⟩
          · rw [h] at e; exact (hg g e).2
          · rw [h] at e; cases e; omega⟩
        obtain ⟨w9, hup, hm9, ht9⟩ := um_put hm8 (by have := HLN.out; omega) y (by omega)
        have HUM := Lib.hid hm9
        have HQ9 := Lib.hid (hq8.touchM ht9 (fun k hk => by simp only [List.mem_singleton] at hk; subst hk; exact ⟨hsub _ hMm, HMB.out⟩) (fun r hr => absurd hr (by simp)))
        have HO9 := Lib.hid (hO8.touch ht9 (fun g e => by simp only [List.mem_singleton]; exact (hne8 g e).2))
        have HAP := Lib.hid hap
        have HK := Lib.hid (And.intro hTl (And.intro hTn (And.intro hlt (And.intro hne8 (And.intro (hsub _ hMm) hd)))))
        clear hm8 hq8 hm9 ht9 ht8 hO8 ho8 hap hown hne8 hsub hmne hmlt hg hMm hd hTl hTn hlt hi hO hm hq
        go_wp2_with (first
          | (at_builtin; refine wpList_append_run (o := ⟨some 50, _, _, _, _, _⟩) rfl _ _ _ _ rfl _ _ _ _ rfl rfl HAP.out ?_))
        go_roundw
        case rel => exact ⟨i + 1, _, a', c', T ++ [y], M8, by have := HK.out.2.2.1; omega, by go_num, rfl, by rw [List.length_append, HK.out.1]; rfl, (fun x hx => by rcases List.mem_append.1 hx with h | h; exact HK.out.2.1 x h; (rw [List.mem_singleton] at h; subst h; exact HY.out)), HO9.out, HUM.out, HQ9.out, HK.out.2.2.2.1, HK.out.2.2.2.2.1, cnt_min 20 T y d HY.out.1 HY.out.2 HK.out.2.2.2.2.2⟩
        case measure => simp [intOf]; have := HK.out.2.2.1; omega
      · obtain rfl : i = len0 := by omega
        have hset := ql_keep i c a T hq (us_own hO (fun x hx => by have := hTn x hx; omega) hTl.symm) (by have := HLN.out; omega) true ⟨fun _ x hx => hTn x hx, fun _ => rfl⟩
        rw [show setA 20 (allF 20) T true = (0, minF 20 T) from rfl] at hset
        have hPm : Mb ≠ P := fun e => hq.mne (e ▸ hMm)
        have HST := Lib.hid hset
        have HM := Lib.hid (And.intro hm (And.intro hPm (And.intro hMm hd)))
        clear hset hm hPm hMm hd hg hO hTl hTn hi hlt hq
        go_wp2_with fail
        refine HST.out.mono ?_
        rintro e w8 ⟨rfl, hq8, ht8⟩
        have hm8 := HM.out.1.touch ht8 (by simp only [List.mem_singleton]; exact HM.out.2.1)
        have HQ8 := Lib.hid (hq8.less (L' := []) (M' := [Mb]) (fun r hr => absurd hr (by simp)) (fun k hk => by rw [List.mem_singleton] at hk; subst hk; exact HM.out.2.2.1))
        have HU8 := Lib.hid hm8
        obtain ⟨z, hz⟩ : ∃ z, cnt (minF 20 T) 20 = z := ⟨_, rfl⟩
        have HL := Lib.hid (ql_left hq8)
        rw [hz] at HL
        have hln := fun ty => um_len hm8 ty
        have HZ := Lib.hid (show d + z = 18 by have := HM.out.2.2.2; omega)
        have zE : (z : Int) = 18 - (d : Int) := by have := HZ.out; omega
        have zI : (z : Int) ≤ 18 := by omega
        have z0 : (0 : Int) ≤ (z : Int) := by omega
        have d0 : (0 : Int) ≤ (d : Int) := by omega
        have dI : (d : Int) ≤ 18 := by have := HZ.out; omega
        have HC := Lib.hid hz
        obtain ⟨ee, hee⟩ : ∃ ee : Nat, z1 % 4 = (ee : Int) := ⟨(z1 % 4).toNat, by have := HXT.out; omega⟩
        have HEE := Lib.hid (show ee ≤ 3 by omega)
        have x10 : 0 ≤ z1 := HXT.out.1
        have x11 : z1 ≤ 255 := HXT.out.2
        have HE := Lib.hid hee
        clear hz hq8 hm8 ht8 HST HM
        go_wp2_with fail
        refine HL.out.mono ?_
        rintro e w9 ⟨rfl, hw9⟩
        subst w9
        clear HL
        go_wp2_with fail
        clear hln zE d0 dI hee
        have HZZ := Lib.hid (show z ≤ 18 by have := HZ.out; omega)
        go_loopw [14, 15, 16, 72] (fun _ _ _ v72 wr => ∃ (j d : Nat) (T : List Nat) (ws : List (Nat × List (BitVec 8))), j ≤ z + ee ∧ v72 = .int .i64 (j : Int) ∧ UM wr Mb (i + j) d T ∧ QL w wr P D gl 20 (keyE ++ macE) (minF 20 T) 1 (zeroY (20 * 512)) ws (-1) false [] [Mb] ∧ ws.length ≤ j ∧ cnt (minF 20 T) 20 = z - j) (fun _ _ _ v _ => z + ee - (intOf v).toNat)
        case atStart => exact ⟨0, d, T, [], by omega, rfl, HU8.out, HQ8.out, Nat.le_refl _, by rw [HC.out]; rfl⟩
        case round =>
          clear HQ8 HU8 HC
          obtain ⟨j, d2, T2, ws, hj, rfl, hm, hq, hws, hc⟩ := hrel
          by_cases hlt : j < z + ee
          · have jI : (j : Int) < 18 - (d : Int) + (ee : Int) := by have := HZ.out; omega
            have j0 : (0 : Int) ≤ (j : Int) := by omega
            have j1 : (j : Int) ≤ 30 := by have := HEE.out; omega
            have hmlt : Mb < wr.heap.size := hm.lt
            by_cases hjz : j < z
            · have jz : (j : Int) < 18 - (d : Int) := by have := HZ.out; omega
              rcases low_or_none (minF 20 T2) 20 (fun x hx => ⟨(min_true hx).1, (min_true hx).2.1⟩) with hnone | ⟨y, hy, hlow⟩
              · exact absurd (cnt_none (minF 20 T2) 20 (fun j _ => hnone j)) (by omega)
              · have hmt := min_true hy
                have hcd := cnt_drop hmt.2.1 hy
                have HWR := Lib.hid (show Calls Tryz.prog 21 #[.pointer (some ⟨P, 0, none⟩), .agg #[.bool true, .slice none 0 0, .slice none 0 0, .slice none 0 0]] wr fun e w' => e = .returned (.tuple #[.agg (ptrRow (ptrQ keyE 1 y leafN)).toArray, .int .i64 0]) ∧ QL w w' P D gl 20 (keyE ++ macE) (updF (minF 20 T2) y false) 1 (zeroY (20 * 512)) (ws ++ [(y, sealQ keyE 1 y leafN)]) (-1) false [] [Mb] ∧ Stay [Mb] wr w' from ql_wok y keyE macE _ _ _ leafN hq keyE_length macE_length (nr_leaf _) (nb_check leaf_check) (by decide) (by decide) leaf_check hy hlow (by omega) (by decide))
                have HY := Lib.hid (And.intro hmt (And.intro hcd (And.intro hc (And.intro hws (And.intro hlt (And.intro hjz hmlt))))))
                have HM := Lib.hid hm
                have y0 : (2 : Int) ≤ (y : Int) := by omega
                have y1 : (y : Int) < 20 := by omega
                clear hy hlow hmt hcd hc hws hlt hjz hj hq hm hmlt
                go_wp2_with (first
                  | (with_reducible refine wpList_build_run (o := ⟨some 77, _, _, _, _, _⟩) rfl 38 _ rfl #[(0, .bool true)] (by simp [Act.eval]) (.agg #[.bool true, .slice none 0 0, .slice none 0 0, .slice none 0 0]) (build_leaf _) ?_))
                refine HWR.out.mono ?_
                rintro e w10 ⟨rfl, hq10, hst⟩
                have hm10 := HM.out.move (hst Mb (by simp))
                have HQ10 := Lib.hid hq10
                have HU10 := Lib.hid hm10
                have HLT := Lib.hid (show Mb < w10.heap.size from hm10.lt)
                clear hq10 HWR hst hm10 HM
                obtain ⟨PX, hPX⟩ : ∃ z, ptrQ keyE 1 y leafN = z := ⟨_, rfl⟩
                obtain ⟨RX, hRX⟩ : ∃ z, (ptrRow PX).toArray = z := ⟨_, rfl⟩
                have HPX := Lib.hid hPX
                have HRX := Lib.hid hRX
                have sa1 := SP1.out PX
                have sa2 := SP2.out PX
                have sa3 := SP3.out PX
                rw [hRX] at sa1 sa2 sa3
                have SAPX1 := Lib.hid sa1
                have SAPX2 := Lib.hid sa2
                have SAPX3 := Lib.hid sa3
                rw [hPX, hRX]
                clear hPX hRX sa1 sa2 sa3
                go_upto_region 23 with (first
                  | (with_reducible refine wpList_store_row (o := ⟨none, .store _ (.tmp 15) _, _, _, _, _⟩) rfl 43 _ _ rfl w10.heap.size RX rfl rfl 43 ZP (heap_alloc_new w10 _) SAPX1.out SAPX2.out SAPX3.out ?_))
                generalize hWs : World.setRow _ w10.heap.size _ = w11
                have hqs := HQ10.out.fresh ZP RX 43 w11 hWs.symm
                have hbs := (fresh13 w10 ZP RX 43 w11 hWs.symm).2
                have HU11 := Lib.hid (HU10.out.below hbs)
                have HQ11 := Lib.hid hqs
                have HSw11 := Lib.hid hbs
                clear hWs hqs hbs HQ10 HU10
                generalize w10.heap.size = X15 at *
                have hx := (show w11.heap[X15]? = some (.cells RX 43 (0, 0)) from HQ11.out.row 0 _ rfl)
                rw [← HRX.out] at hx
                obtain ⟨x0, _, _⟩ := ptr_at hx
                obtain ⟨gx0, _, _⟩ := ptrQ_parts (kk := keyE) (b := 1) (a := y) (nd := leafN) (by have := HY.out.1; omega) (by decide)
                rw [HPX.out] at gx0
                rw [gx0] at x0
                clear hx gx0
                have hlk := um_look HU11.out y (by have := HY.out.1; omega)
                rw [decide_eq_false HY.out.1.2.2] at hlk
                obtain ⟨w12, hup, hm12, ht12⟩ := um_put HU11.out (by have := HY.out; have := HLN.out; have := HEE.out; have := HZZ.out; omega) y (by have := HY.out.1; omega)
                have HU12 := Lib.hid hm12
                have HQ12 := Lib.hid (((HQ11.out.less (L' := []) (M' := [Mb]) (fun r hr => absurd hr (by simp)) (fun k hk => hk)).touchM ht12 (fun k hk => ⟨hk, by rw [List.mem_singleton] at hk; subst hk; exact HMB.out⟩) (fun r hr => absurd hr (by simp))))
                clear hm12 ht12 HU11 HQ11
                go_wp2_with fail
                go_roundw
                case rel => exact ⟨j + 1, _, T2 ++ [y], ws ++ [(y, sealQ keyE 1 y leafN)], by have := HY.out; omega, by go_num, HU12.out, by rw [minF_add]; exact HQ12.out, by rw [List.length_append]; have := HY.out.2.2.2.1; simp; omega, by rw [minF_add]; have := HY.out; omega⟩
                case measure => simp [intOf]; have := HY.out; omega
            · have jz : ¬ (j : Int) < 18 - (d : Int) := by have := HZ.out; omega
              have hnone : ∀ a, minF 20 T2 a = false := by
                rcases low_or_none (minF 20 T2) 20 (fun x hx => ⟨(min_true hx).1, (min_true hx).2.1⟩) with hnone | ⟨y, hy, hlow⟩
                · exact hnone
                · have := cnt_pos (min_true hy).2.1 hy; omega
              have HWR := Lib.hid (ql_wfull _ _ _ leafN hq (nr_leaf _) (nb_check leaf_check) (by decide) leaf_check hnone)
              have HY := Lib.hid (And.intro hc (And.intro hws (And.intro hlt (And.intro hjz hmlt))))
              have HM := Lib.hid hm
              have HQ := Lib.hid hq
              clear hnone hc hws hlt hjz hj hq hm hmlt
              have SAZ1 := SP1.out zeroPtr
              have SAZ3 := SP3.out zeroPtr
              rw [HZP.out] at SAZ1 SAZ3 HWR
              have SAZ1 := Lib.hid SAZ1
              have SAZ3 := Lib.hid SAZ3
              go_wp2_with (first
                | (with_reducible refine wpList_build_run (o := ⟨some 77, _, _, _, _, _⟩) rfl 38 _ rfl #[(0, .bool true)] (by simp [Act.eval]) (.agg #[.bool true, .slice none 0 0, .slice none 0 0, .slice none 0 0]) (build_leaf _) ?_))
              refine HWR.out.mono ?_
              rintro e w10 ⟨rfl, hb10⟩
              have HQ10 := Lib.hid (HQ.out.below hb10)
              have HU10 := Lib.hid (HM.out.below hb10)
              have HLT := Lib.hid (show Mb < w10.heap.size from HU10.out.lt)
              clear hb10 HWR HM HQ
              go_upto_region 23 with (first
                | (with_reducible refine wpList_store_row (o := ⟨none, .store _ (.tmp 15) _, _, _, _, _⟩) rfl 43 _ _ rfl w10.heap.size ZP rfl rfl 43 ZP (heap_alloc_new w10 _) SAZ1.out rfl SAZ3.out ?_))
              generalize hWs : World.setRow _ w10.heap.size _ = w11
              have hqs := HQ10.out.fresh ZP ZP 43 w11 hWs.symm
              have hbs := (fresh13 w10 ZP ZP 43 w11 hWs.symm).2
              have HU11 := Lib.hid (HU10.out.below hbs)
              have HQ11 := Lib.hid hqs
              have HSw11 := Lib.hid hbs
              clear hWs hqs hbs HQ10 HU10
              generalize w10.heap.size = X15 at *
              have hx := (show w11.heap[X15]? = some (.cells ZP 43 (0, 0)) from HQ11.out.row 0 _ rfl)
              rw [← HZP.out] at hx
              obtain ⟨x0, _, _⟩ := ptr_at hx
              rw [show zeroPtr.ad = ((0 : Nat) : Int) from rfl] at x0
              clear hx
              obtain ⟨w12, hup, hm12, ht12⟩ := um_put HU11.out (by have := HY.out; have := HLN.out; have := HEE.out; have := HZZ.out; omega) 0 (by decide)
              rw [show ((0 : Nat) : Int) = 0 from rfl] at hup x0
              have HU12 := Lib.hid hm12
              have HQ12 := Lib.hid (((HQ11.out.less (L' := []) (M' := [Mb]) (fun r hr => absurd hr (by simp)) (fun k hk => hk)).touchM ht12 (fun k hk => ⟨hk, by rw [List.mem_singleton] at hk; subst hk; exact HMB.out⟩) (fun r hr => absurd hr (by simp))))
              clear hm12 ht12 HU11 HQ11
              go_wp2_with fail
              go_roundw
              case rel => exact ⟨j + 1, _, T2 ++ [0], ws, by have := HY.out; omega, by go_num, HU12.out, by rw [minF_low 20 T2 0 (by decide)]; exact HQ12.out, by have := HY.out; omega, by rw [minF_low 20 T2 0 (by decide)]; have := HY.out; omega⟩
              case measure => simp [intOf]; have := HY.out; omega
          · have hje : j = z + ee := by omega
            have HQ := Lib.hid hq
            have HLF := Lib.hid (ql_left hq)
            rw [hc, show ((z - j : Nat) : Int) = 0 by omega] at HLF
            have jI : 18 - (d : Int) + (ee : Int) ≤ (j : Int) := by have := HZ.out; omega
            clear hje
            clear hm hq hc hws hlt hj
            go_wp2_with fail
            refine HLF.out.mono ?_
            rintro e w10 ⟨rfl, hw10⟩
            subst w10
            clear HLF
            go_wp2_with fail
            go_ret
            exact ⟨rfl, HQ.out.bel⟩
set_option maxRecDepth 100000 in
theorem lifted (os : Os) (started : os.Started) (H : Type) (enc : TypeId × Value → H) :
    ReturnsInHanded {} Tryz.checked os 6 .any (fun w args => (Rows.poolFillsSpec.pre enc Tryz.prog Tryz.f6 [] false w args ∧ laidMetH Tryz.prog [("banyan/sha.roundNumbers", Rows.laid_banyan_sha_roundNumbers), ("math/bits.deBruijn64tab", Rows.laid_math_bits_deBruijn64tab)] w) ∧ sizedMet enc Tryz.prog Tryz.f6 (OpenSpec.ofChange Rows.poolFillsSpec) false w args)
      (Rows.poolFillsSpec.post enc Tryz.prog Tryz.f6 false true false false) := by
  refine returnsInHanded_of_change_and (C := Tryz.checked) (X := fun w _ => laidMetH Tryz.prog [("banyan/sha.roundNumbers", Rows.laid_banyan_sha_roundNumbers), ("math/bits.deBruijn64tab", Rows.laid_math_bits_deBruijn64tab)] w) (fun _ _ _ hh h => h.of_heap hh) own2 started (by kernel_rfl) Tryz.func6
    (ChangeSpec.witness_shaped (enc := enc) (C := Tryz.checked) (os := os) (X := fun w _ => laidMetH Tryz.prog [("banyan/sha.roundNumbers", Rows.laid_banyan_sha_roundNumbers), ("math/bits.deBruijn64tab", Rows.laid_math_bits_deBruijn64tab)] w) false (World.doorLaid Tryz.prog 400 os) #[.slice none 0 0, .int .u8 0] 8 rfl (World.shaped_of_RefB (by kernel_rfl) (by kernel_rfl)) (by kernel_rfl) (by kernel_rfl) (by kernel_rfl) (both_door os _)) ?_
  intro W base args ds gs before hval0 hW _ hsz0 hL _
  have hval : ∀ (j : Nat) t v, Tryz.f6.params[j]? = some t → args[j]? = some v → Value.okWide Tryz.prog W .any base t v := hval0
  have hsz : (DataW.weightsEach Tryz.prog (Tryz.f6.params.toList ++ Rows.poolFillsSpec.plain.varTypes Tryz.prog) (ds ++ gs)).all (· ≤ reachBytes) = true := hsz0
  clear hsz0
  have hW' := hW
  obtain ⟨p, q, hA0, hV, rfl, hfz, hnd⟩ := hW
  have hA : DataW.TrodAll enc Tryz.prog W 0 (fun _ => true) true Tryz.f6.params.toList args.toList ds p := hA0
  rw [Tryz.params6] at hA hval hsz
  obtain ⟨v0, vs0, d0, ds0, p0, q0, hargs, rfl, rfl, h0, r0⟩ := trodAll_cons hA
  obtain ⟨v1, vs1, d1, ds1, p1, q1, rfl, rfl, rfl, h1, r1⟩ := trodAll_cons r0
  obtain ⟨rfl, rfl, rfl⟩ := trodAll_nil r1
  obtain rfl : args = #[v0, v1] := by cases args; simp_all
  obtain ⟨rfl, rfl⟩ := trodVars_none hV
  have k0 := h0
  have lt0 : ∀ x ∈ p0, x.block < W.heap.size := by obtain ⟨m, hm⟩ := k0; exact DataW.trod_lt m _ _ _ hm
  have k1 := h1
  have lt1 : ∀ x ∈ p1, x.block < W.heap.size := by obtain ⟨m, hm⟩ := k1; exact DataW.trod_lt m _ _ _ hm
  obtain ⟨l0, a0, len0, cap0, rfl, us0, cp0, bg0⟩ := par_u32s (j := 0) (hval 0 40 v0 rfl rfl) h0 hsz rfl rfl
  obtain ⟨z1, rfl, za1, zb1⟩ := par_int (j := 1) .u8 _ _ Tryz.underlying5 wf_u8 (hval 1 5 v1 rfl rfl) h1 hsz rfl rfl
  have hKT := both_of_laid hL
  clear hA0 hval0
  refine (walk W l0 a0 len0 cap0 us0 cp0 bg0 z1 za1 zb1 hKT.1 hKT.2).mono fun e W' ⟨he, bel⟩ => ?_
  subst he
  exact ⟨_, rfl, _, _, _, [], _, [], hW', trodAll_mk1 (shut_bool Tryz.underlying4 _), (trodAll_cons_mk (Below.trod laidOut2 (by kernel_rfl) (of_decide_eq_true (by kernel_rfl)) k0 bel lt0) (trodAll_cons_mk (Below.trod laidOut2 (by kernel_rfl) (of_decide_eq_true (by kernel_rfl)) k1 bel lt1) trodAll_mk0)), rfl, bel.frame _, fun h => by cases h⟩

theorem over : Rows.PoolFillsSaid :=
  OpenClaim.holds_of_wide 6 Tryz.f6 rfl rfl rfl rfl rfl rfl rfl ⟨rfl, rfl, rfl, rfl, rfl⟩ rfl rfl rfl rfl rfl (by kernel_rfl) Tryz.func6 (by kernel_rfl)
    (of_decide_eq_true (by kernel_rfl)) (by unfold Func.isWrapper; first | (rw [if_pos (by decide +kernel)]; kernel_rfl) | (rw [if_neg (by decide +kernel)]; exact ⟨rfl, rfl⟩))
    (fun os started H enc _ => lifted os started H enc)

/-- The statement. -/
theorem proved : Rows.PoolFillsCardSaid :=
  Claim7.holds_tied_plain_at .later [] [.data, .data] true (true, "5b78e827fed50dbb0ffe988080043bf673c046d943e7f5f2a589e3d6361558c0") false
    over (fun _ h => by cases h) (by kernel_rfl) (fun _ h => by cases h) poolFills_row_tie rfl ⟨rfl, rfl⟩ (by kernel_rfl) rfl
    (fun f fn hf hfn => by
      obtain rfl : f = 6 := Option.some.inj ((show Tryz.prog.funcNamed "banyan/banyanlaw13.PoolFills" = some 6 by kernel_rfl).symm.trans hf) |>.symm
      obtain rfl : fn = Tryz.f6 := (Option.some.inj (Tryz.func6.symm.trans hfn)).symm
      exact ⟨by kernel_rfl, fun j t ht => by
        rw [Tryz.params6] at ht
        have hm : t ∈ [40, 5] := by simpa using Array.mem_of_getElem? ht
        have hall : ([40, 5].all fun u => !Tryz.prog.wantsStandIn u) = true := by kernel_rfl
        exact (show Tryz.prog.wantsStandIn t = false by simpa using List.all_eq_true.1 hall t hm)⟩)
    (by kernel_rfl)
#print axioms proved
end Go.Proofs.YtgckapolpifbkaaGreatDoor.poolFills
