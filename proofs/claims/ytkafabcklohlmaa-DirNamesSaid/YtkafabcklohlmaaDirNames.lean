/-
  'DirNames' returns true at every input, and each argument reads behind the call as it read before. Conditions: none.
-/
import Derived.Test.YtkafabcklohlmaaRows
import Derived.Test.YtkafabcklohlmaaAes0
import Derived.Test.YtkafabcklohlmaaIo
import Derived.Test.YtkafabcklohlmaaIq
namespace Go.Proofs.Ytkafabcklohlmaa.dirNames
open Go.ChangeShapes Go.WideShapes Go.ChangeAt Go.RowKit
set_option linter.unusedVariables false

/-- A new one is found. -/
theorem find_with {L : List SetV} {s : SetV} (hv : VL (withL L s)) (hn : s.nm ∉ nms L) : findD (withL L s) s.nm = (s, 0) := find_mem hv ((mem_with hn).2 (.inl rfl))

set_option maxRecDepth 100000 in
set_option maxHeartbeats 3200000 in
theorem walk (w : World) (x0 : List ActD) (a0 : Option Addr) (n0 c0 : Nat) (wh0 : Int) (nm0 ot0 : ByteArray) (qf0 : SlR RActD 3 w x0 a0 n0 c0 ∧ (0 ≤ wh0 ∧ wh0 ≤ 255) ∧ nm0.size ≤ 140737488351232 ∧ ot0.size ≤ 140737488351232) :
    Calls Try.prog 8 #[.agg #[.slice a0 n0 c0, .int .u8 wh0, .string nm0, .string ot0]] w fun e w' => e = .returned (.bool true) ∧ Below w.heap.size w w' := by
  obtain ⟨sl0, hwh, hzn, hzo⟩ := qf0
  have HZ0 := Lib.hid (And.intro hwh (And.intro hzn hzo))
  have HAL0 := Lib.hid (fun W => alive15 W)
  obtain ⟨hat, hok⟩ := ad_of sl0
  have HLEN := Lib.hid sl0.len
  have HCAP := Lib.hid (And.intro sl0.cap sl0.big)
  have HAT := Lib.hid hat
  have HOK := Lib.hid hok
  have nBI : (n0 : Int) ≤ 140737488351232 := by have := sl0.cap; have := sl0.big; omega
  have n0I : (0 : Int) ≤ (n0 : Int) := by omega
  have zNI : (nm0.size : Int) ≤ 140737488351232 := by omega
  have zOI : (ot0.size : Int) ≤ 140737488351232 := by omega
  have hnb := ba15 w (.cells #[.slice a0 n0 c0, .int .u8 wh0, .string nm0, .string ot0] 54)
  have hnn := new15 w (.cells #[.slice a0 n0 c0, .int .u8 wh0, .string nm0, .string ot0] 54)
  have HBX := Lib.hid hnb
  have HNX := Lib.hid hnn
  clear sl0 hat hok hnb hnn hzn hzo hwh
  obtain ⟨ZS, hzs⟩ := setR zeroSet
  have hz := zero_set
  rw [hzs.eq] at hz
  have HZ := Lib.hid hzs
  clear hzs
  go_enter Try.func8, Try.ntmps8
  go_upto_region 1 with fail
  generalize World.alloc w (.cells #[.slice a0 n0 c0, .int .u8 wh0, .string nm0, .string ot0] 54) = wb at *
  go_wp2_with fail
  refine (HAL0.out _).mono ?_
  rintro e w1 ⟨rfl, hb1⟩
  have HB1 := Lib.hid (bt15 HBX.out hb1)
  have hnx := (hb1.block _ (lt_of_block HNX.out)).trans HNX.out
  have c0 := fun p : BelowBy w1 => by_cell (cell_of_row w1 w.heap.size 0 _ _ _ hnx) p
  have c1 := fun p : BelowBy w1 => by_cell (cell_of_row w1 w.heap.size 1 _ _ _ hnx) p
  have c2 := fun p : BelowBy w1 => by_cell (cell_of_row w1 w.heap.size 2 _ _ _ hnx) p
  have c3 := fun p : BelowBy w1 => by_cell (cell_of_row w1 w.heap.size 3 _ _ _ hnx) p
  clear hb1 HAL0 hnx HNX HBX
  go_upto_region 3 with fail
  try simp only [Act.put]
  refine wp_region_below (by kernel_rfl) (by kernel_rfl) ?_
  repeat (go_big_quiet_step (fail))
  refine wpQuiet_nil ?_
  intro _ hw'
  obtain ⟨pp, hw''⟩ := hw'
  subst hw''
  have HB2 := Lib.hid (bt15 HB1.out pp.bel)
  generalize pp.now = w2 at *
  clear pp c0 c1 c2 c3 HB1
  by_cases hbig : 60 < n0
  · have bI : (60 : Int) < (n0 : Int) := by omega
    have bD : decide ((60 : Int) < (n0 : Int)) = true := decide_eq_true bI
    clear hbig
    go_wp2_with fail
    go_ret
    exact ⟨rfl, HB2.out⟩
  · have bI : ¬ ((60 : Int) < (n0 : Int)) := by omega
    have bD : decide ((60 : Int) < (n0 : Int)) = false := decide_eq_false bI
    have HSM := Lib.hid (show n0 ≤ 60 by omega)
    have s0 : (0 : Int) ≤ (nm0.size : Int) := by omega
    have s1 : (0 : Int) ≤ (ot0.size : Int) := by omega
    clear hbig
    by_cases h100 : nm0.size + ot0.size ≤ 100
    · have hI : ¬ ((100 : Int) < (nm0.size : Int) + (ot0.size : Int)) := by omega
      clear h100
      go_wp2_with fail
      go_loopw [7, 9, 10, 11, 52] (fun v7 _ _ _ v52 wr => ∃ (i : Nat) (L : List SetV), i ≤ n0 ∧ v52 = .int .i64 (i : Int) ∧ OWS wr w.heap.size v7 L ∧ GD L i ∧ Below w.heap.size w wr) (fun _ _ _ _ v _ => n0 - (intOf v).toNat)
      case atStart => exact ⟨0, [], Nat.zero_le _, rfl, OWS.nil _ _, GD.nil, HB2.out⟩
      case round =>
        clear HB2
        obtain ⟨i, L, hi, rfl, hL, hg, hb⟩ := hrel
        have HB := Lib.hid hb
        have HL := Lib.hid hL
        have HG := Lib.hid hg
        clear hb hL hg
        by_cases hlt : i < n0
        · obtain ⟨q, hq⟩ : ∃ q, x0[i]? = some q := ⟨_, List.getElem?_eq_getElem (by rw [HLEN.out]; exact hlt)⟩
          obtain ⟨b, off, rfl, hrg⟩ := (HAT.out.below HB.out).at_ i q hq
          obtain ⟨cc0, cc1, cc2⟩ := act_cellsD hrg
          have hix := index_act15 b off n0 c0 i hlt
          have HLT := Lib.hid hlt
          have HQO := Lib.hid (HOK.out q (List.mem_of_getElem? hq))
          have HQ := Lib.hid hq
          have iI : (i : Int) < (n0 : Int) := by omega
          have i0 : (0 : Int) ≤ (i : Int) := by omega
          clear hi hlt hq hrg
          obtain ⟨kd, qa, qb⟩ := q
          dsimp only at cc0 cc1 cc2
          go_upto_region 10 with fail
          generalize hwi : World.alloc wr (.cells #[.int .i64 kd, .string qa, .string qb] 27) = wi
          have hbi := ba15 wr (.cells #[.int .i64 kd, .string qa, .string qb] 27)
          have hni := new15 wr (.cells #[.int .i64 kd, .string qa, .string qb] 27)
          rw [hwi] at hbi hni
          have HBi := Lib.hid (bt15 HB.out hbi)
          have HNI := Lib.hid hni
          have HSI := Lib.hid hbi
          have j0 := cell_of_row wi wr.heap.size 0 _ _ _ hni
          have j1 := cell_of_row wi wr.heap.size 1 _ _ _ hni
          have j2 := cell_of_row wi wr.heap.size 2 _ _ _ hni
          have HLi := Lib.hid (HL.out.below hbi)
          clear hwi hbi hni cc0 cc1 cc2 hix
          generalize hXX : wr.heap.size = X at *
          clear hXX
          have HDO := Lib.hid (pdo15 _ L kd qa qb wi HLi.out.ls (by have := HG.out.n; have := HLT.out; have := HSM.out; omega) HG.out.v.okk HQO.out.za HQO.out.zb)
          go_wp2_with fail
          refine HDO.out.mono ?_
          rintro e wd ⟨vx, rfl, hox, hbd⟩
          have HX := Lib.hid (hox.up HBi.out.size)
          have HBD := Lib.hid (bt15 HBi.out hbd)
          have HLD := Lib.hid (HLi.out.below hbd)
          clear hbd hox HDO HLi HNI HSI j0 j1 j2
          by_cases he : (doD L kd qa qb).1 = 0
          · have HNX := Lib.hid (HG.out.next he)
            rw [he]
            clear he
            go_wp2_with fail
            go_roundw
            case rel => exact ⟨i + 1, (doD L kd qa qb).2, by have := HLT.out; omega, by go_num, HX.out, HNX.out, HBD.out⟩
            case measure => simp [intOf]; have := HLT.out; omega
          · have HNX := Lib.hid HG.out.up
            generalize (doD L kd qa qb).1 = E at *
            have h1 : (E == 0) = false := by simpa using he
            have h2 : decide (E = 0) = false := by simpa using he
            have h3 : (E != 0) = true := by simpa using he
            go_wp2_with fail
            go_roundw
            case rel => exact ⟨i + 1, L, by have := HLT.out; omega, by go_num, HLD.out, HNX.out, HBD.out⟩
            case measure => simp [intOf]; have := HLT.out; omega
        · go_upto_region 14 with fail
          have HNN := Lib.hid (show L.length ≤ 60 by have := HSM.out; have := HG.out.n; omega)
          have HV := Lib.hid HG.out.v
          clear hi hlt HLEN HCAP HAT HOK nBI n0I HSM bD
          obtain ⟨av, cv, rfl, hcv, hsome⟩ := HL.out.some_
          obtain ⟨n, hn⟩ : ∃ n, L.length = n := ⟨_, rfl⟩
          have HN := Lib.hid hn
          rw [hn] at HNN hcv hsome ⊢
          have nI : (n : Int) ≤ 60 := by have := HNN.out; omega
          have nn0 : (0 : Int) ≤ (n : Int) := by omega
          by_cases hz0 : n = 0
          · have h0 : ((n : Int) == 0) = true := by simp [hz0]
            go_wp2_with fail
            go_ret
            exact ⟨rfl, HB.out⟩
          · obtain ⟨g, rfl⟩ := hsome (by omega)
            have HL2 := Lib.hid (show OWS wr w.heap.size (.slice (some ⟨g, 0, none⟩) n cv) L from by have h := HL.out; rw [HN.out] at h; exact h)
            have hnz : ¬ ((n : Int) = 0) := by omega
            have hnb : ((n : Int) == 0) = false := by simpa using hz0
            obtain ⟨kp, hkp⟩ : ∃ t : Nat, wh0 = (t : Int) := ⟨wh0.toNat, by have := HZ0.out.1; omega⟩
            subst hkp
            obtain ⟨k, hk⟩ : ∃ k, kp % n = k := ⟨_, rfl⟩
            have hkn : k < n := by rw [← hk]; exact Nat.mod_lt _ (by omega)
            obtain ⟨s, hs⟩ : ∃ s, L[k]? = some s := ⟨_, List.getElem?_eq_getElem (by rw [HN.out]; exact hkn)⟩
            obtain ⟨hrg, hgw, hgl⟩ := HL2.out.cell hs
            have hix := index_set g 0 n cv k hkn
            simp only [Nat.zero_add] at hix
            obtain ⟨AR, har⟩ := setR s
            have HAR := Lib.hid har
            have HS := Lib.hid hs
            have HK := Lib.hid hkn
            have HGL := Lib.hid (And.intro hgw hgl)
            have HRG := Lib.hid hrg
            have hmod : (kp : Int) % (n : Int) = (k : Int) := by rw [← hk]; rfl
            have htm : (kp : Int).tmod (n : Int) = (k : Int) := by rw [Int.tmod_eq_emod_of_nonneg (by omega)]; exact hmod
            have hnz2 : ¬ n = 0 := hz0
            have kI : (k : Int) < (n : Int) := by omega
            have k0 : (0 : Int) ≤ (k : Int) := by omega
            have kpI : (kp : Int) ≤ 255 := by have := HZ0.out.1.2; omega
            have kp0 : (0 : Int) ≤ (kp : Int) := by omega
            have hcw : IntKind.i64.wrap (kp : Int) = (kp : Int) := IntWalk.i64_in _ (by omega)
            clear hk hkn hs hrg hgw hgl hcv hsome hn hz0 HL
            go_upto_region 16 with fail
            go_upto_region 17 with (first
              | (with_reducible refine ld_set (op := ⟨some 76, _, _, _, _, _⟩) rfl _ rfl g (k * 37) rfl s _ HAR.out.eq HRG.out ?_)
              | (with_reducible refine wpList_store_row (o := ⟨none, .store _ (.tmp 12) _, _, _, _, _⟩) rfl 38 _ _ rfl wr.heap.size AR rfl rfl 38 ZS (heap_alloc_new wr _) HAR.out.sz (HZ.out.same HAR.out) HAR.out.one ?_))
            generalize hWs : World.setRow _ wr.heap.size _ = w3
            have hst := fresh15 wr ZS AR 38 w3 hWs.symm
            have HR3 := Lib.hid hst.1
            have HB3 := Lib.hid (bt15 HB.out hst.2)
            have HL3 := Lib.hid (HL2.out.below hst.2)
            have HXG := Lib.hid (show g ≠ wr.heap.size from Nat.ne_of_lt HGL.out.2)
            have HXW := Lib.hid HB.out.size
            clear hWs hst HL2 HRG har
            generalize wr.heap.size = X at *
            have hbp := build_exR
            obtain ⟨PR, hPR⟩ : ∃ z, (ptrRow exR).toArray = z := ⟨_, rfl⟩
            have HPR := Lib.hid hPR
            rw [hPR] at hbp
            have HTH := Lib.hid (show w3.there X 3 PR.size from there_row HR3.out (by rw [← HPR.out, HAR.out.n]; simp [ptrRow_length]))
            have HP1 := Lib.hid (show (Try.prog.info? 36).map (·.size) = some PR.size from HPR.out ▸ size_ptrA exR)
            have HP2 := Lib.hid (show PR.all (·.oneCell') = true from HPR.out ▸ ptrRow_one exR)
            have HR4 := Lib.hid (rt_put HR3.out HAR.out exR)
            obtain ⟨B, hB⟩ := setR ⟨s.nm, s.fr, s.sn, exR⟩
            have HBR := Lib.hid hB
            rw [hB.eq] at HR4
            have HB4 := Lib.hid (below_sets X (ptrRow exR) 3 _ _ _ HB3.out HXW.out)
            have HL4 := Lib.hid (show OWS (w3.setCells X 3 (ptrRow exR)) w.heap.size (.slice (some ⟨g, 0, none⟩) n cv) L from HL3.out.move (fun g' hg => by obtain rfl : g = g' := Option.some.inj hg; exact heap_sets_other X (ptrRow exR) 3 w3 _ HXG.out))
            have hpl : PR.toList = ptrRow exR := by rw [← HPR.out]
            clear hPR hB
            go_upto_region 18 with (first
              | (with_reducible refine wpList_build_run (o := ⟨some 77, _, _, _, _, _⟩) rfl 36 _ rfl #[(0, .int .u32 9), (1, .int .u64 3)] (by simp [Act.eval]) (.agg PR) (hbp _) ?_)
              | (with_reducible refine wpList_store_mid (op := ⟨none, .store _ (.tmp 78) _, _, _, _, _⟩) rfl 36 _ _ rfl X 3 PR rfl rfl HTH.out HP1.out HP2.out ?_))
            rw [hpl]
            generalize w3.setCells X 3 (ptrRow exR) = w4 at *
            clear hbp hpl HTH HP1 HP2 HR3 HB3 HL3
            have hrx : w4.rangeAt X 0 (setRow ⟨s.nm, s.fr, s.sn, exR⟩) := by have h := HR4.out; rw [← HBR.out.eq] at h; exact range_of_row h
            obtain ⟨hL5, hth, hgw, hnl⟩ := ows_put HL4.out (k := k) (by rw [HN.out]; exact HK.out) ⟨s.nm, s.fr, s.sn, exR⟩
            have HTH := Lib.hid (show w4.there g (k * 37) B.size by rw [HBR.out.n]; exact hth)
            have HL5 := Lib.hid hL5
            have HRX := Lib.hid hrx
            have HB5 := Lib.hid (below_sets g (setRow ⟨s.nm, s.fr, s.sn, exR⟩) (k * 37) _ _ _ HB4.out hgw)
            have HR5 := Lib.hid ((heap_sets_other g (setRow ⟨s.nm, s.fr, s.sn, exR⟩) (k * 37) w4 X HXG.out.symm).trans HR4.out)
            have hbl : B.toList = (setRow ⟨s.nm, s.fr, s.sn, exR⟩) := by rw [← HBR.out.eq]
            clear hL5 hth hgw hrx hnl
            try simp only [Act.put]
            refine wp_region_noPanic ?_
            refine wp_region_held_drew (S := fun W => W.rangeAt X 0 (setRow ⟨s.nm, s.fr, s.sn, exR⟩)) (by kernel_rfl) (range_below HRX.out (Below.refl _ w4).drew) (fun hHeld => ?_)
            refine wpAnyH_take (i := 0) (oi := ⟨some 79, _, _, _, _, _⟩) (v := ?_) rfl (by kernel_rfl) (by decide +kernel) (by decide +kernel) (fun _ _ _ h => h) (Or.inl ⟨by rfl, ?_⟩) (by assumption) ?_
            rotate_left 1
            · (intro w' hSw; go_simp; try with_reducible rfl)
            try simp only [Act.put, List.setIfInBounds_toArray, List.set_cons_zero, List.set_cons_succ]
            refine wpAnyH_take (i := 1) (oi := ⟨some 80, _, _, _, _, _⟩) (v := ?_) rfl (by kernel_rfl) (by decide +kernel) (by decide +kernel) (fun _ _ _ h => h) (Or.inl ⟨by rfl, ?_⟩) (by assumption) ?_
            rotate_left 1
            · (intro w' hSw; go_simp; try with_reducible rfl)
            try simp only [Act.put, List.setIfInBounds_toArray, List.set_cons_zero, List.set_cons_succ]
            refine wpAnyH_take (i := 2) (oi := ⟨some 81, _, _, _, _, _⟩) (v := ?_) rfl (by kernel_rfl) (by decide +kernel) (by decide +kernel) (fun _ _ _ h => h) (Or.inl ⟨by rfl, ?_⟩) (by assumption) ?_
            rotate_left 1
            · (intro w' hSw; go_simp; try with_reducible rfl)
            try simp only [Act.put, List.setIfInBounds_toArray, List.set_cons_zero, List.set_cons_succ]
            refine wpAnyH_take (i := 3) (oi := ⟨some 82, _, _, _, _, _⟩) (v := ?_) rfl (by kernel_rfl) (by decide +kernel) (by decide +kernel) (fun _ _ _ h => h) (Or.inl ⟨by rfl, ?_⟩) (by assumption) ?_
            rotate_left 1
            · (intro w' hSw; go_simp; try with_reducible rfl)
            try simp only [Act.put, List.setIfInBounds_toArray, List.set_cons_zero, List.set_cons_succ]
            refine wpAnyH_take (i := 4) (oi := ⟨some 83, _, _, _, _, _⟩) (v := ?_) rfl (by kernel_rfl) (by decide +kernel) (by decide +kernel) (fun _ _ _ h => h) (Or.inl ⟨by rfl, ?_⟩) (by assumption) ?_
            rotate_left 1
            · (intro w' hSw; go_simp; try with_reducible rfl)
            try simp only [Act.put, List.setIfInBounds_toArray, List.set_cons_zero, List.set_cons_succ]
            refine wpAnyH_take (i := 5) (oi := ⟨some 84, _, _, _, _, _⟩) (v := ?_) rfl (by kernel_rfl) (by decide +kernel) (by decide +kernel) (fun _ _ _ h => h) (Or.inl ⟨by rfl, ?_⟩) (by assumption) ?_
            rotate_left 1
            · (intro w' hSw; go_simp; try with_reducible rfl)
            try simp only [Act.put, List.setIfInBounds_toArray, List.set_cons_zero, List.set_cons_succ]
            refine wpAnyH_take (i := 6) (oi := ⟨some 85, _, _, _, _, _⟩) rfl (by kernel_rfl) (by decide +kernel) (by decide +kernel) (fun _ _ _ h => h) (yieldsIf_load_mid (by rfl) _ _ rfl X 0 rfl (setRow ⟨s.nm, s.fr, s.sn, exR⟩) _ (fun w' h => h) Try.underlying38 rfl (size_set _)) (by assumption) ?_
            try simp only [Act.put, List.setIfInBounds_toArray, List.set_cons_zero, List.set_cons_succ]
            rw [HBR.out.eq]
            refine wpAnyH_take (i := 7) (oi := ⟨some 86, _, _, _, _, _⟩) (v := ?_) rfl (by kernel_rfl) (by decide +kernel) (by decide +kernel) (fun _ _ _ h => h) (Or.inl ⟨by rfl, ?_⟩) (by assumption) ?_
            rotate_left 1
            · (intro w' hSw; go_simp; try with_reducible rfl)
            try simp only [Act.put, List.setIfInBounds_toArray, List.set_cons_zero, List.set_cons_succ]
            refine wpAnyH_ready (rs := [8]) (by decide +kernel) (by simp) ?_
            refine AllReadyH.cons rfl (fun K hK => ?_) AllReadyH.nil
            refine wp_store_mid (op := ⟨none, .store _ (.tmp 86) _, _, _, _, _⟩) 38 _ _ rfl g (k * 37) B rfl rfl ((World.there_drew _ _ _ _).2 HTH.out) HBR.out.sz HBR.out.one ?_
            rw [hbl]
            refine hK.out _ _ (World.rangeAt_setCells_apart (range_below HRX.out (Below.refl _ w4).drew) g (k * 37) _ (.inl HXG.out.symm)) (fun hHeld => ?_)
            clear hK K
            try simp only [Act.put]
            refine wpAnyH_done (by decide +kernel) ?_ _
            refine NoPanic.normal ?_
            have HL6 := Lib.hid (show OWS (World.setCells w4.drew g (k * 37) (setRow ⟨s.nm, s.fr, s.sn, exR⟩)) w.heap.size (.slice (some ⟨g, 0, none⟩) n cv) (L.set k ⟨s.nm, s.fr, s.sn, exR⟩) from HL5.out.move (fun g' hg => sets_drew g (setRow ⟨s.nm, s.fr, s.sn, exR⟩) (k * 37) w4 g'))
            have HB6 := Lib.hid (below_sets g (setRow ⟨s.nm, s.fr, s.sn, exR⟩) (k * 37) _ _ _ HB4.out.drew HGL.out.1)
            have HR6 := Lib.hid ((sets_drew g (setRow ⟨s.nm, s.fr, s.sn, exR⟩) (k * 37) w4 X).trans HR5.out)
            generalize World.setCells w4.drew g (k * 37) _ = w6 at *
            clear HL5 HB5 HR5 HL4 HB4 HR4 HRX HTH hbl hmod htm hnz2 hcw hix hnb hnz
            obtain ⟨M, hM⟩ : ∃ M, L.set k ⟨s.nm, s.fr, s.sn, exR⟩ = M := ⟨_, rfl⟩
            have HVM := Lib.hid (show VL M from hM ▸ vl_set HV.out HS.out may_exR)
            obtain ⟨t, ht⟩ : ∃ t : SetV, t = ⟨s.nm, s.fr, s.sn, exR⟩ := ⟨_, rfl⟩
            have HTM := Lib.hid (show t ∈ M by rw [← hM, ht]; exact List.mem_set (by rw [HN.out]; exact HK.out) _)
            have HMN := Lib.hid (show M.length = n by rw [← hM, List.length_set]; exact HN.out)
            rw [hM] at HL6
            rw [← ht] at HBR
            clear hM ht HV HS HK HN HNN HXG HGL HAR HG
            have HLM := Lib.hid HL6.out.ls
            have HTZ := Lib.hid (okS_nm (HVM.out.ok t HTM.out))
            obtain ⟨d0, _, _, d3⟩ := set_atR HR6.out HBR.out
            have HP6 := Lib.hid d3
            obtain ⟨QR, hQR⟩ : ∃ z, (ptrRow t.rt).toArray = z := ⟨_, rfl⟩
            have HQR := Lib.hid hQR
            have HQE := Lib.hid (fun W => show (Op.equalIn 10000 36 (.agg QR) (.agg QR)).run Try.prog W = .ok true W by have h := eq_ptr t.rt t.rt W; rw [hQR, decide_eq_true (rfl : t.rt = t.rt)] at h; exact h)
            have HNI := Lib.hid (show M.length < 1000 by rw [HMN.out]; omega)
            clear d3 hQR HL6
            have HRN := Lib.hid (pren15 _ M t.nm nm0 w6 HLM.out HNI.out HVM.out.okk HZ0.out.2.1)
            unfold DoPost at HRN
            go_wp2_with fail
            by_cases hrn : (renD M t.nm nm0).1 = 0
            · have hfr : freshE M nm0 = 0 ∧ renD M t.nm nm0 = (0, renL M t.nm nm0 t) := by
                unfold renD at hrn ⊢
                rw [find_mem HVM.out HTM.out, if_pos rfl] at hrn ⊢
                by_cases h : freshE M nm0 = 0
                · rw [if_pos h]; exact ⟨h, rfl⟩
                · rw [if_neg h] at hrn; exact absurd hrn h
              obtain ⟨hz, hnn⟩ := fresh_iff.1 hfr.1
              rw [hfr.2] at HRN
              have HVR := Lib.hid (vl_ren HVM.out HTM.out hz hnn)
              have HRB := Lib.hid (ren_back HVM.out HTM.out hz hnn)
              have hin : (⟨nm0, t.fr, t.sn, t.rt⟩ : SetV) ∈ renL M t.nm nm0 t := by unfold renL; exact (mem_with (by exact nmem_ren hnn)).2 (.inl rfl)
              have HF1 := Lib.hid (show findD (renL M t.nm nm0 t) nm0 = (⟨nm0, t.fr, t.sn, t.rt⟩, 0) from find_mem HVR.out hin)
              have HF2 := Lib.hid (show findD (renL M t.nm nm0 t) t.nm = (zeroSet, 8) from find_not HVR.out (by rw [ren_nms hnn]; rintro (e | ⟨_, e⟩); exact hnn (mem_nms.2 ⟨t, HTM.out, e⟩); exact e rfl))
              have HLR := Lib.hid (show (renL M t.nm nm0 t).length < 1000 by rw [len_ren HVM.out HTM.out hnn]; exact HNI.out)
              clear hfr hz hnn hin hrn
              generalize renL M t.nm nm0 t = RR at *
              refine HRN.out.mono ?_
              rintro e wa ⟨vx, rfl, hox, hba⟩
              have HXa := Lib.hid hox.ls
              have HLa := Lib.hid (HLM.out.below hba)
              have HBa := Lib.hid (bt15 HB6.out hba)
              have HRa := Lib.hid ((hba.block X (lt_of_block HR6.out)).trans HR6.out)
              have d1 := cell_block15 d0 hba
              clear hox hba HRN d0 HLM HB6 HR6 HP6
              have HRC := Lib.hid (pren15 vx RR nm0 t.nm wa HXa.out HLR.out HVR.out.okk (by have := HTZ.out.2; omega))
              unfold DoPost at HRC
              rw [HRB.out] at HRC
              go_wp2_with fail
              refine HRC.out.mono ?_
              rintro e wc ⟨vy, rfl, hoy, hbc⟩
              have HYc := Lib.hid hoy.ls
              have HXc := Lib.hid (HXa.out.below hbc)
              have HLc := Lib.hid (HLa.out.below hbc)
              have HBc := Lib.hid (bt15 HBa.out hbc)
              have HRc := Lib.hid ((hbc.block X (lt_of_block HRa.out)).trans HRa.out)
              clear hoy hbc HRC d1 HXa HLa HBa HRa
              have HFD := Lib.hid (pfind15 vx RR nm0 wc HXc.out (Nat.le_of_lt HLR.out) HVR.out.okk)
              unfold FindPost at HFD
              rw [HF1.out] at HFD
              obtain ⟨CR, hcr⟩ := setR ⟨nm0, t.fr, t.sn, t.rt⟩
              have HCR := Lib.hid hcr
              rw [hcr.eq] at HFD
              clear hcr
              go_wp2_with fail
              refine HFD.out.mono ?_
              rintro e wd ⟨rfl, hbd⟩
              have HYd := Lib.hid (HYc.out.below hbd)
              have HXd := Lib.hid (HXc.out.below hbd)
              have HLd := Lib.hid (HLc.out.below hbd)
              have HBd := Lib.hid (bt15 HBc.out hbd)
              have HRd := Lib.hid ((hbd.block X (lt_of_block HRc.out)).trans HRc.out)
              clear hbd HFD HYc HXc HLc HBc HRc
              go_upto_region 23 with (first
                | (with_reducible refine wpList_store_row (o := ⟨none, .store _ (.tmp 17) _, _, _, _, _⟩) rfl 38 _ _ rfl wd.heap.size CR rfl rfl 38 ZS (heap_alloc_new wd _) HCR.out.sz (HZ.out.same HCR.out) HCR.out.one ?_))
              generalize hWs : World.setRow _ wd.heap.size _ = we
              have hst := fresh15 wd ZS CR 38 we hWs.symm
              have HRwe := Lib.hid hst.1
              have HYwe := Lib.hid (HYd.out.below hst.2)
              have HXwe := Lib.hid (HXd.out.below hst.2)
              have HLwe := Lib.hid (HLd.out.below hst.2)
              have HBwe := Lib.hid (bt15 HBd.out hst.2)
              have HQwe := Lib.hid (((hst.2).block X (lt_of_block HRd.out)).trans HRd.out)
              clear hWs hst
              generalize wd.heap.size = Y at *
              clear HYd HXd HLd HBd HRd
              have d1 := (set_atR HQwe.out HBR.out).1
              have HFD := Lib.hid (pfind15 vx RR t.nm we HXwe.out (Nat.le_of_lt HLR.out) HVR.out.okk)
              unfold FindPost at HFD
              rw [HF2.out, HZ.out.eq] at HFD
              go_wp2_with fail
              refine HFD.out.mono ?_
              rintro e wf ⟨rfl, hbf⟩
              have HYf := Lib.hid (HYwe.out.below hbf)
              have HLf := Lib.hid (HLwe.out.below hbf)
              have HBf := Lib.hid (bt15 HBwe.out hbf)
              have HQf := Lib.hid ((hbf.block X (lt_of_block HQwe.out)).trans HQwe.out)
              have HRf := Lib.hid ((hbf.block Y (lt_of_block HRwe.out)).trans HRwe.out)
              clear hbf HFD HYwe HXwe HLwe HBwe HQwe HRwe d1
              go_upto_region 24 with (first
                | (with_reducible refine wpList_store_row (o := ⟨none, .store _ (.tmp 19) _, _, _, _, _⟩) rfl 38 _ _ rfl wf.heap.size ZS rfl rfl 38 ZS (heap_alloc_new wf _) HZ.out.sz (HZ.out.same HZ.out) HZ.out.one ?_))
              generalize hWs : World.setRow _ wf.heap.size _ = wg
              have hst := fresh15 wf ZS ZS 38 wg hWs.symm
              have HRwg := Lib.hid hst.1
              have HYwg := Lib.hid (HYf.out.below hst.2)
              have HLwg := Lib.hid (HLf.out.below hst.2)
              have HBwg := Lib.hid (bt15 HBf.out hst.2)
              have HQwg := Lib.hid (((hst.2).block X (lt_of_block HQf.out)).trans HQf.out)
              have HVwg := Lib.hid (((hst.2).block Y (lt_of_block HRf.out)).trans HRf.out)
              clear hWs hst
              generalize wf.heap.size = U at *
              clear HYf HLf HBf HQf HRf HRwg
              have HSA := Lib.hid (rsame15 vy _ M M wg HYwg.out HLwg.out (Nat.le_of_lt HNI.out) (Nat.le_of_lt HNI.out) HVM.out.okk HVM.out.okk)
              rw [decide_eq_true (rfl : M = M)] at HSA
              go_wp2_with fail
              refine HSA.out.mono ?_
              rintro e wh ⟨rfl, hbh⟩
              have HLW := Lib.hid (HLwg.out.below hbh)
              have HBW := Lib.hid (bt15 HBwg.out hbh)
              have HRW := Lib.hid ((hbh.block X (lt_of_block HQwg.out)).trans HQwg.out)
              have HRV := Lib.hid ((hbh.block Y (lt_of_block HVwg.out)).trans HVwg.out)
              clear hbh HSA HYwg HLwg HBwg HQwg HVwg
              have HX3 := Lib.hid (set_atR HRW.out HBR.out).2.2.2
              have HY3 := Lib.hid (show wh.rangeAt Y 3 (ptrRow t.rt) from (set_atR HRV.out HCR.out).2.2.2)
              have hqe := HQE.out
              go_upto_region 26 with (first
                | (with_reducible refine ld_ptr15 (op := ⟨some 132, _, _, _, _, _⟩) (by kernel_rfl) _ rfl Y 3 rfl t.rt _ HQR.out HY3.out ?_)
                | (with_reducible refine ld_ptr15 (op := ⟨some 134, _, _, _, _, _⟩) (by kernel_rfl) _ rfl X 3 rfl t.rt _ HQR.out HX3.out ?_))
              clear hqe HX3 HY3 HRV HF1 HF2 HRB HVR HLR HCR
              rename World => W
              have HSP := Lib.hid (psnap15 _ M t.nm nm0 W HLW.out HNI.out HVM.out.okk HZ0.out.2.1)
              unfold DoPost at HSP
              have d0 := (set_atR HRW.out HBR.out).1
              by_cases he : (snapD M t.nm nm0).1 = 0
              · have hsd : snapD M t.nm nm0 = addD M ⟨nm0, t.nm, true, t.rt⟩ ∧ t.sn = false := by
                  unfold snapD at he ⊢
                  rw [find_mem HVM.out HTM.out, if_pos rfl] at he ⊢
                  cases h : t.sn with
                  | true => rw [h] at he; cases he
                  | false => exact ⟨rfl, rfl⟩
                rw [hsd.1] at he HSP
                obtain ⟨hx2, hnf, hvx, hlx⟩ := add_valid HVM.out (s := ⟨nm0, t.nm, true, t.rt⟩) (fun hz => ok_new hz HTZ.out.2 (fun _ e => by have h := HTZ.out.1; rw [e] at h; exact absurd h (by decide)) (ok_parts (HVM.out.ok t HTM.out)).2.2) (.inr ⟨t, HTM.out, rfl, by rw [hsd.2]; rfl⟩) he
                have hnn := (fresh_iff.1 hnf).2
                have hfx := find_with hvx hnn
                rw [he, hx2] at HSP
                obtain ⟨X2, hX2⟩ : ∃ z, withL M ⟨nm0, t.nm, true, t.rt⟩ = z := ⟨_, rfl⟩
                have HM2 := Lib.hid (show (⟨nm0, t.nm, true, t.rt⟩ : SetV) ∈ X2 by rw [← hX2]; exact (mem_with hnn).2 (.inl rfl))
                rw [hX2] at HSP hvx hlx hfx
                have HVX := Lib.hid hvx
                have HFX := Lib.hid (show findD X2 nm0 = (⟨nm0, t.nm, true, t.rt⟩, 0) from hfx)
                have HLX := Lib.hid (show X2.length < 1000 by rw [hlx, HMN.out]; omega)
                clear hsd he hx2 hnf hvx hlx hnn hfx hX2
                go_wp2_with fail
                refine HSP.out.mono ?_
                rintro e wa ⟨vx, rfl, hox, hba⟩
                have HXa := Lib.hid hox.ls
                have HBa := Lib.hid (bt15 HBW.out hba)
                have HRa := Lib.hid ((hba.block X (lt_of_block HRW.out)).trans HRW.out)
                clear hox hba HSP d0 HLW
                have HFD := Lib.hid (pfind15 vx X2 nm0 wa HXa.out (Nat.le_of_lt HLX.out) HVX.out.okk)
                unfold FindPost at HFD
                rw [HFX.out] at HFD
                obtain ⟨CR, hcr⟩ := setR ⟨nm0, t.nm, true, t.rt⟩
                have HCR := Lib.hid hcr
                rw [hcr.eq] at HFD
                clear hcr
                go_wp2_with fail
                refine HFD.out.mono ?_
                rintro e wf ⟨rfl, hbf⟩
                have HXf := Lib.hid (HXa.out.below hbf)
                have HBf := Lib.hid (bt15 HBa.out hbf)
                have HRf := Lib.hid ((hbf.block X (lt_of_block HRa.out)).trans HRa.out)
                clear hbf HFD HXa HBa HRa
                go_upto_region 30 with (first
                  | (with_reducible refine wpList_store_row (o := ⟨none, .store _ (.tmp 23) _, _, _, _, _⟩) rfl 38 _ _ rfl wf.heap.size CR rfl rfl 38 ZS (heap_alloc_new wf _) HCR.out.sz (HZ.out.same HCR.out) HCR.out.one ?_))
                generalize hWs : World.setRow _ wf.heap.size _ = wg
                have hst := fresh15 wf ZS CR 38 wg hWs.symm
                have HRwg := Lib.hid hst.1
                have HXwg := Lib.hid (HXf.out.below hst.2)
                have HBwg := Lib.hid (bt15 HBf.out hst.2)
                have HQwg := Lib.hid (((hst.2).block X (lt_of_block HRf.out)).trans HRf.out)
                clear hWs hst
                generalize wf.heap.size = Y at *
                clear HXf HBf HRf
                have HCL := Lib.hid (pclone15 vx X2 nm0 ot0 wg HXwg.out HLX.out HVX.out.okk HZ0.out.2.2)
                have hcd : cloneD X2 nm0 ot0 = addD X2 ⟨ot0, nm0, false, t.rt⟩ := by unfold cloneD; rw [HFX.out]; rfl
                rw [hcd] at HCL
                clear hcd
                go_wp2_with fail
                rcases fresh_two (l := X2) (n := ot0) with hf | hf | hf
                · have had : addD X2 ⟨ot0, nm0, false, t.rt⟩ = (0, withL X2 ⟨ot0, nm0, false, t.rt⟩) := by unfold addD; rw [if_pos hf]
                  obtain ⟨_, _, hvy, hly⟩ := add_valid HVX.out (s := ⟨ot0, nm0, false, t.rt⟩) (fun hz => ok_new hz (okS_nm (HVX.out.ok _ HM2.out)).2 (fun e => by cases e) (ok_parts (HVM.out.ok t HTM.out)).2.2) (.inr ⟨_, HM2.out, rfl, rfl⟩) (by rw [had])
                  have HFY := Lib.hid (find_with hvy (fresh_iff.1 hf).2)
                  have HVY := Lib.hid hvy
                  have HLY := Lib.hid (show (withL X2 ⟨ot0, nm0, false, t.rt⟩).length ≤ 1000 by rw [hly]; have := HLX.out; omega)
                  unfold DoPost at HCL
                  rw [had] at HCL
                  clear had hvy hly hf
                  refine HCL.out.mono ?_
                  rintro e wh ⟨vy, rfl, hoy, hbh⟩
                  have HBh := Lib.hid (bt15 HBwg.out hbh)
                  have HRXX := Lib.hid ((hbh.block X (lt_of_block HQwg.out)).trans HQwg.out)
                  have HRY := Lib.hid ((hbh.block Y (lt_of_block HRwg.out)).trans HRwg.out)
                  clear hbh HCL HBwg HQwg HRwg
                  obtain ⟨x0, _, _, x3⟩ := set_atR HRXX.out HBR.out
                  obtain ⟨y0, y1, y2, y3⟩ := set_atR HRY.out HCR.out
                  have HX3 := Lib.hid x3
                  have HY3 := Lib.hid (show wh.rangeAt Y 3 (ptrRow t.rt) from y3)
                  have hsb : (t.nm.toList == t.nm.toList) = true := by simp
                  have hqe := HQE.out
                  clear x3 y3
                  have HYh := Lib.hid hoy.ls
                  clear hoy
                  go_wp2_with (first
                    | (with_reducible refine ld_ptr15 (op := ⟨some 173, _, _, _, _, _⟩) (by kernel_rfl) _ rfl Y 3 rfl t.rt _ HQR.out HY3.out ?_)
                    | (with_reducible refine ld_ptr15 (op := ⟨some 175, _, _, _, _, _⟩) (by kernel_rfl) _ rfl X 3 rfl t.rt _ HQR.out HX3.out ?_))
                  have HFD := Lib.hid (pfind15 vy _ ot0 wh HYh.out HLY.out HVY.out.okk)
                  unfold FindPost at HFD
                  rw [HFY.out] at HFD
                  obtain ⟨DR, hdr⟩ := setR ⟨ot0, nm0, false, t.rt⟩
                  have HDR := Lib.hid hdr
                  rw [hdr.eq] at HFD
                  clear hdr x0 y0 y1 y2
                  go_wp2_with fail
                  refine HFD.out.mono ?_
                  rintro e wi ⟨rfl, hbi⟩
                  have HBi := Lib.hid (bt15 HBh.out hbi)
                  have HX5 := Lib.hid (range_below HX3.out hbi)
                  clear hbi HFD
                  go_upto_region 36 with (first
                    | (with_reducible refine wpList_store_row (o := ⟨none, .store _ (.tmp 27) _, _, _, _, _⟩) rfl 38 _ _ rfl wi.heap.size DR rfl rfl 38 ZS (heap_alloc_new wi _) HDR.out.sz (HZ.out.same HDR.out) HDR.out.one ?_))
                  generalize hWs : World.setRow _ wi.heap.size _ = wj
                  have hst := fresh15 wi ZS DR 38 wj hWs.symm
                  have HRwj := Lib.hid hst.1
                  have HBwj := Lib.hid (bt15 HBi.out hst.2)
                  have HXRwj := Lib.hid (range_below HX5.out hst.2)
                  clear hWs hst
                  generalize wi.heap.size = Z at *
                  have HX4 := Lib.hid HXRwj.out
                  obtain ⟨z0, z1, z2, z3⟩ := set_atR HRwj.out HDR.out
                  have HZ3 := Lib.hid (show wj.rangeAt Z 3 (ptrRow t.rt) from z3)
                  have hsb2 : (nm0.toList == nm0.toList) = true := by simp
                  have hqe := HQE.out
                  clear z3
                  go_wp2_with (first
                    | (with_reducible refine ld_ptr15 (op := ⟨some 208, _, _, _, _, _⟩) (by kernel_rfl) _ rfl Z 3 rfl t.rt _ HQR.out HZ3.out ?_)
                    | (with_reducible refine ld_ptr15 (op := ⟨some 210, _, _, _, _, _⟩) (by kernel_rfl) _ rfl X 3 rfl t.rt _ HQR.out HX4.out ?_))
                  go_ret
                  exact ⟨rfl, HBwj.out⟩
                · have had : addD X2 ⟨ot0, nm0, false, t.rt⟩ = (2, []) := by unfold addD; rw [show freshE X2 (⟨ot0, nm0, false, t.rt⟩ : SetV).nm = 2 from hf, if_neg (by decide)]
                  unfold DoPost at HCL
                  rw [had] at HCL
                  clear had hf
                  refine HCL.out.mono ?_
                  rintro e wh ⟨vy, rfl, hoy, hbh⟩
                  have HBh := Lib.hid (bt15 HBwg.out hbh)
                  have HRXX := Lib.hid ((hbh.block X (lt_of_block HQwg.out)).trans HQwg.out)
                  have HRY := Lib.hid ((hbh.block Y (lt_of_block HRwg.out)).trans HRwg.out)
                  clear hbh HCL HBwg HQwg HRwg
                  obtain ⟨x0, _, _, x3⟩ := set_atR HRXX.out HBR.out
                  obtain ⟨y0, y1, y2, y3⟩ := set_atR HRY.out HCR.out
                  have HX3 := Lib.hid x3
                  have HY3 := Lib.hid (show wh.rangeAt Y 3 (ptrRow t.rt) from y3)
                  have hsb : (t.nm.toList == t.nm.toList) = true := by simp
                  have hqe := HQE.out
                  clear x3 y3
                  clear hoy
                  go_wp2_with (first
                    | (with_reducible refine ld_ptr15 (op := ⟨some 173, _, _, _, _, _⟩) (by kernel_rfl) _ rfl Y 3 rfl t.rt _ HQR.out HY3.out ?_)
                    | (with_reducible refine ld_ptr15 (op := ⟨some 175, _, _, _, _, _⟩) (by kernel_rfl) _ rfl X 3 rfl t.rt _ HQR.out HX3.out ?_))
                  go_ret
                  exact ⟨rfl, HBh.out⟩
                · have had : addD X2 ⟨ot0, nm0, false, t.rt⟩ = (9, []) := by unfold addD; rw [show freshE X2 (⟨ot0, nm0, false, t.rt⟩ : SetV).nm = 9 from hf, if_neg (by decide)]
                  unfold DoPost at HCL
                  rw [had] at HCL
                  clear had hf
                  refine HCL.out.mono ?_
                  rintro e wh ⟨vy, rfl, hoy, hbh⟩
                  have HBh := Lib.hid (bt15 HBwg.out hbh)
                  have HRXX := Lib.hid ((hbh.block X (lt_of_block HQwg.out)).trans HQwg.out)
                  have HRY := Lib.hid ((hbh.block Y (lt_of_block HRwg.out)).trans HRwg.out)
                  clear hbh HCL HBwg HQwg HRwg
                  obtain ⟨x0, _, _, x3⟩ := set_atR HRXX.out HBR.out
                  obtain ⟨y0, y1, y2, y3⟩ := set_atR HRY.out HCR.out
                  have HX3 := Lib.hid x3
                  have HY3 := Lib.hid (show wh.rangeAt Y 3 (ptrRow t.rt) from y3)
                  have hsb : (t.nm.toList == t.nm.toList) = true := by simp
                  have hqe := HQE.out
                  clear x3 y3
                  clear hoy
                  go_wp2_with (first
                    | (with_reducible refine ld_ptr15 (op := ⟨some 173, _, _, _, _, _⟩) (by kernel_rfl) _ rfl Y 3 rfl t.rt _ HQR.out HY3.out ?_)
                    | (with_reducible refine ld_ptr15 (op := ⟨some 175, _, _, _, _, _⟩) (by kernel_rfl) _ rfl X 3 rfl t.rt _ HQR.out HX3.out ?_))
                  go_ret
                  exact ⟨rfl, HBh.out⟩
              · generalize (snapD M t.nm nm0).1 = E at *
                have h1s : (E == 0) = false := by simpa using he
                have h2s : decide (E = 0) = false := by simpa using he
                have h3s : (E != 0) = true := by simpa using he
                go_wp2_with fail
                refine HSP.out.mono ?_
                rintro e wa ⟨vx, rfl, _, hba⟩
                have HBa := Lib.hid (bt15 HBW.out hba)
                clear hba HSP
                go_wp2_with fail
                go_ret
                exact ⟨rfl, HBa.out⟩
            · generalize (renD M t.nm nm0).1 = E at *
              have h1 : (E == 0) = false := by simpa using hrn
              have h2 : decide (E = 0) = false := by simpa using hrn
              have h3 : (E != 0) = true := by simpa using hrn
              refine HRN.out.mono ?_
              rintro e W ⟨vx, rfl, _, hba⟩
              have HLW := Lib.hid (HLM.out.below hba)
              have HBW := Lib.hid (bt15 HB6.out hba)
              have HRW := Lib.hid ((hba.block X (lt_of_block HR6.out)).trans HR6.out)
              clear hba HRN d0 HLM HB6 HR6 HP6
              go_upto_region 26 with fail
              clear h1 h2 h3 hrn
              have HSP := Lib.hid (psnap15 _ M t.nm nm0 W HLW.out HNI.out HVM.out.okk HZ0.out.2.1)
              unfold DoPost at HSP
              have d0 := (set_atR HRW.out HBR.out).1
              by_cases he : (snapD M t.nm nm0).1 = 0
              · have hsd : snapD M t.nm nm0 = addD M ⟨nm0, t.nm, true, t.rt⟩ ∧ t.sn = false := by
                  unfold snapD at he ⊢
                  rw [find_mem HVM.out HTM.out, if_pos rfl] at he ⊢
                  cases h : t.sn with
                  | true => rw [h] at he; cases he
                  | false => exact ⟨rfl, rfl⟩
                rw [hsd.1] at he HSP
                obtain ⟨hx2, hnf, hvx, hlx⟩ := add_valid HVM.out (s := ⟨nm0, t.nm, true, t.rt⟩) (fun hz => ok_new hz HTZ.out.2 (fun _ e => by have h := HTZ.out.1; rw [e] at h; exact absurd h (by decide)) (ok_parts (HVM.out.ok t HTM.out)).2.2) (.inr ⟨t, HTM.out, rfl, by rw [hsd.2]; rfl⟩) he
                have hnn := (fresh_iff.1 hnf).2
                have hfx := find_with hvx hnn
                rw [he, hx2] at HSP
                obtain ⟨X2, hX2⟩ : ∃ z, withL M ⟨nm0, t.nm, true, t.rt⟩ = z := ⟨_, rfl⟩
                have HM2 := Lib.hid (show (⟨nm0, t.nm, true, t.rt⟩ : SetV) ∈ X2 by rw [← hX2]; exact (mem_with hnn).2 (.inl rfl))
                rw [hX2] at HSP hvx hlx hfx
                have HVX := Lib.hid hvx
                have HFX := Lib.hid (show findD X2 nm0 = (⟨nm0, t.nm, true, t.rt⟩, 0) from hfx)
                have HLX := Lib.hid (show X2.length < 1000 by rw [hlx, HMN.out]; omega)
                clear hsd he hx2 hnf hvx hlx hnn hfx hX2
                go_wp2_with fail
                refine HSP.out.mono ?_
                rintro e wa ⟨vx, rfl, hox, hba⟩
                have HXa := Lib.hid hox.ls
                have HBa := Lib.hid (bt15 HBW.out hba)
                have HRa := Lib.hid ((hba.block X (lt_of_block HRW.out)).trans HRW.out)
                clear hox hba HSP d0 HLW
                have HFD := Lib.hid (pfind15 vx X2 nm0 wa HXa.out (Nat.le_of_lt HLX.out) HVX.out.okk)
                unfold FindPost at HFD
                rw [HFX.out] at HFD
                obtain ⟨CR, hcr⟩ := setR ⟨nm0, t.nm, true, t.rt⟩
                have HCR := Lib.hid hcr
                rw [hcr.eq] at HFD
                clear hcr
                go_wp2_with fail
                refine HFD.out.mono ?_
                rintro e wf ⟨rfl, hbf⟩
                have HXf := Lib.hid (HXa.out.below hbf)
                have HBf := Lib.hid (bt15 HBa.out hbf)
                have HRf := Lib.hid ((hbf.block X (lt_of_block HRa.out)).trans HRa.out)
                clear hbf HFD HXa HBa HRa
                go_upto_region 30 with (first
                  | (with_reducible refine wpList_store_row (o := ⟨none, .store _ (.tmp 23) _, _, _, _, _⟩) rfl 38 _ _ rfl wf.heap.size CR rfl rfl 38 ZS (heap_alloc_new wf _) HCR.out.sz (HZ.out.same HCR.out) HCR.out.one ?_))
                generalize hWs : World.setRow _ wf.heap.size _ = wg
                have hst := fresh15 wf ZS CR 38 wg hWs.symm
                have HRwg := Lib.hid hst.1
                have HXwg := Lib.hid (HXf.out.below hst.2)
                have HBwg := Lib.hid (bt15 HBf.out hst.2)
                have HQwg := Lib.hid (((hst.2).block X (lt_of_block HRf.out)).trans HRf.out)
                clear hWs hst
                generalize wf.heap.size = Y at *
                clear HXf HBf HRf
                have HCL := Lib.hid (pclone15 vx X2 nm0 ot0 wg HXwg.out HLX.out HVX.out.okk HZ0.out.2.2)
                have hcd : cloneD X2 nm0 ot0 = addD X2 ⟨ot0, nm0, false, t.rt⟩ := by unfold cloneD; rw [HFX.out]; rfl
                rw [hcd] at HCL
                clear hcd
                go_wp2_with fail
                rcases fresh_two (l := X2) (n := ot0) with hf | hf | hf
                · have had : addD X2 ⟨ot0, nm0, false, t.rt⟩ = (0, withL X2 ⟨ot0, nm0, false, t.rt⟩) := by unfold addD; rw [if_pos hf]
                  obtain ⟨_, _, hvy, hly⟩ := add_valid HVX.out (s := ⟨ot0, nm0, false, t.rt⟩) (fun hz => ok_new hz (okS_nm (HVX.out.ok _ HM2.out)).2 (fun e => by cases e) (ok_parts (HVM.out.ok t HTM.out)).2.2) (.inr ⟨_, HM2.out, rfl, rfl⟩) (by rw [had])
                  have HFY := Lib.hid (find_with hvy (fresh_iff.1 hf).2)
                  have HVY := Lib.hid hvy
                  have HLY := Lib.hid (show (withL X2 ⟨ot0, nm0, false, t.rt⟩).length ≤ 1000 by rw [hly]; have := HLX.out; omega)
                  unfold DoPost at HCL
                  rw [had] at HCL
                  clear had hvy hly hf
                  refine HCL.out.mono ?_
                  rintro e wh ⟨vy, rfl, hoy, hbh⟩
                  have HBh := Lib.hid (bt15 HBwg.out hbh)
                  have HRXX := Lib.hid ((hbh.block X (lt_of_block HQwg.out)).trans HQwg.out)
                  have HRY := Lib.hid ((hbh.block Y (lt_of_block HRwg.out)).trans HRwg.out)
                  clear hbh HCL HBwg HQwg HRwg
                  obtain ⟨x0, _, _, x3⟩ := set_atR HRXX.out HBR.out
                  obtain ⟨y0, y1, y2, y3⟩ := set_atR HRY.out HCR.out
                  have HX3 := Lib.hid x3
                  have HY3 := Lib.hid (show wh.rangeAt Y 3 (ptrRow t.rt) from y3)
                  have hsb : (t.nm.toList == t.nm.toList) = true := by simp
                  have hqe := HQE.out
                  clear x3 y3
                  have HYh := Lib.hid hoy.ls
                  clear hoy
                  go_wp2_with (first
                    | (with_reducible refine ld_ptr15 (op := ⟨some 173, _, _, _, _, _⟩) (by kernel_rfl) _ rfl Y 3 rfl t.rt _ HQR.out HY3.out ?_)
                    | (with_reducible refine ld_ptr15 (op := ⟨some 175, _, _, _, _, _⟩) (by kernel_rfl) _ rfl X 3 rfl t.rt _ HQR.out HX3.out ?_))
                  have HFD := Lib.hid (pfind15 vy _ ot0 wh HYh.out HLY.out HVY.out.okk)
                  unfold FindPost at HFD
                  rw [HFY.out] at HFD
                  obtain ⟨DR, hdr⟩ := setR ⟨ot0, nm0, false, t.rt⟩
                  have HDR := Lib.hid hdr
                  rw [hdr.eq] at HFD
                  clear hdr x0 y0 y1 y2
                  go_wp2_with fail
                  refine HFD.out.mono ?_
                  rintro e wi ⟨rfl, hbi⟩
                  have HBi := Lib.hid (bt15 HBh.out hbi)
                  have HX5 := Lib.hid (range_below HX3.out hbi)
                  clear hbi HFD
                  go_upto_region 36 with (first
                    | (with_reducible refine wpList_store_row (o := ⟨none, .store _ (.tmp 27) _, _, _, _, _⟩) rfl 38 _ _ rfl wi.heap.size DR rfl rfl 38 ZS (heap_alloc_new wi _) HDR.out.sz (HZ.out.same HDR.out) HDR.out.one ?_))
                  generalize hWs : World.setRow _ wi.heap.size _ = wj
                  have hst := fresh15 wi ZS DR 38 wj hWs.symm
                  have HRwj := Lib.hid hst.1
                  have HBwj := Lib.hid (bt15 HBi.out hst.2)
                  have HXRwj := Lib.hid (range_below HX5.out hst.2)
                  clear hWs hst
                  generalize wi.heap.size = Z at *
                  have HX4 := Lib.hid HXRwj.out
                  obtain ⟨z0, z1, z2, z3⟩ := set_atR HRwj.out HDR.out
                  have HZ3 := Lib.hid (show wj.rangeAt Z 3 (ptrRow t.rt) from z3)
                  have hsb2 : (nm0.toList == nm0.toList) = true := by simp
                  have hqe := HQE.out
                  clear z3
                  go_wp2_with (first
                    | (with_reducible refine ld_ptr15 (op := ⟨some 208, _, _, _, _, _⟩) (by kernel_rfl) _ rfl Z 3 rfl t.rt _ HQR.out HZ3.out ?_)
                    | (with_reducible refine ld_ptr15 (op := ⟨some 210, _, _, _, _, _⟩) (by kernel_rfl) _ rfl X 3 rfl t.rt _ HQR.out HX4.out ?_))
                  go_ret
                  exact ⟨rfl, HBwj.out⟩
                · have had : addD X2 ⟨ot0, nm0, false, t.rt⟩ = (2, []) := by unfold addD; rw [show freshE X2 (⟨ot0, nm0, false, t.rt⟩ : SetV).nm = 2 from hf, if_neg (by decide)]
                  unfold DoPost at HCL
                  rw [had] at HCL
                  clear had hf
                  refine HCL.out.mono ?_
                  rintro e wh ⟨vy, rfl, hoy, hbh⟩
                  have HBh := Lib.hid (bt15 HBwg.out hbh)
                  have HRXX := Lib.hid ((hbh.block X (lt_of_block HQwg.out)).trans HQwg.out)
                  have HRY := Lib.hid ((hbh.block Y (lt_of_block HRwg.out)).trans HRwg.out)
                  clear hbh HCL HBwg HQwg HRwg
                  obtain ⟨x0, _, _, x3⟩ := set_atR HRXX.out HBR.out
                  obtain ⟨y0, y1, y2, y3⟩ := set_atR HRY.out HCR.out
                  have HX3 := Lib.hid x3
                  have HY3 := Lib.hid (show wh.rangeAt Y 3 (ptrRow t.rt) from y3)
                  have hsb : (t.nm.toList == t.nm.toList) = true := by simp
                  have hqe := HQE.out
                  clear x3 y3
                  clear hoy
                  go_wp2_with (first
                    | (with_reducible refine ld_ptr15 (op := ⟨some 173, _, _, _, _, _⟩) (by kernel_rfl) _ rfl Y 3 rfl t.rt _ HQR.out HY3.out ?_)
                    | (with_reducible refine ld_ptr15 (op := ⟨some 175, _, _, _, _, _⟩) (by kernel_rfl) _ rfl X 3 rfl t.rt _ HQR.out HX3.out ?_))
                  go_ret
                  exact ⟨rfl, HBh.out⟩
                · have had : addD X2 ⟨ot0, nm0, false, t.rt⟩ = (9, []) := by unfold addD; rw [show freshE X2 (⟨ot0, nm0, false, t.rt⟩ : SetV).nm = 9 from hf, if_neg (by decide)]
                  unfold DoPost at HCL
                  rw [had] at HCL
                  clear had hf
                  refine HCL.out.mono ?_
                  rintro e wh ⟨vy, rfl, hoy, hbh⟩
                  have HBh := Lib.hid (bt15 HBwg.out hbh)
                  have HRXX := Lib.hid ((hbh.block X (lt_of_block HQwg.out)).trans HQwg.out)
                  have HRY := Lib.hid ((hbh.block Y (lt_of_block HRwg.out)).trans HRwg.out)
                  clear hbh HCL HBwg HQwg HRwg
                  obtain ⟨x0, _, _, x3⟩ := set_atR HRXX.out HBR.out
                  obtain ⟨y0, y1, y2, y3⟩ := set_atR HRY.out HCR.out
                  have HX3 := Lib.hid x3
                  have HY3 := Lib.hid (show wh.rangeAt Y 3 (ptrRow t.rt) from y3)
                  have hsb : (t.nm.toList == t.nm.toList) = true := by simp
                  have hqe := HQE.out
                  clear x3 y3
                  clear hoy
                  go_wp2_with (first
                    | (with_reducible refine ld_ptr15 (op := ⟨some 173, _, _, _, _, _⟩) (by kernel_rfl) _ rfl Y 3 rfl t.rt _ HQR.out HY3.out ?_)
                    | (with_reducible refine ld_ptr15 (op := ⟨some 175, _, _, _, _, _⟩) (by kernel_rfl) _ rfl X 3 rfl t.rt _ HQR.out HX3.out ?_))
                  go_ret
                  exact ⟨rfl, HBh.out⟩
              · generalize (snapD M t.nm nm0).1 = E at *
                have h1s : (E == 0) = false := by simpa using he
                have h2s : decide (E = 0) = false := by simpa using he
                have h3s : (E != 0) = true := by simpa using he
                go_wp2_with fail
                refine HSP.out.mono ?_
                rintro e wa ⟨vx, rfl, _, hba⟩
                have HBa := Lib.hid (bt15 HBW.out hba)
                clear hba HSP
                go_wp2_with fail
                go_ret
                exact ⟨rfl, HBa.out⟩
    · have hI : (100 : Int) < (nm0.size : Int) + (ot0.size : Int) := by omega
      clear h100
      go_wp2_with fail
      go_ret
      exact ⟨rfl, HB2.out⟩
set_option maxRecDepth 100000 in
theorem lifted (os : Os) (started : os.Started) (H : Type) (enc : TypeId × Value → H) :
    ReturnsInHanded {} Try.checked os 8 .any (Rows.dirNamesSpec.pre6 enc Try.prog Try.f8 Rows.dirNamesRow.domain false) (Rows.dirNamesSpec.post enc Try.prog Try.f8 false true false false) := by
  refine returnsInHanded_of_change_sized (C := Try.checked) own started (by kernel_rfl) Try.func8
    (ChangeSpec.witness6 (enc := enc) (C := Try.checked) false ⟨#[], #[.agg #[.slice none 0 0, .int .u8 0, .string ⟨#[]⟩, .string ⟨#[]⟩]], []⟩ 8 (by kernel_rfl) (by kernel_rfl) (by kernel_rfl) (by kernel_rfl)) ?_
  intro W base args ds gs before hval0 hW hcnd hsz0 _
  have hsz : (DataW.weightsEach Try.prog (Try.f8.params.toList ++ Rows.dirNamesSpec.plain.varTypes Try.prog) (ds ++ gs)).all (· ≤ reachBytes) = true := hsz0
  clear hsz0
  have hval : ∀ (j : Nat) t v, Try.f8.params[j]? = some t → args[j]? = some v → Value.okWide Try.prog W .any base t v := hval0
  have hW' := hW
  obtain ⟨p, q, hA0, hV, rfl, hfz, hnd⟩ := hW
  have hA : DataW.TrodAll enc Try.prog W 0 (fun _ => true) true Try.f8.params.toList args.toList ds p := hA0
  rw [Try.params8] at hA hval hsz
  obtain ⟨v0, vs0, d0, ds0, p0, q0, hargs, rfl, rfl, h0, r0⟩ := trodAll_cons hA
  obtain ⟨rfl, rfl, rfl⟩ := trodAll_nil r0
  obtain rfl : args = #[v0] := by cases args; simp_all
  obtain ⟨rfl, rfl⟩ := trodVars_none hV
  have k0 := h0
  have lt0 : ∀ x ∈ p0, x.block < W.heap.size := by obtain ⟨m, hm⟩ := k0; exact DataW.trod_lt m _ _ _ hm
  obtain ⟨x0, a0, n0, c0, wh0, nm0, ot0, rfl, qf0⟩ := par_names15 (j := 0) (hval 0 54 v0 rfl rfl) h0 hsz rfl rfl
  clear hA0 hval0
  simp only [List.append_nil] at hW'
  refine (walk W x0 a0 n0 c0 wh0 nm0 ot0 qf0).mono fun e W' ⟨he, bel⟩ => ?_
  subst he
  exact ⟨_, rfl, _, _, _, [], _, [], hW', trodAll_mk1 (shut_bool Try.underlying4 _), (trodAll_cons_mk (Below.trod laidOut (by kernel_rfl) (of_decide_eq_true (by kernel_rfl)) k0 bel lt0) trodAll_mk0), rfl, bel.frame _, fun h => by cases h⟩

theorem over : Rows.dirNamesRow.holds Try.pinned (OpenSpec.ofChange Rows.dirNamesSpec) :=
  OpenClaim.holds_of_wide 8 Try.f8 rfl rfl rfl rfl rfl rfl rfl ⟨rfl, rfl, rfl, rfl, rfl⟩ rfl rfl rfl rfl rfl (by kernel_rfl) Try.func8 (by kernel_rfl)
    (of_decide_eq_true (by kernel_rfl)) (by unfold Func.isWrapper; first | (rw [if_pos (by decide +kernel)]; kernel_rfl) | (rw [if_neg (by decide +kernel)]; exact ⟨rfl, rfl⟩))
    (fun os started H enc _ => lifted os started H enc)

/-- The statement. -/
theorem proved : Rows.DirNamesSaid := over
#print axioms proved
end Go.Proofs.Ytkafabcklohlmaa.dirNames
