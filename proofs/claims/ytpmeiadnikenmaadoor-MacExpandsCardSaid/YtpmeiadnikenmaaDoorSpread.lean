/-
  A block as numbers, one for each round.
-/
import Derived.Test.YtpmeiadnikenmaaDoorMix
import Derived.Test.YtpmeiadnikenmaaDoorSpr
namespace Go.Proofs.YtpmeiadnikenmaaDoor
open Go.RowKit

theorem info_b64 : (Tryd.prog.info? 58).map (·.size) = some 64 := by kernel_rfl
theorem info_w64 : (Tryd.prog.info? 81).map (·.size) = some 64 := by kernel_rfl
theorem size_b64 (l : List Int) (h : l.length = 64) : (Tryd.prog.info? 58).map (·.size) = some (u8s l).size := by rw [info_b64, u8s_size, h]
theorem size_w64 (l : List (BitVec 32)) (h : l.length = 64) : (Tryd.prog.info? 81).map (·.size) = some (wvs l).size := by rw [info_w64, wvs_size, h]
theorem one_u8 : (Tryd.prog.info? 5).map (·.size) = some 1 := by kernel_rfl
theorem index_b64 (l : List Int) (hl : l.length = 64) (k : Nat) (h : k < 64) (w : World) : (Instr.index 58 (.agg (u8s l)) (.int .i64 (k : Int))).run Tryd.prog w = .ok (.int .u8 (l[k]?.getD 0)) w := by
  obtain ⟨i0, hi, hs⟩ := Option.map_eq_some_iff.1 one_u8
  exact index_agg _ _ _ _ k _ i0 _ Tryd.underlying58 Tryd.underlying5 rfl hi hs h (by rw [u8s_at l k (by omega)]; rfl) w

theorem sig0 (y : BitVec 32) : bits BinOp.xor IntKind.u32 (wv (rotn y (-7) ^^^ rotn y (-18))) (wv y / 8) = wv (rot2 y 7 18 3) := by
  have h : (2 : Int) ^ 3 = 8 := by decide
  have e := wv_shr y 3
  rw [h] at e
  rw [e, wv_xor]; rfl
theorem sig1 (y : BitVec 32) : bits BinOp.xor IntKind.u32 (wv (rotn y (-17) ^^^ rotn y (-19))) (wv y / 1024) = wv (rot2 y 17 19 10) := by
  have h : (2 : Int) ^ 10 = 1024 := by decide
  have e := wv_shr y 10
  rw [h] at e
  rw [e, wv_xor]; rfl

set_option maxRecDepth 100000 in
set_option maxHeartbeats 1600000 in
theorem spread_any (l : List Int) (w : World) (hl : l.length = 64) (hy : Byt l) :
    Calls Tryd.prog 43 #[.agg (u8s l)] w fun e w' => e = .returned (.agg (wvs (sch l 64))) ∧ Below w.heap.size w w' := by
  have HL := Lib.hid hl
  have HS := Lib.hid (size_b64 l hl)
  have HIX := Lib.hid (index_b64 l hl)
  clear hl
  go_enter Tryd.func43, Tryd.ntmps43
  go_wp2_with (first
    | (with_reducible refine wpList_load_row (o := ⟨some 9, _, _, _, _, _⟩) rfl 58 _ rfl w.heap.size rfl 58 (u8s l) (0, 0) _ (three_blocks w _ _ _).1 Tryd.underlying58 rfl HS.out ?_))
  refine gen3 fun W0 hW => ?_
  obtain ⟨_, hR, hM, hsz, hbel⟩ := hW
  have HR := Lib.hid (show ArrW W0 (w.heap.size + 1) 81 (zeros 64) from hR)
  have HM := Lib.hid (show ArrW W0 (w.heap.size + 1 + 1) 81 (zeros 64) from hM)
  have HZ := Lib.hid hsz
  clear hR hM hsz
  generalize hPR : w.heap.size + 1 = PR at *
  generalize hPM : PR + 1 = PM at *
  have HPR := Lib.hid hPR
  have HPM := Lib.hid hPM
  clear hPR hPM
  go_loopw [10] (fun v10 wr => ∃ i : Nat, i ≤ 64 ∧ v10 = .int .i64 (i : Nat) ∧ ArrW wr PM 81 (spr l i) ∧ Below PM W0 wr) (fun v _ => 64 - (intOf v).toNat)
  case atStart => exact ⟨0, by omega, rfl, by rw [spr_zero]; exact HM.out, Below.refl _ _⟩
  case round =>
    obtain ⟨i, hi, rfl, hA, hb⟩ := hrel
    by_cases hlt : i < 64
    · obtain ⟨j, hj, hj2⟩ : ∃ j : Nat, (i : Int) / 4 = (j : Int) ∧ i / 4 = j := ⟨i / 4, by omega, rfl⟩
      have hjl : j < 16 := by omega
      have cj := hA.cell (k := j) (by rw [spr_length]; omega)
      rw [spr_at _ _ _ (by omega)] at cj
      have fj := hA.free j
      have hix := HIX.out i hlt
      have hstep := wpart_step l hy i (by rw [HL.out]; omega)
      have hset := spr_set l i
      have hsm := wpart_small l hy i
      rw [hj2] at hstep hset hsm
      obtain ⟨c0, c1⟩ := byt_at l hy i
      generalize l[i]?.getD 0 = c at *
      generalize wpart l i j = x at *
      generalize wpart l (i + 1) j = y at *
      have x0 := wv_pos x
      have HA := Lib.hid hA
      have HST := Lib.hid hstep
      have HSE := Lib.hid hset
      have HJ2 := Lib.hid hj2
      have hltI : (i : Int) < 64 := by omega
      have hjI : (j : Int) < 16 := by omega
      have hj0 : (0 : Int) ≤ (j : Int) := by omega
      have HLT := Lib.hid hlt
      clear hA hstep hset hj2 hy hlt hi hjl
      go_wp2_with fail
      go_roundw
      case rel => exact ⟨i + 1, by have := HLT.out; omega, by go_num, by have e := HA.out.set j y; rw [HSE.out] at e; rw [HST.out]; exact e, hb.setCell (p := ⟨PM, j, none⟩) (Nat.le_refl _) _⟩
      case measure => simp [intOf]; omega
    · have hge : (64 : Int) ≤ (i : Int) := by omega
      have HI := Lib.hid (show i = 64 by omega)
      have HA := Lib.hid hA
      clear hA hlt hi
      go_wp2_with fail
      go_loopw [6] (fun v6 wr => ∃ (i : Nat) (M : List (BitVec 32)), 16 ≤ i ∧ i ≤ 64 ∧ v6 = .int .i64 (i : Nat) ∧ M.length = 64 ∧ M.take i = sch l i ∧ ArrW wr PM 81 M ∧ Below PM W0 wr) (fun v _ => 64 - (intOf v).toNat)
      case atStart => exact ⟨16, spr l 64, by omega, by omega, rfl, spr_length l 64, spr_full l, by have := HA.out; rwa [HI.out] at this, hb⟩
      case round =>
        obtain ⟨i, M, hi16, hi64, rfl, hML, hMS, hA2, hb2⟩ := hrel
        clear hge HA
        by_cases hlt : i < 64
        · have hn := sch_length l i
          obtain ⟨j16, e16, n16⟩ : ∃ j : Nat, IntKind.i64.wrap ((i : Int) - 16) = (j : Int) ∧ i - 16 = j := ⟨i - 16, by rw [IntWalk.i64_in _ (by omega)]; omega, rfl⟩
          obtain ⟨j15, e15, n15⟩ : ∃ j : Nat, IntKind.i64.wrap ((i : Int) - 15) = (j : Int) ∧ i - 15 = j := ⟨i - 15, by rw [IntWalk.i64_in _ (by omega)]; omega, rfl⟩
          obtain ⟨j7, e7, n7⟩ : ∃ j : Nat, IntKind.i64.wrap ((i : Int) - 7) = (j : Int) ∧ i - 7 = j := ⟨i - 7, by rw [IntWalk.i64_in _ (by omega)]; omega, rfl⟩
          obtain ⟨j2, e2, n2⟩ : ∃ j : Nat, IntKind.i64.wrap ((i : Int) - 2) = (j : Int) ∧ i - 2 = j := ⟨i - 2, by rw [IntWalk.i64_in _ (by omega)]; omega, rfl⟩
          have HN := Lib.hid (And.intro n16 (And.intro n15 (And.intro n7 n2)))
          have i16 : (j16 : Int) < 64 := by omega
          have i15 : (j15 : Int) < 64 := by omega
          have i7 : (j7 : Int) < 64 := by omega
          have i2 : (j2 : Int) < 64 := by omega
          have p16 : (0 : Int) ≤ (j16 : Int) := by omega
          have p15 : (0 : Int) ≤ (j15 : Int) := by omega
          have p7 : (0 : Int) ≤ (j7 : Int) := by omega
          have p2 : (0 : Int) ≤ (j2 : Int) := by omega
          have pi : (16 : Int) ≤ (i : Int) := by omega
          have pi2 : (i : Int) < 64 := by omega
          have ne16 : i ≠ j16 := by omega
          have ne7 : i ≠ j7 := by omega
          have hnx : nextW l (sch l i) = M.getD j16 0 + rot2 (M.getD j15 0) 7 18 3 + M.getD j7 0 + rot2 (M.getD j2 0) 17 19 10 := by
            unfold nextW
            rw [hn, if_neg (by omega), ← hMS, getD_take _ _ _ _ (by omega), getD_take _ _ _ _ (by omega), getD_take _ _ _ _ (by omega), getD_take _ _ _ _ (by omega), n16, n15, n7, n2]
          have C16 := Lib.hid (fun (W : World) (h : ArrW W PM 81 M) => h.cell (k := j16) (by omega))
          have C15 := Lib.hid (fun (W : World) (h : ArrW W PM 81 M) => h.cell (k := j15) (by omega))
          have C7 := Lib.hid (fun (W : World) (h : ArrW W PM 81 M) => h.cell (k := j7) (by omega))
          have C2 := Lib.hid (fun (W : World) (h : ArrW W PM 81 M) => h.cell (k := j2) (by omega))
          have C0 := Lib.hid (fun (W : World) (h : ArrW W PM 81 M) => h.cell (k := i) (by omega))
          have F0 := Lib.hid (fun (W : World) (h : ArrW W PM 81 M) => h.free i)
          generalize M.getD i 0 = y0 at *
          generalize M.getD j16 0 = y16 at *
          generalize M.getD j15 0 = y15 at *
          generalize M.getD j7 0 = y7 at *
          generalize M.getD j2 0 = y2 at *
          have HNX := Lib.hid hnx
          have HA2 := Lib.hid hA2
          have HMS := Lib.hid hMS
          have HML := Lib.hid hML
          have HLT := Lib.hid (And.intro hlt hi16)
          have HHN := Lib.hid hn
          have hxor := wv_xor
          have y15p := wv_pos y15
          have y2p := wv_pos y2
          have c15 := C15.out wr HA2.out
          clear hnx hA2 hMS hML hlt hi16 hi64 hn n16 n15 n7 n2 hb hbel hy
          go_wp2_with fail
          go_quiet ((go_at_call 61; exact Calls.quiet_of_same (turn_bv _ _ _)))
          go_wp2_with fail
          refine gen_drewN fun W1 hW1 => ?_
          obtain ⟨hw1, hz1, hk1⟩ := hW1
          have HA3 := Lib.hid (show ArrW W1 PM 81 M from (hw1 PM).trans HA2.out)
          have HB3 := Lib.hid (hk1 _ _ hb2)
          clear hw1 hz1 hk1 hb2 c15
          have c2 := C2.out W1 HA3.out
          go_quiet ((go_at_call 61; exact Calls.quiet_of_same (turn_bv _ _ _)))
          go_wp2_with fail
          refine gen_drewN fun W2 hW2 => ?_
          obtain ⟨hw2, hz2, hk2⟩ := hW2
          have HA4 := Lib.hid (show ArrW W2 PM 81 M from (hw2 PM).trans HA3.out)
          have HB4 := Lib.hid (hk2 _ _ HB3.out)
          clear hw2 hz2 hk2 c2
          have c16 := C16.out W2 HA4.out
          have c7 := C7.out W2 HA4.out
          have c0 := C0.out W2 HA4.out
          have f0 := F0.out W2 HA4.out
          have hadd := wv_add
          have haddm := wv_addm
          rw [sig0, sig1]
          clear hxor y15p y2p
          generalize rot2 y15 7 18 3 = r1 at *
          generalize rot2 y2 17 19 10 = r2 at *
          go_region_held3 (fun w' => w'.cell? ⟨PM, j16, none⟩ = some (.int .u32 (wv y16)) ∧ w'.cell? ⟨PM, j7, none⟩ = some (.int .u32 (wv y7)))
            (first
              | exact ⟨c16, c7⟩
              | exact ⟨(World.cell?_setCell_other _ _ _ _ (by intro h; injection h; omega)).trans c16, (World.cell?_setCell_other _ _ _ _ (by intro h; injection h; omega)).trans c7⟩)
            (fail)
          go_wp2_with fail
          go_roundw
          case rel =>
            have hst := (show ArrW W2.drew PM 81 M from HA4.out).set i (y16 + r1 + y7 + r2)
            exact ⟨i + 1, _, by omega, by omega, by go_num, by simpa using HML.out, by rw [take_set_same _ _ _ (by rw [HML.out]; exact HLT.out.1), HMS.out, sch, HNX.out], hst, ((HB4.out).drew).setCell (p := ⟨PM, i, none⟩) (Nat.le_refl _) _⟩
          case measure => simp [intOf]; omega
        · have hgeI : (64 : Int) ≤ (i : Int) := by omega
          have hM : M = sch l 64 := by rw [← show i = 64 by omega, ← hMS, List.take_of_length_le (by omega)]
          have HM2 := Lib.hid hM
          have hltPR : PR < PM := by have := HPM.out; omega
          have HA2 := Lib.hid (show wr.heap[PM]? = some (.cells (wvs M) 81 (0, 0)) from hA2)
          have hRw := HR.out.below hb2 hltPR
          have HRW := Lib.hid (show wr.heap[PR]? = some (.cells (wvs (zeros 64)) 81 (0, 0)) from hRw)
          have SM := Lib.hid (size_w64 M hML)
          have SE := Lib.hid (show (wvs (zeros 64)).size = (wvs M).size by rw [wvs_size, wvs_size, hML]; simp [zeros])
          have HB2 := Lib.hid (And.intro hbel hb2)
          clear hM hMS hML hlt hi16 hi64 hb hbel hy hA2 hb2 hltPR hRw
          go_wp2_with (first
            | (with_reducible refine wpList_load_row (o := ⟨some 79, _, _, _, _, _⟩) rfl 81 _ rfl PM rfl 81 (wvs M) (0, 0) _ HA2.out Tryd.underlying81 rfl SM.out ?_)
            | (with_reducible refine wpList_store_row (o := ⟨none, .store _ (.tmp 2) _, _, _, _, _⟩) rfl 81 _ _ rfl PR (wvs M) rfl rfl 81 (wvs (zeros 64)) HRW.out SM.out SE.out (wvs_one M) ?_))
          refine bodyPost_ret (v := .agg (wvs M)) (results_cell_row Tryd.results43 _ _ PR 81 (wvs M) (0, 0) _ rfl (setRow_heap _ PR _ (wvs M) _ _ HRW.out) Tryd.underlying81 rfl SM.out) rfl ⟨by rw [HM2.out], ?_⟩
          exact (HB2.out.1.trans (HB2.out.2.mono (by have := HPR.out; have := HPM.out; omega))).trans ⟨rfl, rfl, rfl, by simp, fun k hk => setRow_other _ PR k (wvs M) (by have := HPR.out; omega)⟩
end Go.Proofs.YtpmeiadnikenmaaDoor
