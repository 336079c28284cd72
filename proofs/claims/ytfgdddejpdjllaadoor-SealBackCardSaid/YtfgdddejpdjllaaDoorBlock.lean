/-
  The reference's block: the state behind 64 bytes.
-/
import Derived.Test.YtfgdddejpdjllaaDoorPrimes
import Derived.Test.YtfgdddejpdjllaaDoorSha0
import Derived.Deep.RegionHeld3
import Derived.Laws.Rows
import Derived.Deep.DeepCutAuto
namespace Go.Proofs.YtfgdddejpdjllaaDoor
set_option maxRecDepth 4000
open Go.RowKit

/-- Four bytes out of a slice. -/
theorem BS.four {w : World} {b off : Nat} {l : List Int} (hb : Byt l) (hc : ∀ i, i < l.length → w.cell? ⟨b, off + i, none⟩ = some (.int .u8 (l[i]?.getD 0))) (i : Nat) (hi : 4 * i + 4 ≤ l.length) (c : Nat) :
    BS w (.slice (some ⟨b, off + 4 * i, none⟩) 4 c) ((l.drop (4 * i)).take 4) := by
  have hlen : ((l.drop (4 * i)).take 4).length = 4 := by rw [List.length_take, List.length_drop]; omega
  refine ⟨some ⟨b, off + 4 * i, none⟩, c, by rw [hlen], fun z hz => hb z (List.mem_of_mem_drop (List.mem_of_mem_take hz)), nofun, .inr ⟨b, off + 4 * i, rfl, fun j hj => ?_⟩⟩
  rw [hlen] at hj
  have := hc (4 * i + j) (by omega)
  rw [← Nat.add_assoc] at this
  rw [this, List.getD_eq_getElem?_getD, List.getElem?_take, if_pos hj, List.getElem?_drop]

set_option maxRecDepth 100000 in
set_option maxHeartbeats 3200000 in
theorem rblock_any (x : List (BitVec 32)) (l : List Int) (ks : List (BitVec 32)) (bb ob cb bk ck : Nat) (w : World) (hx : x.length = 8) (hl : l.length = 64) (hy : Byt l) (_hk : ks.length = 64)
    (cB : ∀ i, i < 64 → w.cell? ⟨bb, ob + i, none⟩ = some (.int .u8 (l[i]?.getD 0))) (cK : ∀ i, i < 64 → w.cell? ⟨bk, i, none⟩ = some (.int .u32 (wv (ks.getD i 0)))) (lB : bb < w.heap.size) (lK : bk < w.heap.size) (hcb : 64 ≤ cb) :
    Calls Tryd.prog 65 #[.agg (wvs x), .slice (some ⟨bb, ob, none⟩) 64 cb, .slice (some ⟨bk, 0, none⟩) 64 ck] w fun e w' => e = .returned (.agg (wvs (blockS ks x l))) ∧ Below w.heap.size w w' := by
  obtain ⟨x0, x1, x2, x3, x4, x5, x6, x7, hxe⟩ : ∃ x0 x1 x2 x3 x4 x5 x6 x7, x = [x0, x1, x2, x3, x4, x5, x6, x7] := by
    match x, hx with
    | [a, b, c, d, e, f, g, h], _ => exact ⟨_, _, _, _, _, _, _, _, rfl⟩
  have ex : wvs x = #[.int .u32 (wv x0), .int .u32 (wv x1), .int .u32 (wv x2), .int .u32 (wv x3), .int .u32 (wv x4), .int .u32 (wv x5), .int .u32 (wv x6), .int .u32 (wv x7)] := by rw [hxe]; rfl
  have EX := Lib.hid ex
  rw [ex]
  clear hxe ex
  go_enter Tryd.func65, Tryd.ntmps65
  go_wp2_with fail
  refine gen3 ?_
  intro W0 hfacts
  obtain ⟨h1, h2, h3, hsz, hbel⟩ := hfacts
  have HS := Lib.hid (show ArrW W0 w.heap.size 81 x by unfold ArrW; rw [EX.out]; exact h1)
  have HR := Lib.hid (show ArrW W0 (w.heap.size + 1) 81 (zeros 8) from h2)
  have HW := Lib.hid (show ArrW W0 (w.heap.size + 1 + 1) 124 (zeros 64) from h3)
  clear h1 h2 h3
  obtain ⟨PW, hPW⟩ : ∃ P, P = w.heap.size + 1 + 1 := ⟨_, rfl⟩
  obtain ⟨PR, hPR⟩ : ∃ P, P = w.heap.size + 1 := ⟨_, rfl⟩
  rw [← hPW, ← hPR]
  rw [← hPW] at HW
  rw [← hPR] at HR
  have hlt : w.heap.size < PR ∧ PR < PW ∧ W0.heap.size = PW + 1 := by omega
  clear hPW hPR hsz
  obtain ⟨l0, l1, hsz⟩ := hlt
  have cB0 : ∀ i, i < 64 → W0.cell? ⟨bb, ob + i, none⟩ = some (.int .u8 (l[i]?.getD 0)) := fun i hi => (hbel.cell (p := ⟨bb, ob + i, none⟩) lB).trans (cB i hi)
  have cK0 : ∀ i, i < 64 → W0.cell? ⟨bk, i, none⟩ = some (.int .u32 (wv (ks.getD i 0))) := fun i hi => (hbel.cell (p := ⟨bk, i, none⟩) lK).trans (cK i hi)
  have HCK := Lib.hid cK0
  have HHS := Lib.hid hsz
  have hsz1 : PW < W0.heap.size := by omega
  have lBP : bb < PW := by omega
  have lKP : bk < PW := by omega
  clear cB cK cK0 hsz
  go_loopw [8] (fun v8 wr => ∃ (i : Nat) (M : List (BitVec 32)), i ≤ 16 ∧ v8 = .int .i64 (i : Nat) ∧ M.length = 64 ∧ M.take i = sch l i ∧ ArrW wr PW 124 M ∧ Below PW W0 wr) (fun v _ => 16 - (intOf v).toNat)
  case atStart => exact ⟨0, zeros 64, by omega, rfl, by simp [zeros], rfl, HW.out, Below.refl _ _⟩
  case round =>
    obtain ⟨i, M, hi, rfl, hML, hMS, hA, hbe⟩ := hrel
    by_cases hi16 : i < 16
    · have hn := sch_length l i
      have HA := Lib.hid hA
      have HMS := Lib.hid hMS
      have HML := Lib.hid hML
      have hB4 := BS.four (w := wr) (b := bb) (off := ob) hy (fun i hi => (hbe.cell (p := ⟨bb, ob + i, none⟩) lBP).trans (cB0 i (by omega))) i (by omega) (cb - 4 * i)
      have HB4 := Lib.hid hB4
      have hwv := wordAt_wv l hy i
      have HNX := Lib.hid (show nextW l (sch l i) = wordAt l i by unfold nextW; rw [hn, if_pos hi16])
      have HNUM := Lib.hid (fun w' (h : BS w' (.slice (some ⟨bb, ob + 4 * i, none⟩) 4 (cb - 4 * i)) ((l.drop (4 * i)).take 4)) => rnum_any w' _ _ h (by have := List.length_take_le 4 (l.drop (4 * i)); omega))
      have q0 := wv_pos (wordAt l i)
      have q1 := wv_lt (wordAt l i)
      have c1 := hA.cell (k := i) (by omega)
      have f1 := hA.free i
      have HL := Lib.hid hn
      generalize wordAt l i = W at *
      have HWV := Lib.hid hwv
      have HLT := Lib.hid hi16
      have HCB := Lib.hid hcb
      have hcbI : (64 : Int) ≤ (cb : Int) := by omega
      have hiI : (i : Int) < 16 := by omega
      have Q0 := Lib.hid q0
      have Q1 := Lib.hid q1
      have C1 := Lib.hid c1
      have F1 := Lib.hid f1
      clear hA hMS hML hn hB4 hwv cB0 lB lK l0 l1 hl _hk hx q0 q1 c1 f1 hcb hi16 hi
      go_wp2_with fail
      refine (HNUM.out _ HB4.out).mono ?_
      rintro e w2 ⟨rfl, rfl⟩
      rw [HWV.out]
      clear hcbI
      have q0 := Q0.out
      have q1 := Q1.out
      have c1 := C1.out
      have f1 := F1.out
      go_wp2_with fail
      go_roundw
      case rel =>
        exact ⟨i + 1, M.set i W, by omega, by go_num, by simpa using HML.out, by rw [take_set_same _ _ _ (by rw [HML.out]; omega), HMS.out, sch, HNX.out], HA.out.set i W, hbe.setCell (p := ⟨PW, i, none⟩) (Nat.le_refl _) _⟩
      case measure => simp [intOf]; omega
    · have HI0 := Lib.hid (show i = 16 by omega)
      have hge : 16 ≤ i := by omega
      have HA := Lib.hid hA
      have HMS := Lib.hid hMS
      have HML := Lib.hid hML
      clear hA hMS hML cB0
      go_wp2_with fail
      go_loopw [9] (fun v9 wr => ∃ (i : Nat) (M : List (BitVec 32)), 16 ≤ i ∧ i ≤ 64 ∧ v9 = .int .i64 (i : Nat) ∧ M.length = 64 ∧ M.take i = sch l i ∧ ArrW wr PW 124 M ∧ Below PW W0 wr) (fun v _ => 64 - (intOf v).toNat)
      case atStart => exact ⟨16, M, by omega, by omega, rfl, HML.out, by have := HMS.out; rwa [HI0.out] at this, HA.out, hbe⟩
      case round =>
        obtain ⟨i, M2, hi16, hi64, rfl, hML2, hMS2, hA2, hbe2⟩ := hrel
        by_cases hlt : i < 64
        · have hn := sch_length l i
          have c0 := hA2.cell (k := i) (by omega)
          obtain ⟨j16, e16, n16⟩ : ∃ j : Nat, IntKind.i64.wrap ((i : Int) - 16) = (j : Int) ∧ i - 16 = j := ⟨i - 16, by rw [IntWalk.i64_in _ (by omega)]; omega, rfl⟩
          obtain ⟨j15, e15, n15⟩ : ∃ j : Nat, IntKind.i64.wrap ((i : Int) - 15) = (j : Int) ∧ i - 15 = j := ⟨i - 15, by rw [IntWalk.i64_in _ (by omega)]; omega, rfl⟩
          obtain ⟨j7, e7, n7⟩ : ∃ j : Nat, IntKind.i64.wrap ((i : Int) - 7) = (j : Int) ∧ i - 7 = j := ⟨i - 7, by rw [IntWalk.i64_in _ (by omega)]; omega, rfl⟩
          obtain ⟨j2, e2, n2⟩ : ∃ j : Nat, IntKind.i64.wrap ((i : Int) - 2) = (j : Int) ∧ i - 2 = j := ⟨i - 2, by rw [IntWalk.i64_in _ (by omega)]; omega, rfl⟩
          have c16 := hA2.cell (k := j16) (by omega)
          have c15 := hA2.cell (k := j15) (by omega)
          have c7 := hA2.cell (k := j7) (by omega)
          have c2 := hA2.cell (k := j2) (by omega)
          have i16 : (j16 : Int) < 64 := by omega
          have i15 : (j15 : Int) < 64 := by omega
          have i7 : (j7 : Int) < 64 := by omega
          have i2 : (j2 : Int) < 64 := by omega
          have p16 : (0 : Int) ≤ (j16 : Int) := by omega
          have p15 : (0 : Int) ≤ (j15 : Int) := by omega
          have p7 : (0 : Int) ≤ (j7 : Int) := by omega
          have p2 : (0 : Int) ≤ (j2 : Int) := by omega
          have pi : (0 : Int) ≤ (i : Int) := by omega
          have pi2 : (i : Int) < 64 := by omega
          have ne16 : i ≠ j16 := by omega
          have ne15 : i ≠ j15 := by omega
          have ne7 : i ≠ j7 := by omega
          have ne2 : i ≠ j2 := by omega
          have f0 := hA2.free i
          have hnx : nextW l (sch l i) = M2.getD (i - 16) 0 + rot2 (M2.getD (i - 15) 0) 7 18 3 + M2.getD (i - 7) 0 + rot2 (M2.getD (i - 2) 0) 17 19 10 := by
            unfold nextW
            rw [hn, if_neg (by omega), ← hMS2, getD_take _ _ _ _ (by omega), getD_take _ _ _ _ (by omega), getD_take _ _ _ _ (by omega), getD_take _ _ _ _ (by omega)]
          rw [n16, n15, n7, n2] at hnx
          generalize M2.getD j16 0 = y16 at *
          generalize M2.getD j15 0 = y15 at *
          generalize M2.getD j7 0 = y7 at *
          generalize M2.getD j2 0 = y2 at *
          have HNX := Lib.hid hnx
          have HA2 := Lib.hid hA2
          have HMS2 := Lib.hid hMS2
          have HML2 := Lib.hid hML2
          have HB0 := Lib.hid hbe
          have hi16' : (16 : Int) ≤ (i : Int) := by omega
          have hzw : PW + 1 ≤ wr.heap.size := lt_of_block HA2.out
          have hadd := wv_add
          have haddm := wv_addm
          clear hnx hA2 hMS2 hML2 hn hbe HA HMS HML HW n16 n15 n7 n2
          go_wp2_with fail
          go_region_held3 (fun w' => w'.cell? ⟨PW, j16, none⟩ = some (.int .u32 (wv y16)) ∧ w'.cell? ⟨PW, j15, none⟩ = some (.int .u32 (wv y15)) ∧ w'.cell? ⟨PW, j7, none⟩ = some (.int .u32 (wv y7)) ∧ w'.cell? ⟨PW, j2, none⟩ = some (.int .u32 (wv y2)))
            (first
              | exact ⟨c16, c15, c7, c2⟩
              | exact ⟨(hbb6.cell (Nat.lt_succ_self _)).trans c16, (hbb6.cell (Nat.lt_succ_self _)).trans c15, (hbb6.cell (Nat.lt_succ_self _)).trans c7, (hbb6.cell (Nat.lt_succ_self _)).trans c2⟩
              | exact ⟨(hbb5.cell (Nat.lt_succ_self _)).trans c16, (hbb5.cell (Nat.lt_succ_self _)).trans c15, (hbb5.cell (Nat.lt_succ_self _)).trans c7, (hbb5.cell (Nat.lt_succ_self _)).trans c2⟩
              | exact ⟨(World.cell?_setCell_other _ _ _ _ (by intro h; injection h; omega)).trans ((hbb6.cell (p := ⟨PW, j16, none⟩) (Nat.lt_succ_self _)).trans c16), (World.cell?_setCell_other _ _ _ _ (by intro h; injection h; omega)).trans ((hbb6.cell (p := ⟨PW, j15, none⟩) (Nat.lt_succ_self _)).trans c15), (World.cell?_setCell_other _ _ _ _ (by intro h; injection h; omega)).trans ((hbb6.cell (p := ⟨PW, j7, none⟩) (Nat.lt_succ_self _)).trans c7), (World.cell?_setCell_other _ _ _ _ (by intro h; injection h; omega)).trans ((hbb6.cell (p := ⟨PW, j2, none⟩) (Nat.lt_succ_self _)).trans c2)⟩)
            (first
              | (go_at_call_of 86 (Value.int IntKind.u32 (wv y15)); refine (rsmall_any y15 7 18 3 _ (by omega) (by omega) (by omega) (by omega) (by omega)).mono ?_; rintro e w5 ⟨rfl, hb5⟩; have hbb5 : Below (PW + 1) wr w5 := (Below.refl _ _).drew.trans (hb5.mono hzw))
              | (go_at_call_of 86 (Value.int IntKind.u32 (wv y2)); refine (rsmall_any y2 17 19 10 _ (by omega) (by omega) (by omega) (by omega) (by omega)).mono ?_; rintro e w6 ⟨rfl, hb6⟩; have hbb6 : Below (PW + 1) wr w6 := hbb5.trans (hb6.mono (Nat.le_trans hzw hbb5.size)); have d0 := (hbb6.cell (p := ⟨PW, i, none⟩) (Nat.lt_succ_self _)).trans c0; have g0 := (hbb6.frozen (p := ⟨PW, i, none⟩) (Nat.lt_succ_self _)).trans f0))
          go_wp2_with fail
          go_roundw
          case rel =>
            have hst := ((show ArrW w6 PW 124 M2 from HA2.out.below hbb6 (Nat.lt_succ_self _)).set i (nextW l (sch l i)))
            rw [HNX.out] at hst
            exact ⟨i + 1, _, by omega, by omega, by go_num, by simpa using HML2.out, by rw [take_set_same _ _ _ (by rw [HML2.out]; omega), HMS2.out, sch, HNX.out], hst, (hbe2.trans (hbb6.mono (by omega))).setCell (p := ⟨PW, i, none⟩) (Nat.le_refl _) _⟩
          case measure => simp [intOf]; omega
        · have hi64' : i = 64 := by omega
          have hM : M2 = sch l 64 := by rw [← hi64', ← hMS2, List.take_of_length_le (by omega)]
          have hgeI : (64 : Int) ≤ (i : Int) := by omega
          clear hi64' hlt
          have HS2 := Lib.hid (show wr.heap[w.heap.size]? = some (.cells (wvs x) 81 (0, 0)) from HS.out.below hbe2 (by omega))
          have HS3 := HS2.out
          rw [EX.out] at HS3
          have s0 : wr.cell? ⟨w.heap.size, 0, none⟩ = some (.int .u32 (wv x0)) := cell_of_row wr _ 0 _ _ _ HS3
          have s1 : wr.cell? ⟨w.heap.size, 1, none⟩ = some (.int .u32 (wv x1)) := cell_of_row wr _ 1 _ _ _ HS3
          have s2 : wr.cell? ⟨w.heap.size, 2, none⟩ = some (.int .u32 (wv x2)) := cell_of_row wr _ 2 _ _ _ HS3
          have s3 : wr.cell? ⟨w.heap.size, 3, none⟩ = some (.int .u32 (wv x3)) := cell_of_row wr _ 3 _ _ _ HS3
          have s4 : wr.cell? ⟨w.heap.size, 4, none⟩ = some (.int .u32 (wv x4)) := cell_of_row wr _ 4 _ _ _ HS3
          have s5 : wr.cell? ⟨w.heap.size, 5, none⟩ = some (.int .u32 (wv x5)) := cell_of_row wr _ 5 _ _ _ HS3
          have s6 : wr.cell? ⟨w.heap.size, 6, none⟩ = some (.int .u32 (wv x6)) := cell_of_row wr _ 6 _ _ _ HS3
          have s7 : wr.cell? ⟨w.heap.size, 7, none⟩ = some (.int .u32 (wv x7)) := cell_of_row wr _ 7 _ _ _ HS3
          have HAW := Lib.hid hA2
          have HMM := Lib.hid hM
          have HMI := Lib.hid hi64
          have HBE := Lib.hid hbe2
          have HL0 := Lib.hid l0
          have HL1 := Lib.hid l1
          clear HS3 hA2 hM hMS2 hML2 hbe2 hbe HA HMS HML HW hi16 hi64 lB lK hl hcb hge hi
          go_wp2_with fail
          have hPX := lt_of_block HAW.out
          have HX0 := Lib.hid (show ArrW (wr.alloc (.cells (wvs x) 81)) wr.heap.size 81 x from heap_alloc_new wr _)
          rw [EX.out] at HX0
          have HBX := Lib.hid ((Below.refl wr.heap.size wr).alloc (Nat.le_refl _) (.cells (wvs x) 81))
          rw [EX.out] at HBX
          have HZX := Lib.hid (show (wr.alloc (.cells (wvs x) 81)).heap.size = wr.heap.size + 1 by simp)
          rw [EX.out] at HZX
          generalize wr.alloc _ = W1 at *
          generalize hPXe : wr.heap.size = PX at *
          clear hPXe s0 s1 s2 s3 s4 s5 s6 s7
          go_loopw [11] (fun v11 wx => ∃ (j : Nat) (X : List (BitVec 32)), j ≤ 64 ∧ v11 = .int .i64 (j : Nat) ∧ X.length = 8 ∧ X = rounds ks (sch l 64) j x ∧ ArrW wx PX 81 X ∧ Below PX W1 wx) (fun v _ => 64 - (intOf v).toNat)
          case atStart => exact ⟨0, x, by omega, rfl, hx, rfl, HX0.out, Below.refl _ _⟩
          case round =>
            obtain ⟨j, X, hj, rfl, hXl, hXe, hAX, hbx⟩ := hrel
            have l0 := HL0.out
            have l1 := HL1.out
            by_cases hj64 : j < 64
            · obtain ⟨a, b, c, d, e, f, g, h, rfl⟩ : ∃ a b c d e f g h, X = [a, b, c, d, e, f, g, h] := by
                match X, hXl with
                | [a, b, c, d, e, f, g, h], _ => exact ⟨_, _, _, _, _, _, _, _, rfl⟩
              have z0 : wr.cell? ⟨PX, 0, none⟩ = some (.int .u32 (wv a)) := cell_of_row wr _ 0 _ _ _ hAX
              have z1 : wr.cell? ⟨PX, 1, none⟩ = some (.int .u32 (wv b)) := cell_of_row wr _ 1 _ _ _ hAX
              have z2 : wr.cell? ⟨PX, 2, none⟩ = some (.int .u32 (wv c)) := cell_of_row wr _ 2 _ _ _ hAX
              have z3 : wr.cell? ⟨PX, 3, none⟩ = some (.int .u32 (wv d)) := cell_of_row wr _ 3 _ _ _ hAX
              have z4 : wr.cell? ⟨PX, 4, none⟩ = some (.int .u32 (wv e)) := cell_of_row wr _ 4 _ _ _ hAX
              have z5 : wr.cell? ⟨PX, 5, none⟩ = some (.int .u32 (wv f)) := cell_of_row wr _ 5 _ _ _ hAX
              have z6 : wr.cell? ⟨PX, 6, none⟩ = some (.int .u32 (wv g)) := cell_of_row wr _ 6 _ _ _ hAX
              have z7 : wr.cell? ⟨PX, 7, none⟩ = some (.int .u32 (wv h)) := cell_of_row wr _ 7 _ _ _ hAX
              have hlK : bk < PX := by omega
              have ck := ((hbx.cell (p := ⟨bk, j, none⟩) hlK).trans (HBX.out.cell (p := ⟨bk, j, none⟩) hlK)).trans ((HBE.out.cell (p := ⟨bk, j, none⟩) lKP).trans (HCK.out j hj64))
              have cw := ((hbx.cell (p := ⟨PW, j, none⟩) hPX).trans (HBX.out.cell (p := ⟨PW, j, none⟩) hPX)).trans (HAW.out.cell (k := j) (by rw [HMM.out, sch_length]; exact hj64))
              rw [HMM.out] at cw
              have hnext : rounds ks (sch l 64) (j + 1) x = round (ks.getD j 0) ((sch l 64).getD j 0) [a, b, c, d, e, f, g, h] := by rw [rounds, ← hXe]
              generalize ks.getD j 0 = kj at *
              generalize (sch l 64).getD j 0 = wj at *
              have HNX := Lib.hid hnext
              have HAX := Lib.hid hAX
              have HZ := Lib.hid (lt_of_block hAX)
              have hjI : (j : Int) < 64 := by omega
              have hj0 : (0 : Int) ≤ (j : Int) := by omega
              have hadd := wv_add
              have haddm := wv_addm
              have hpk : bits BinOp.or IntKind.u32 (bits BinOp.and IntKind.u32 (wv e) (wv f)) (bits BinOp.and IntKind.u32 (wv (~~~e)) (wv g)) = wv (pickB e f g) := by rw [wv_and, wv_and, wv_or]; rfl
              have HBW := Lib.hid hbx
              clear HX0 HZX HHS HS HMI hsz1 lKP lBP hy _hk hx hbel hbx
              clear hXe hAX hnext hj hXl l0 l1
              go_wp2_with fail
              go_cut [12] (fun v12 w5 => v12 = .int .u32 (wv (h + rot3 e 6 11 25 + pickB e f g + kj + wj)) ∧ Below (PX + 1) wr w5)
              case first =>
                rename_i J0 K0 hJ0 hK0
                refine wp_region_noPanic ?_
                refine wp_region_held_drew (S := fun w' => w'.cell? ⟨PX, 4, none⟩ = some (.int .u32 (wv e)) ∧ w'.cell? ⟨PX, 5, none⟩ = some (.int .u32 (wv f)) ∧ w'.cell? ⟨PX, 6, none⟩ = some (.int .u32 (wv g)) ∧ w'.cell? ⟨PX, 7, none⟩ = some (.int .u32 (wv h)) ∧ w'.cell? ⟨bk, j, none⟩ = some (.int .u32 (wv kj)) ∧ w'.cell? ⟨PW, j, none⟩ = some (.int .u32 (wv wj))) (by kernel_rfl) ⟨z4, z5, z6, z7, ck, cw⟩ (fun hHeld => ?_)
                refine wpAnyH_take (i := 0) (oi := ⟨some 62, _, _, _, _, _⟩) (v := ?_) rfl (by kernel_rfl) (by decide +kernel) (by decide +kernel) (fun _ _ _ h => h) (Or.inl ⟨by rfl, ?_⟩) (by assumption) ?_
                rotate_left 1
                · (intro w' hSw; obtain ⟨s4, s5, s6, s7, sk, sw⟩ := hSw; go_simp; try with_reducible rfl)
                try simp only [Act.put, List.setIfInBounds_toArray, List.set_cons_zero, List.set_cons_succ]
                refine wpAnyH_take (i := 1) (oi := ⟨some 63, _, _, _, _, _⟩) (v := ?_) rfl (by kernel_rfl) (by decide +kernel) (by decide +kernel) (fun _ _ _ h => h) (Or.inl ⟨by rfl, ?_⟩) (by assumption) ?_
                rotate_left 1
                · (intro w' hSw; obtain ⟨s4, s5, s6, s7, sk, sw⟩ := hSw; go_simp; try with_reducible rfl)
                try simp only [Act.put, List.setIfInBounds_toArray, List.set_cons_zero, List.set_cons_succ]
                refine wpAnyH_take (i := 2) (oi := ⟨some 64, _, _, _, _, _⟩) (v := ?_) rfl (by kernel_rfl) (by decide +kernel) (by decide +kernel) (fun _ _ _ h => h) (Or.inl ⟨by rfl, ?_⟩) (by assumption) ?_
                rotate_left 1
                · (intro w' hSw; obtain ⟨s4, s5, s6, s7, sk, sw⟩ := hSw; go_simp; try with_reducible rfl)
                try simp only [Act.put, List.setIfInBounds_toArray, List.set_cons_zero, List.set_cons_succ]
                refine wpAnyH_take (i := 3) (oi := ⟨some 65, _, _, _, _, _⟩) (v := ?_) rfl (by kernel_rfl) (by decide +kernel) (by decide +kernel) (fun _ _ _ h => h) (Or.inl ⟨by rfl, ?_⟩) (by assumption) ?_
                rotate_left 1
                · (intro w' hSw; obtain ⟨s4, s5, s6, s7, sk, sw⟩ := hSw; go_simp; try with_reducible rfl)
                try simp only [Act.put, List.setIfInBounds_toArray, List.set_cons_zero, List.set_cons_succ]
                refine wpAnyH_take (i := 6) (oi := ⟨some 68, _, _, _, _, _⟩) (v := ?_) rfl (by kernel_rfl) (by decide +kernel) (by decide +kernel) (fun _ _ _ h => h) (Or.inl ⟨by rfl, ?_⟩) (by assumption) ?_
                rotate_left 1
                · (intro w' hSw; obtain ⟨s4, s5, s6, s7, sk, sw⟩ := hSw; go_simp; try with_reducible rfl)
                try simp only [Act.put, List.setIfInBounds_toArray, List.set_cons_zero, List.set_cons_succ]
                refine wpAnyH_take (i := 7) (oi := ⟨some 69, _, _, _, _, _⟩) (v := ?_) rfl (by kernel_rfl) (by decide +kernel) (by decide +kernel) (fun _ _ _ h => h) (Or.inl ⟨by rfl, ?_⟩) (by assumption) ?_
                rotate_left 1
                · (intro w' hSw; obtain ⟨s4, s5, s6, s7, sk, sw⟩ := hSw; go_simp; try with_reducible rfl)
                try simp only [Act.put, List.setIfInBounds_toArray, List.set_cons_zero, List.set_cons_succ]
                refine wpAnyH_take (i := 8) (oi := ⟨some 70, _, _, _, _, _⟩) (v := ?_) rfl (by kernel_rfl) (by decide +kernel) (by decide +kernel) (fun _ _ _ h => h) (Or.inl ⟨by rfl, ?_⟩) (by assumption) ?_
                rotate_left 1
                · (intro w' hSw; obtain ⟨s4, s5, s6, s7, sk, sw⟩ := hSw; go_simp; try with_reducible rfl)
                try simp only [Act.put, List.setIfInBounds_toArray, List.set_cons_zero, List.set_cons_succ]
                refine wpAnyH_take (i := 9) (oi := ⟨some 71, _, _, _, _, _⟩) (v := ?_) rfl (by kernel_rfl) (by decide +kernel) (by decide +kernel) (fun _ _ _ h => h) (Or.inl ⟨by rfl, ?_⟩) (by assumption) ?_
                rotate_left 1
                · (intro w' hSw; obtain ⟨s4, s5, s6, s7, sk, sw⟩ := hSw; go_simp; try with_reducible rfl)
                try simp only [Act.put, List.setIfInBounds_toArray, List.set_cons_zero, List.set_cons_succ]
                refine wpAnyH_take (i := 10) (oi := ⟨some 72, _, _, _, _, _⟩) (v := ?_) rfl (by kernel_rfl) (by decide +kernel) (by decide +kernel) (fun _ _ _ h => h) (Or.inl ⟨by rfl, ?_⟩) (by assumption) ?_
                rotate_left 1
                · (intro w' hSw; obtain ⟨s4, s5, s6, s7, sk, sw⟩ := hSw; go_simp; try with_reducible rfl)
                try simp only [Act.put, List.setIfInBounds_toArray, List.set_cons_zero, List.set_cons_succ]
                refine wpAnyH_take (i := 11) (oi := ⟨some 73, _, _, _, _, _⟩) (v := ?_) rfl (by kernel_rfl) (by decide +kernel) (by decide +kernel) (fun _ _ _ h => h) (Or.inl ⟨by rfl, ?_⟩) (by assumption) ?_
                rotate_left 1
                · (intro w' hSw; obtain ⟨s4, s5, s6, s7, sk, sw⟩ := hSw; go_simp; try with_reducible rfl)
                try simp only [Act.put, List.setIfInBounds_toArray, List.set_cons_zero, List.set_cons_succ]
                refine wpAnyH_take (i := 12) (oi := ⟨some 74, _, _, _, _, _⟩) (v := ?_) rfl (by kernel_rfl) (by decide +kernel) (by decide +kernel) (fun _ _ _ h => h) (Or.inl ⟨by rfl, ?_⟩) (by assumption) ?_
                rotate_left 1
                · (intro w' hSw; obtain ⟨s4, s5, s6, s7, sk, sw⟩ := hSw; go_simp; try with_reducible rfl)
                try simp only [Act.put, List.setIfInBounds_toArray, List.set_cons_zero, List.set_cons_succ]
                refine wpAnyH_take (i := 13) (oi := ⟨some 75, _, _, _, _, _⟩) (v := .int .u32 (wv (~~~e))) rfl (by kernel_rfl) (by decide +kernel) (by decide +kernel) (fun _ _ _ h => h) (Or.inl ⟨by rfl, ?_⟩) (by assumption) ?_
                rotate_left 0
                · (intro w' hSw; obtain ⟨s4, s5, s6, s7, sk, sw⟩ := hSw; go_simp; first | done | exact wv_not' e)
                try simp only [Act.put, List.setIfInBounds_toArray, List.set_cons_zero, List.set_cons_succ]
                refine wpAnyH_take (i := 14) (oi := ⟨some 76, _, _, _, _, _⟩) (v := ?_) rfl (by kernel_rfl) (by decide +kernel) (by decide +kernel) (fun _ _ _ h => h) (Or.inl ⟨by rfl, ?_⟩) (by assumption) ?_
                rotate_left 1
                · (intro w' hSw; obtain ⟨s4, s5, s6, s7, sk, sw⟩ := hSw; go_simp; try with_reducible rfl)
                try simp only [Act.put, List.setIfInBounds_toArray, List.set_cons_zero, List.set_cons_succ]
                refine wpAnyH_take (i := 15) (oi := ⟨some 77, _, _, _, _, _⟩) (v := ?_) rfl (by kernel_rfl) (by decide +kernel) (by decide +kernel) (fun _ _ _ h => h) (Or.inl ⟨by rfl, ?_⟩) (by assumption) ?_
                rotate_left 1
                · (intro w' hSw; obtain ⟨s4, s5, s6, s7, sk, sw⟩ := hSw; go_simp; try with_reducible rfl)
                try simp only [Act.put, List.setIfInBounds_toArray, List.set_cons_zero, List.set_cons_succ]
                refine wpAnyH_take (i := 16) (oi := ⟨some 78, _, _, _, _, _⟩) (v := ?_) rfl (by kernel_rfl) (by decide +kernel) (by decide +kernel) (fun _ _ _ h => h) (Or.inl ⟨by rfl, ?_⟩) (by assumption) ?_
                rotate_left 1
                · (intro w' hSw; obtain ⟨s4, s5, s6, s7, sk, sw⟩ := hSw; go_simp; try with_reducible rfl)
                try simp only [Act.put, List.setIfInBounds_toArray, List.set_cons_zero, List.set_cons_succ]
                refine wpAnyH_take (i := 17) (oi := ⟨some 79, _, _, _, _, _⟩) (v := ?_) rfl (by kernel_rfl) (by decide +kernel) (by decide +kernel) (fun _ _ _ h => h) (Or.inl ⟨by rfl, ?_⟩) (by assumption) ?_
                rotate_left 1
                · (intro w' hSw; obtain ⟨s4, s5, s6, s7, sk, sw⟩ := hSw; go_simp; try with_reducible rfl)
                try simp only [Act.put, List.setIfInBounds_toArray, List.set_cons_zero, List.set_cons_succ]
                refine wpAnyH_take (i := 19) (oi := ⟨some 81, _, _, _, _, _⟩) (v := ?_) rfl (by kernel_rfl) (by decide +kernel) (by decide +kernel) (fun _ _ _ h => h) (Or.inl ⟨by rfl, ?_⟩) (by assumption) ?_
                rotate_left 1
                · (intro w' hSw; obtain ⟨s4, s5, s6, s7, sk, sw⟩ := hSw; go_simp; try with_reducible rfl)
                try simp only [Act.put, List.setIfInBounds_toArray, List.set_cons_zero, List.set_cons_succ]
                refine wpAnyH_take (i := 20) (oi := ⟨some 82, _, _, _, _, _⟩) (v := ?_) rfl (by kernel_rfl) (by decide +kernel) (by decide +kernel) (fun _ _ _ h => h) (Or.inl ⟨by rfl, ?_⟩) (by assumption) ?_
                rotate_left 1
                · (intro w' hSw; obtain ⟨s4, s5, s6, s7, sk, sw⟩ := hSw; go_simp; try with_reducible rfl)
                try simp only [Act.put, List.setIfInBounds_toArray, List.set_cons_zero, List.set_cons_succ]
                refine wpAnyH_take (i := 21) (oi := ⟨some 83, _, _, _, _, _⟩) (v := ?_) rfl (by kernel_rfl) (by decide +kernel) (by decide +kernel) (fun _ _ _ h => h) (Or.inl ⟨by rfl, ?_⟩) (by assumption) ?_
                rotate_left 1
                · (intro w' hSw; obtain ⟨s4, s5, s6, s7, sk, sw⟩ := hSw; go_simp; try with_reducible rfl)
                try simp only [Act.put, List.setIfInBounds_toArray, List.set_cons_zero, List.set_cons_succ]
                refine wpAnyH_take (i := 22) (oi := ⟨some 84, _, _, _, _, _⟩) (v := ?_) rfl (by kernel_rfl) (by decide +kernel) (by decide +kernel) (fun _ _ _ h => h) (Or.inl ⟨by rfl, ?_⟩) (by assumption) ?_
                rotate_left 1
                · (intro w' hSw; obtain ⟨s4, s5, s6, s7, sk, sw⟩ := hSw; go_simp; try with_reducible rfl)
                try simp only [Act.put, List.setIfInBounds_toArray, List.set_cons_zero, List.set_cons_succ]
                refine wpAnyH_take (i := 24) (oi := ⟨some 86, _, _, _, _, _⟩) (v := ?_) rfl (by kernel_rfl) (by decide +kernel) (by decide +kernel) (fun _ _ _ h => h) (Or.inl ⟨by rfl, ?_⟩) (by assumption) ?_
                rotate_left 1
                · (intro w' hSw; obtain ⟨s4, s5, s6, s7, sk, sw⟩ := hSw; go_simp; try with_reducible rfl)
                try simp only [Act.put, List.setIfInBounds_toArray, List.set_cons_zero, List.set_cons_succ]
                refine wpAnyH_take (i := 25) (oi := ⟨some 87, _, _, _, _, _⟩) (v := ?_) rfl (by kernel_rfl) (by decide +kernel) (by decide +kernel) (fun _ _ _ h => h) (Or.inl ⟨by rfl, ?_⟩) (by assumption) ?_
                rotate_left 1
                · (intro w' hSw; obtain ⟨s4, s5, s6, s7, sk, sw⟩ := hSw; go_simp; try with_reducible rfl)
                try simp only [Act.put, List.setIfInBounds_toArray, List.set_cons_zero, List.set_cons_succ]
                refine wpAnyH_take (i := 26) (oi := ⟨some 88, _, _, _, _, _⟩) (v := ?_) rfl (by kernel_rfl) (by decide +kernel) (by decide +kernel) (fun _ _ _ h => h) (Or.inl ⟨by rfl, ?_⟩) (by assumption) ?_
                rotate_left 1
                · (intro w' hSw; obtain ⟨s4, s5, s6, s7, sk, sw⟩ := hSw; go_simp; try with_reducible rfl)
                try simp only [Act.put, List.setIfInBounds_toArray, List.set_cons_zero, List.set_cons_succ]
                refine wpAnyH_ready (rs := [4]) (by decide +kernel) (by simp) ?_
                refine AllReadyH.cons rfl (fun K hK => ?_) AllReadyH.nil
                go_simp
                go_at_call 87
                refine (rthree_any e 6 11 25 _ (by omega) (by omega) (by omega) (by omega) (by omega) (by omega)).mono ?_
                rintro e' w5 ⟨rfl, hb5⟩
                have hbb5 : Below (PX + 1) wr w5 := (Below.refl _ _).drew.trans (hb5.mono HZ.out)
                refine hK.out _ _ (⟨(hbb5.cell (p := ⟨PX, 4, none⟩) (Nat.lt_succ_self _)).trans z4, (hbb5.cell (p := ⟨PX, 5, none⟩) (Nat.lt_succ_self _)).trans z5, (hbb5.cell (p := ⟨PX, 6, none⟩) (Nat.lt_succ_self _)).trans z6, (hbb5.cell (p := ⟨PX, 7, none⟩) (Nat.lt_succ_self _)).trans z7, (hbb5.cell (p := ⟨bk, j, none⟩) (Nat.lt_succ_of_lt hlK)).trans ck, (hbb5.cell (p := ⟨PW, j, none⟩) (Nat.lt_succ_of_lt hPX)).trans cw⟩) (fun hHeld => ?_)
                clear hK K
                try simp only [Act.put, List.setIfInBounds_toArray, List.set_cons_zero, List.set_cons_succ]
                refine wpAnyH_take (i := 5) (oi := ⟨some 67, _, _, _, _, _⟩) (v := ?_) rfl (by kernel_rfl) (by decide +kernel) (by decide +kernel) (fun _ _ _ h => h) (Or.inl ⟨by rfl, ?_⟩) (by assumption) ?_
                rotate_left 1
                · (intro w' hSw; obtain ⟨s4, s5, s6, s7, sk, sw⟩ := hSw; go_simp; try with_reducible rfl)
                try simp only [Act.put, List.setIfInBounds_toArray, List.set_cons_zero, List.set_cons_succ]
                refine wpAnyH_take (i := 18) (oi := ⟨some 80, _, _, _, _, _⟩) (v := ?_) rfl (by kernel_rfl) (by decide +kernel) (by decide +kernel) (fun _ _ _ h => h) (Or.inl ⟨by rfl, ?_⟩) (by assumption) ?_
                rotate_left 1
                · (intro w' hSw; obtain ⟨s4, s5, s6, s7, sk, sw⟩ := hSw; go_simp; try with_reducible rfl)
                try simp only [Act.put, List.setIfInBounds_toArray, List.set_cons_zero, List.set_cons_succ]
                refine wpAnyH_take (i := 23) (oi := ⟨some 85, _, _, _, _, _⟩) (v := ?_) rfl (by kernel_rfl) (by decide +kernel) (by decide +kernel) (fun _ _ _ h => h) (Or.inl ⟨by rfl, ?_⟩) (by assumption) ?_
                rotate_left 1
                · (intro w' hSw; obtain ⟨s4, s5, s6, s7, sk, sw⟩ := hSw; go_simp; try with_reducible rfl)
                try simp only [Act.put, List.setIfInBounds_toArray, List.set_cons_zero, List.set_cons_succ]
                refine wpAnyH_take (i := 27) (oi := ⟨some 89, _, _, _, _, _⟩) (v := ?_) rfl (by kernel_rfl) (by decide +kernel) (by decide +kernel) (fun _ _ _ h => h) (Or.inl ⟨by rfl, ?_⟩) (by assumption) ?_
                rotate_left 1
                · (intro w' hSw; obtain ⟨s4, s5, s6, s7, sk, sw⟩ := hSw; go_simp; try with_reducible rfl)
                try simp only [Act.put, List.setIfInBounds_toArray, List.set_cons_zero, List.set_cons_succ]
                refine wpAnyH_take (i := 28) (oi := ⟨some 12, _, _, _, _, _⟩) (v := ?_) rfl (by kernel_rfl) (by decide +kernel) (by decide +kernel) (fun _ _ _ h => h) (Or.inl ⟨by rfl, ?_⟩) (by assumption) ?_
                rotate_left 1
                · (intro w' hSw; obtain ⟨s4, s5, s6, s7, sk, sw⟩ := hSw; go_simp; try with_reducible rfl)
                try simp only [Act.put, List.setIfInBounds_toArray, List.set_cons_zero, List.set_cons_succ]
                refine wpAnyH_done (by decide +kernel) ?_ _
                refine NoPanic.normal ?_
                show K0 _ _
                refine hK0 _ _ (Met.intro (hJ0 _ _ ?_))
                repeat apply Exists.intro
                exact ⟨⟨rfl, hbb5⟩, rfl⟩
              case rest =>
                rename World => wA
                obtain ⟨hv12, hb5⟩ := hcut
                subst hv12
                have y0 := (hb5.cell (p := ⟨PX, 0, none⟩) (Nat.lt_succ_self _)).trans z0
                have y1 := (hb5.cell (p := ⟨PX, 1, none⟩) (Nat.lt_succ_self _)).trans z1
                have y2 := (hb5.cell (p := ⟨PX, 2, none⟩) (Nat.lt_succ_self _)).trans z2
                have y3 := (hb5.cell (p := ⟨PX, 3, none⟩) (Nat.lt_succ_self _)).trans z3
                have y4 := (hb5.cell (p := ⟨PX, 4, none⟩) (Nat.lt_succ_self _)).trans z4
                have y5 := (hb5.cell (p := ⟨PX, 5, none⟩) (Nat.lt_succ_self _)).trans z5
                have y6 := (hb5.cell (p := ⟨PX, 6, none⟩) (Nat.lt_succ_self _)).trans z6
                have HAC := Lib.hid (HAX.out.below hb5 (Nat.lt_succ_self _))
                have HZC := Lib.hid (lt_of_block HAC.out)
                have HB5 := Lib.hid hb5
                have hmo : bits BinOp.or IntKind.u32 (bits BinOp.or IntKind.u32 (bits BinOp.and IntKind.u32 (wv a) (wv b)) (bits BinOp.and IntKind.u32 (wv a) (wv c))) (bits BinOp.and IntKind.u32 (wv b) (wv c)) = wv (mostB a b c) := by rw [wv_and, wv_and, wv_and, wv_or, wv_or]; rfl
                generalize hT1 : h + rot3 e 6 11 25 + pickB e f g + kj + wj = t1 at *
                have HT1 := Lib.hid hT1
                clear hT1 hpk z0 z1 z2 z3 z4 z5 z6 z7 ck cw hb5
                go_wp2_with fail
                go_cut [13] (fun v13 w7 => v13 = .int .u32 (wv (rot3 a 2 13 22 + mostB a b c)) ∧ Below (PX + 1) wA w7)
                case first =>
                  rename_i J0 K0 hJ0 hK0
                  refine wp_region_noPanic ?_
                  refine wp_region_held_drew (S := fun w' => w'.cell? ⟨PX, 0, none⟩ = some (.int .u32 (wv a)) ∧ w'.cell? ⟨PX, 1, none⟩ = some (.int .u32 (wv b)) ∧ w'.cell? ⟨PX, 2, none⟩ = some (.int .u32 (wv c))) (by kernel_rfl) ⟨y0, y1, y2⟩ (fun hHeld => ?_)
                  refine wpAnyH_take (i := 0) (oi := ⟨some 90, _, _, _, _, _⟩) (v := ?_) rfl (by kernel_rfl) (by decide +kernel) (by decide +kernel) (fun _ _ _ h => h) (Or.inl ⟨by rfl, ?_⟩) (by assumption) ?_
                  rotate_left 1
                  · (intro w' hSw; obtain ⟨s0, s1, s2⟩ := hSw; go_simp; try with_reducible rfl)
                  try simp only [Act.put, List.setIfInBounds_toArray, List.set_cons_zero, List.set_cons_succ]
                  refine wpAnyH_take (i := 1) (oi := ⟨some 91, _, _, _, _, _⟩) (v := ?_) rfl (by kernel_rfl) (by decide +kernel) (by decide +kernel) (fun _ _ _ h => h) (Or.inl ⟨by rfl, ?_⟩) (by assumption) ?_
                  rotate_left 1
                  · (intro w' hSw; obtain ⟨s0, s1, s2⟩ := hSw; go_simp; try with_reducible rfl)
                  try simp only [Act.put, List.setIfInBounds_toArray, List.set_cons_zero, List.set_cons_succ]
                  refine wpAnyH_take (i := 3) (oi := ⟨some 93, _, _, _, _, _⟩) (v := ?_) rfl (by kernel_rfl) (by decide +kernel) (by decide +kernel) (fun _ _ _ h => h) (Or.inl ⟨by rfl, ?_⟩) (by assumption) ?_
                  rotate_left 1
                  · (intro w' hSw; obtain ⟨s0, s1, s2⟩ := hSw; go_simp; try with_reducible rfl)
                  try simp only [Act.put, List.setIfInBounds_toArray, List.set_cons_zero, List.set_cons_succ]
                  refine wpAnyH_take (i := 4) (oi := ⟨some 94, _, _, _, _, _⟩) (v := ?_) rfl (by kernel_rfl) (by decide +kernel) (by decide +kernel) (fun _ _ _ h => h) (Or.inl ⟨by rfl, ?_⟩) (by assumption) ?_
                  rotate_left 1
                  · (intro w' hSw; obtain ⟨s0, s1, s2⟩ := hSw; go_simp; try with_reducible rfl)
                  try simp only [Act.put, List.setIfInBounds_toArray, List.set_cons_zero, List.set_cons_succ]
                  refine wpAnyH_take (i := 5) (oi := ⟨some 95, _, _, _, _, _⟩) (v := ?_) rfl (by kernel_rfl) (by decide +kernel) (by decide +kernel) (fun _ _ _ h => h) (Or.inl ⟨by rfl, ?_⟩) (by assumption) ?_
                  rotate_left 1
                  · (intro w' hSw; obtain ⟨s0, s1, s2⟩ := hSw; go_simp; try with_reducible rfl)
                  try simp only [Act.put, List.setIfInBounds_toArray, List.set_cons_zero, List.set_cons_succ]
                  refine wpAnyH_take (i := 6) (oi := ⟨some 96, _, _, _, _, _⟩) (v := ?_) rfl (by kernel_rfl) (by decide +kernel) (by decide +kernel) (fun _ _ _ h => h) (Or.inl ⟨by rfl, ?_⟩) (by assumption) ?_
                  rotate_left 1
                  · (intro w' hSw; obtain ⟨s0, s1, s2⟩ := hSw; go_simp; try with_reducible rfl)
                  try simp only [Act.put, List.setIfInBounds_toArray, List.set_cons_zero, List.set_cons_succ]
                  refine wpAnyH_take (i := 7) (oi := ⟨some 97, _, _, _, _, _⟩) (v := ?_) rfl (by kernel_rfl) (by decide +kernel) (by decide +kernel) (fun _ _ _ h => h) (Or.inl ⟨by rfl, ?_⟩) (by assumption) ?_
                  rotate_left 1
                  · (intro w' hSw; obtain ⟨s0, s1, s2⟩ := hSw; go_simp; try with_reducible rfl)
                  try simp only [Act.put, List.setIfInBounds_toArray, List.set_cons_zero, List.set_cons_succ]
                  refine wpAnyH_take (i := 8) (oi := ⟨some 98, _, _, _, _, _⟩) (v := ?_) rfl (by kernel_rfl) (by decide +kernel) (by decide +kernel) (fun _ _ _ h => h) (Or.inl ⟨by rfl, ?_⟩) (by assumption) ?_
                  rotate_left 1
                  · (intro w' hSw; obtain ⟨s0, s1, s2⟩ := hSw; go_simp; try with_reducible rfl)
                  try simp only [Act.put, List.setIfInBounds_toArray, List.set_cons_zero, List.set_cons_succ]
                  refine wpAnyH_take (i := 9) (oi := ⟨some 99, _, _, _, _, _⟩) (v := ?_) rfl (by kernel_rfl) (by decide +kernel) (by decide +kernel) (fun _ _ _ h => h) (Or.inl ⟨by rfl, ?_⟩) (by assumption) ?_
                  rotate_left 1
                  · (intro w' hSw; obtain ⟨s0, s1, s2⟩ := hSw; go_simp; try with_reducible rfl)
                  try simp only [Act.put, List.setIfInBounds_toArray, List.set_cons_zero, List.set_cons_succ]
                  refine wpAnyH_take (i := 10) (oi := ⟨some 100, _, _, _, _, _⟩) (v := ?_) rfl (by kernel_rfl) (by decide +kernel) (by decide +kernel) (fun _ _ _ h => h) (Or.inl ⟨by rfl, ?_⟩) (by assumption) ?_
                  rotate_left 1
                  · (intro w' hSw; obtain ⟨s0, s1, s2⟩ := hSw; go_simp; try with_reducible rfl)
                  try simp only [Act.put, List.setIfInBounds_toArray, List.set_cons_zero, List.set_cons_succ]
                  refine wpAnyH_take (i := 11) (oi := ⟨some 101, _, _, _, _, _⟩) (v := ?_) rfl (by kernel_rfl) (by decide +kernel) (by decide +kernel) (fun _ _ _ h => h) (Or.inl ⟨by rfl, ?_⟩) (by assumption) ?_
                  rotate_left 1
                  · (intro w' hSw; obtain ⟨s0, s1, s2⟩ := hSw; go_simp; try with_reducible rfl)
                  try simp only [Act.put, List.setIfInBounds_toArray, List.set_cons_zero, List.set_cons_succ]
                  refine wpAnyH_take (i := 12) (oi := ⟨some 102, _, _, _, _, _⟩) (v := ?_) rfl (by kernel_rfl) (by decide +kernel) (by decide +kernel) (fun _ _ _ h => h) (Or.inl ⟨by rfl, ?_⟩) (by assumption) ?_
                  rotate_left 1
                  · (intro w' hSw; obtain ⟨s0, s1, s2⟩ := hSw; go_simp; try with_reducible rfl)
                  try simp only [Act.put, List.setIfInBounds_toArray, List.set_cons_zero, List.set_cons_succ]
                  refine wpAnyH_take (i := 13) (oi := ⟨some 103, _, _, _, _, _⟩) (v := ?_) rfl (by kernel_rfl) (by decide +kernel) (by decide +kernel) (fun _ _ _ h => h) (Or.inl ⟨by rfl, ?_⟩) (by assumption) ?_
                  rotate_left 1
                  · (intro w' hSw; obtain ⟨s0, s1, s2⟩ := hSw; go_simp; try with_reducible rfl)
                  try simp only [Act.put, List.setIfInBounds_toArray, List.set_cons_zero, List.set_cons_succ]
                  refine wpAnyH_take (i := 14) (oi := ⟨some 104, _, _, _, _, _⟩) (v := ?_) rfl (by kernel_rfl) (by decide +kernel) (by decide +kernel) (fun _ _ _ h => h) (Or.inl ⟨by rfl, ?_⟩) (by assumption) ?_
                  rotate_left 1
                  · (intro w' hSw; obtain ⟨s0, s1, s2⟩ := hSw; go_simp; try with_reducible rfl)
                  try simp only [Act.put, List.setIfInBounds_toArray, List.set_cons_zero, List.set_cons_succ]
                  refine wpAnyH_take (i := 15) (oi := ⟨some 105, _, _, _, _, _⟩) (v := ?_) rfl (by kernel_rfl) (by decide +kernel) (by decide +kernel) (fun _ _ _ h => h) (Or.inl ⟨by rfl, ?_⟩) (by assumption) ?_
                  rotate_left 1
                  · (intro w' hSw; obtain ⟨s0, s1, s2⟩ := hSw; go_simp; try with_reducible rfl)
                  try simp only [Act.put, List.setIfInBounds_toArray, List.set_cons_zero, List.set_cons_succ]
                  refine wpAnyH_take (i := 16) (oi := ⟨some 106, _, _, _, _, _⟩) (v := ?_) rfl (by kernel_rfl) (by decide +kernel) (by decide +kernel) (fun _ _ _ h => h) (Or.inl ⟨by rfl, ?_⟩) (by assumption) ?_
                  rotate_left 1
                  · (intro w' hSw; obtain ⟨s0, s1, s2⟩ := hSw; go_simp; try with_reducible rfl)
                  try simp only [Act.put, List.setIfInBounds_toArray, List.set_cons_zero, List.set_cons_succ]
                  refine wpAnyH_take (i := 17) (oi := ⟨some 107, _, _, _, _, _⟩) (v := ?_) rfl (by kernel_rfl) (by decide +kernel) (by decide +kernel) (fun _ _ _ h => h) (Or.inl ⟨by rfl, ?_⟩) (by assumption) ?_
                  rotate_left 1
                  · (intro w' hSw; obtain ⟨s0, s1, s2⟩ := hSw; go_simp; try with_reducible rfl)
                  try simp only [Act.put, List.setIfInBounds_toArray, List.set_cons_zero, List.set_cons_succ]
                  refine wpAnyH_take (i := 18) (oi := ⟨some 108, _, _, _, _, _⟩) (v := ?_) rfl (by kernel_rfl) (by decide +kernel) (by decide +kernel) (fun _ _ _ h => h) (Or.inl ⟨by rfl, ?_⟩) (by assumption) ?_
                  rotate_left 1
                  · (intro w' hSw; obtain ⟨s0, s1, s2⟩ := hSw; go_simp; try with_reducible rfl)
                  try simp only [Act.put, List.setIfInBounds_toArray, List.set_cons_zero, List.set_cons_succ]
                  refine wpAnyH_take (i := 19) (oi := ⟨some 109, _, _, _, _, _⟩) (v := ?_) rfl (by kernel_rfl) (by decide +kernel) (by decide +kernel) (fun _ _ _ h => h) (Or.inl ⟨by rfl, ?_⟩) (by assumption) ?_
                  rotate_left 1
                  · (intro w' hSw; obtain ⟨s0, s1, s2⟩ := hSw; go_simp; try with_reducible rfl)
                  try simp only [Act.put, List.setIfInBounds_toArray, List.set_cons_zero, List.set_cons_succ]
                  refine wpAnyH_ready (rs := [2]) (by decide +kernel) (by simp) ?_
                  refine AllReadyH.cons rfl (fun K hK => ?_) AllReadyH.nil
                  go_simp
                  go_at_call 87
                  refine (rthree_any a 2 13 22 _ (by omega) (by omega) (by omega) (by omega) (by omega) (by omega)).mono ?_
                  rintro e' w7 ⟨rfl, hb7⟩
                  have hbb7 : Below (PX + 1) wA w7 := (Below.refl _ _).drew.trans (hb7.mono HZC.out)
                  refine hK.out _ _ (⟨(hbb7.cell (p := ⟨PX, 0, none⟩) (Nat.lt_succ_self _)).trans y0, (hbb7.cell (p := ⟨PX, 1, none⟩) (Nat.lt_succ_self _)).trans y1, (hbb7.cell (p := ⟨PX, 2, none⟩) (Nat.lt_succ_self _)).trans y2⟩) (fun hHeld => ?_)
                  clear hK K
                  try simp only [Act.put, List.setIfInBounds_toArray, List.set_cons_zero, List.set_cons_succ]
                  refine wpAnyH_take (i := 20) (oi := ⟨some 110, _, _, _, _, _⟩) (v := ?_) rfl (by kernel_rfl) (by decide +kernel) (by decide +kernel) (fun _ _ _ h => h) (Or.inl ⟨by rfl, ?_⟩) (by assumption) ?_
                  rotate_left 1
                  · (intro w' hSw; obtain ⟨s0, s1, s2⟩ := hSw; go_simp; try with_reducible rfl)
                  try simp only [Act.put, List.setIfInBounds_toArray, List.set_cons_zero, List.set_cons_succ]
                  refine wpAnyH_take (i := 21) (oi := ⟨some 13, _, _, _, _, _⟩) (v := ?_) rfl (by kernel_rfl) (by decide +kernel) (by decide +kernel) (fun _ _ _ h => h) (Or.inl ⟨by rfl, ?_⟩) (by assumption) ?_
                  rotate_left 1
                  · (intro w' hSw; obtain ⟨s0, s1, s2⟩ := hSw; go_simp; try with_reducible rfl)
                  try simp only [Act.put, List.setIfInBounds_toArray, List.set_cons_zero, List.set_cons_succ]
                  refine wpAnyH_done (by decide +kernel) ?_ _
                  refine NoPanic.normal ?_
                  show K0 _ _
                  refine hK0 _ _ (Met.intro (hJ0 _ _ ?_))
                  repeat apply Exists.intro
                  exact ⟨⟨rfl, hbb7⟩, rfl⟩
                case rest =>
                  obtain ⟨hv13, hb7⟩ := hcut
                  subst hv13
                  have q0 := (hb7.cell (p := ⟨PX, 0, none⟩) (Nat.lt_succ_self _)).trans y0
                  have q1 := (hb7.cell (p := ⟨PX, 1, none⟩) (Nat.lt_succ_self _)).trans y1
                  have q2 := (hb7.cell (p := ⟨PX, 2, none⟩) (Nat.lt_succ_self _)).trans y2
                  have q3 := (hb7.cell (p := ⟨PX, 3, none⟩) (Nat.lt_succ_self _)).trans y3
                  have q4 := (hb7.cell (p := ⟨PX, 4, none⟩) (Nat.lt_succ_self _)).trans y4
                  have q5 := (hb7.cell (p := ⟨PX, 5, none⟩) (Nat.lt_succ_self _)).trans y5
                  have q6 := (hb7.cell (p := ⟨PX, 6, none⟩) (Nat.lt_succ_self _)).trans y6
                  have HR7 := Lib.hid (show wc.heap[PX]? = some (.cells (wvs [a, b, c, d, e, f, g, h]) 81 (0, 0)) from HAC.out.below hb7 (Nat.lt_succ_self _))
                  have HB7 := Lib.hid ((HBW.out.trans (HB5.out.mono (Nat.le_succ _))).trans (hb7.mono (Nat.le_succ _)))
                  clear y0 y1 y2 y3 y4 y5 y6 hb7 hmo
                  generalize hT2 : rot3 a 2 13 22 + mostB a b c = t2 at *
                  have HT2 := Lib.hid hT2
                  clear hT2
                  have SZ := Lib.hid (show (Tryd.prog.info? 81).map (·.size) = some (wvs [t1 + t2, a, b, c, d + t1, e, f, g]).size by rw [show (Tryd.prog.info? 81).map (·.size) = some 8 by kernel_rfl]; rfl)
                  go_wp2_with (first
                    | (with_reducible refine wpList_store_row (o := ⟨none, .store _ (.tmp 10) _, _, _, _, _⟩) rfl 81 _ _ rfl PX (wvs [t1 + t2, a, b, c, d + t1, e, f, g]) rfl ?c2 81 (wvs [a, b, c, d, e, f, g, h]) HR7.out SZ.out ?c1 (wvs_one _) ?_))
                  case c1 => rfl
                  case c2 => rfl
                  go_roundw
                  case rel => exact ⟨j + 1, [t1 + t2, a, b, c, d + t1, e, f, g], by omega, by go_num, rfl, by rw [HNX.out, round_eq, HT1.out, HT2.out], setRow_heap _ PX _ _ _ _ HR7.out, HB7.out.trans ⟨rfl, rfl, rfl, by simp, fun k hk => setRow_other _ _ k _ (by omega)⟩⟩
                  case measure => simp [intOf]; omega
            · have hj2 : j = 64 := by omega
              have HXE := Lib.hid (show X = rounds ks (sch l 64) 64 x by rw [hXe, hj2])
              have HXL := Lib.hid hXl
              have HSS := Lib.hid ((hbx.block w.heap.size (by omega)).trans ((HBX.out.block w.heap.size (by omega)).trans HS2.out))
              have HRR := Lib.hid ((hbx.block PR (by omega)).trans ((HBX.out.block PR (by omega)).trans (HBE.out.block PR (by omega) |>.trans HR.out)))
              have HBW := Lib.hid hbx
              have HX8 := Lib.hid hx
              have hjI : (64 : Int) ≤ (j : Int) := by omega
              have HA := Lib.hid (show ArrW wr PX 81 X from hAX)
              have hwX : w.heap.size < PX := by omega
              have HPR := Lib.hid (show PR < PX by omega)
              have HWP := Lib.hid (And.intro (show w.heap.size ≤ PR by omega) hwX)
              have HWQ := Lib.hid (show w.heap.size ≤ PW by omega)
              have HBEL := Lib.hid hbel
              clear HX0 HZX HR HHS HS HMI hsz1 lKP lBP hy _hk hx hbel hbx hXe hXl hAX hj hj64 l0 l1 hwX hj2
              go_wp2_with fail
              go_loopw [131] (fun v131 wx => ∃ k : Nat, k ≤ 8 ∧ v131 = .int .i64 (k : Nat) ∧ ArrW wx PX 81 (sumP X x k) ∧ Below PX wr wx) (fun v _ => 8 - (intOf v).toNat)
              case atStart => exact ⟨0, by omega, rfl, by rw [sumP_zero _ _ HXL.out]; exact HA.out, Below.refl _ _⟩
              case round =>
                rename World => wq
                obtain ⟨k, hk, rfl, hA, hb⟩ := hrel
                by_cases hlt : k < 8
                · have hkI : (k : Int) < 8 := by omega
                  have hk0 : (0 : Int) ≤ (k : Int) := by omega
                  have ck := hA.cell (k := k) (by rw [sumP_length]; exact hlt)
                  rw [sumP_at _ _ _ hlt] at ck
                  have cs := ArrW.cell (show ArrW wq w.heap.size 81 x from (hb.block _ HWP.out.2).trans HSS.out) (k := k) (by rw [HX8.out]; exact hlt)
                  have fk := hA.free k
                  have hset := sumP_set X x k
                  generalize X.getD k 0 = p at *
                  generalize x.getD k 0 = q at *
                  have HSET := Lib.hid hset
                  have HLT := Lib.hid hlt
                  have HA2 := Lib.hid hA
                  have HB2 := Lib.hid hb
                  have hadd := wv_add
                  have haddm := wv_addm
                  clear hset hlt hA hb hk
                  go_wp2_with fail
                  go_region
                  go_wp2_with fail
                  go_roundw
                  case rel => exact ⟨k + 1, by have := HLT.out; omega, by go_num, by have e := HA2.out.set k (p + q); rw [HSET.out] at e; exact e, (HB2.out.setCell (p := ⟨PX, k, none⟩) (Nat.le_refl _) _).drew⟩
                  case measure => simp [intOf]; omega
                · have hge : (8 : Int) ≤ (k : Int) := by omega
                  have hfin : sumP X x k = blockS ks x l := by
                    rw [show k = 8 by omega, sumP_full X x HXL.out HX8.out, blockS, ← HXE.out, List.zipWith_comm]
                    congr 1
                    funext a b
                    exact BitVec.add_comm _ _
                  have hfl : (blockS ks x l).length = 8 := by rw [← hfin, sumP_length]
                  rw [hfin] at hA
                  have HA2 := Lib.hid (show wq.heap[PX]? = some (.cells (wvs (blockS ks x l)) 81 (0, 0)) from hA)
                  have HR2 := Lib.hid (show wq.heap[PR]? = some (.cells (wvs (zeros 8)) 81 (0, 0)) from (hb.block _ HPR.out).trans HRR.out)
                  have SN := Lib.hid (show (Tryd.prog.info? 81).map (·.size) = some (wvs (blockS ks x l)).size by rw [show (Tryd.prog.info? 81).map (·.size) = some 8 by kernel_rfl, wvs_size, hfl])
                  have SE := Lib.hid (show (wvs (zeros 8)).size = (wvs (blockS ks x l)).size by rw [wvs_size, wvs_size, hfl]; rfl)
                  have HB2 := Lib.hid hb
                  clear hlt hA hb hk hfin hfl
                  go_wp2_with (first
                    | (with_reducible refine wpList_load_row (o := ⟨some 143, _, _, _, _, _⟩) rfl 81 _ rfl PX rfl 81 (wvs (blockS ks x l)) (0, 0) _ HA2.out Tryd.underlying81 rfl SN.out ?_)
                    | (with_reducible refine wpList_store_row (o := ⟨none, .store _ (.tmp 6) _, _, _, _, _⟩) rfl 81 _ _ rfl PR (wvs (blockS ks x l)) rfl rfl 81 (wvs (zeros 8)) HR2.out SN.out SE.out (wvs_one _) ?_))
                  refine bodyPost_ret (v := .agg (wvs (blockS ks x l))) (results_cell_row Tryd.results65 _ _ PR 81 (wvs (blockS ks x l)) (0, 0) _ rfl (setRow_heap _ PR _ (wvs (blockS ks x l)) _ _ HR2.out) Tryd.underlying81 rfl SN.out) rfl ⟨rfl, ?_⟩
                  have hch := (((HBEL.out.trans (HBE.out.mono HWQ.out)).trans (HBX.out.mono (Nat.le_of_lt HWP.out.2))).trans (HBW.out.mono (Nat.le_of_lt HWP.out.2))).trans (HB2.out.mono (Nat.le_of_lt HWP.out.2))
                  exact hch.trans ⟨rfl, rfl, rfl, by simp, fun k hk => setRow_other _ _ k _ (by have := HWP.out.1; omega)⟩
end Go.Proofs.YtfgdddejpdjllaaDoor
