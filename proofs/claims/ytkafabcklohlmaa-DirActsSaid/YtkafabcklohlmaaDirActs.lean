/-
  'DirActs' returns true at every input, and each argument reads behind the call as it read before. Conditions: none.
-/
import Derived.Test.YtkafabcklohlmaaRows
import Derived.Test.YtkafabcklohlmaaAes0
import Derived.Test.YtkafabcklohlmaaIo
namespace Go.Proofs.Ytkafabcklohlmaa.dirActs
open Go.ChangeShapes Go.WideShapes Go.ChangeAt Go.RowKit
set_option linter.unusedVariables false

/-- What is found is short. -/
theorem find_ok (L : List SetV) (n : ByteArray) (h : ∀ s ∈ L, SetOk s) : SetOk (findD L n).1 := by
  unfold findD
  split
  · cases e : atN L n with
    | none => exact setok_zero
    | some s => exact h s (List.mem_of_find?_eq_some e)
  · exact setok_zero
theorem do_okk {L : List SetV} (k : Int) (a b : ByteArray) (h : (doD L k a b).1 = 0) : VL L := by
  have key : ∀ {n}, (findD L n).2 = 0 → VL L := fun {n} e => (find_cases L n e).1
  unfold doD at h
  split at h
  · unfold snapD at h; split at h
    · rename_i e; exact key e
    · rename_i e; exact absurd h e
  · split at h
    · unfold cloneD at h; split at h
      · rename_i e; exact key e
      · rename_i e; exact absurd h e
    · split at h
      · unfold destD at h; split at h
        · rename_i e; exact key e
        · rename_i e; exact absurd h e
      · split at h
        · unfold renD at h; split at h
          · rename_i e; exact key e
          · rename_i e; exact absurd h e
        · unfold createD at h; split at h
          · rename_i e; exact valid_iff.1 e
          · cases h
theorem do_few {L : List SetV} (k : Int) (a b : ByteArray) (h : ∀ s ∈ L, SetOk s) : (∀ s ∈ (doD L k a b).2, SetOk s) ∧ (doD L k a b).2.length ≤ L.length + 1 := by
  by_cases he : (doD L k a b).1 = 0
  · obtain ⟨h1, h2⟩ := do_valid (do_okk k a b he) k a b he
    have := lenD_le L.length k
    exact ⟨h1.okk, by omega⟩
  · rw [do_err k a b he]
    exact ⟨fun s hs => by simp at hs, by simp⟩

set_option maxRecDepth 100000 in
set_option maxHeartbeats 3200000 in
theorem walk (w : World) (a0 : Option Addr) (len0 cap0 : Nat) (x0 : List SetV) (sl0 : SlR RSetV 37 w x0 a0 len0 cap0) (a1 : Option Addr) (len1 cap1 : Nat) (x1 : List ActD) (sl1 : SlR RActD 3 w x1 a1 len1 cap1) :
    Calls Try.prog 3 #[.slice a0 len0 cap0, .slice a1 len1 cap1] w fun e w' => e = .returned (.bool true) ∧ Below w.heap.size w w' := by
  obtain ⟨hls, hoks, hll⟩ := ls_in sl0
  have HL0 := Lib.hid hls
  have HO0 := Lib.hid hoks
  have HLL := Lib.hid hll
  have HC0 := Lib.hid (And.intro sl0.cap sl0.big)
  clear sl0 hls hoks hll
  have HAL := Lib.hid (alive15 w)
  obtain ⟨hat, hok⟩ := ad_of sl1
  have HLEN := Lib.hid sl1.len
  have HCAP := Lib.hid (And.intro sl1.cap sl1.big)
  have HAT := Lib.hid hat
  have HOK := Lib.hid hok
  have nBI : (len1 : Int) ≤ 140737488351232 := by have := sl1.cap; have := sl1.big; omega
  have n0I : (0 : Int) ≤ (len1 : Int) := by omega
  clear sl1 hat hok
  obtain ⟨ZS, hzs⟩ := setR zeroSet
  have hz := zero_set
  rw [hzs.eq] at hz
  have HZ := Lib.hid hzs
  clear hzs
  go_enter Try.func3, Try.ntmps3
  go_wp2_with fail
  refine HAL.out.mono ?_
  rintro e w1 ⟨rfl, hb1⟩
  have HB1 := Lib.hid hb1
  clear hb1 HAL
  have HGR := Lib.hid (great15 _ x0 w1 (HL0.out.below HB1.out) (by rw [HLL.out]; exact Nat.le_trans HC0.out.1 HC0.out.2) HO0.out)
  go_wp2_with fail
  refine HGR.out.mono ?_
  rintro e w2 ⟨hg, hb2⟩
  have HB2 := Lib.hid (bt15 HB1.out hb2)
  clear hb2 HGR
  rcases hg with rfl | ⟨rfl, hg1, hg2⟩
  · go_wp2_with fail
    go_ret
    exact ⟨rfl, HB2.out⟩
  · have HG1 := Lib.hid (show len0 ≤ 100 by rw [← HLL.out]; exact hg1)
    clear hg1 hg2
    by_cases hbig : 60 < len1
    · have bI : (60 : Int) < (len1 : Int) := by omega
      clear hbig
      go_wp2_with fail
      go_ret
      exact ⟨rfl, HB2.out⟩
    · have bI : ¬ ((60 : Int) < (len1 : Int)) := by omega
      have HSM := Lib.hid (show len1 ≤ 60 by omega)
      clear hbig
      go_wp2_with fail
      go_loopw [0, 6, 7, 8, 9, 10, 11, 12, 13, 14, 26] (fun v0 _ _ _ _ _ _ _ _ _ v26 wr => ∃ (i : Nat) (L : List SetV), i ≤ len1 ∧ v26 = .int .i64 (i : Int) ∧ LS wr v0 L ∧ (∀ s ∈ L, SetOk s) ∧ L.length ≤ 100 + i ∧ Below w.heap.size w wr) (fun _ _ _ _ _ _ _ _ _ _ v _ => len1 - (intOf v).toNat)
      case atStart => exact ⟨0, x0, Nat.zero_le _, rfl, HL0.out.below HB2.out, HO0.out, by rw [HLL.out]; exact HG1.out, HB2.out⟩
      case round =>
        clear HB1 HB2 HL0 HO0 HLL HC0 HG1
        obtain ⟨i, L, hi, rfl, hL, ho, hn, hb⟩ := hrel
        have HB := Lib.hid hb
        have HL := Lib.hid hL
        have HO := Lib.hid ho
        have HN := Lib.hid hn
        clear hb hL ho hn
        by_cases hlt : i < len1
        · obtain ⟨q, hq⟩ : ∃ q, x1[i]? = some q := ⟨_, List.getElem?_eq_getElem (by rw [HLEN.out]; exact hlt)⟩
          obtain ⟨b, off, rfl, hrg⟩ := (HAT.out.below HB.out).at_ i q hq
          obtain ⟨c0, c1, c2⟩ := act_cellsD hrg
          have hix := index_act15 b off len1 cap1 i hlt
          have HLT := Lib.hid hlt
          have HQO := Lib.hid (HOK.out q (List.mem_of_getElem? hq))
          have HQ := Lib.hid hq
          have iI : (i : Int) < (len1 : Int) := by omega
          have i0 : (0 : Int) ≤ (i : Int) := by omega
          clear hi hlt hq hrg
          obtain ⟨kd, qa, qb⟩ := q
          dsimp only at c0 c1 c2
          go_upto_region 8 with fail
          generalize hwi : World.alloc wr (.cells #[.int .i64 kd, .string qa, .string qb] 27) = wi
          have hbi := ba15 wr (.cells #[.int .i64 kd, .string qa, .string qb] 27)
          have hni := new15 wr (.cells #[.int .i64 kd, .string qa, .string qb] 27)
          rw [hwi] at hbi hni
          have HBi := Lib.hid (bt15 HB.out hbi)
          have HNI := Lib.hid hni
          have HSI := Lib.hid hbi
          have j0 := cell_of_row wi wr.heap.size 0 _ _ _ hni
          have j1 := cell_of_row wi wr.heap.size 1 _ _ _ hni
          have j2 := cell_of_row wi wr.heap.size 2 _ _ _ hni
          have HLi := Lib.hid (HL.out.below hbi)
          clear hwi hbi hni c0 c1 c2 hix
          generalize hXX : wr.heap.size = X at *
          clear hXX
          have HLE := Lib.hid (show L.length < 1000 by have := HN.out; have := HLT.out; have := HSM.out; omega)
          have aI : (qa.size : Int) ≤ 140737488351232 := by have := HQO.out.za; dsimp only at this; omega
          have bI2 : (qb.size : Int) ≤ 140737488351232 := by have := HQO.out.zb; dsimp only at this; omega
          have a0 : (0 : Int) ≤ (qa.size : Int) := by omega
          have b0 : (0 : Int) ≤ (qb.size : Int) := by omega
          by_cases h200 : qa.size + qb.size ≤ 200
          · have hI : ¬ ((200 : Int) < (qa.size : Int) + (qb.size : Int)) := by omega
            clear h200
            have HDO := Lib.hid (pdo15 _ L kd qa qb wi HLi.out HLE.out HO.out HQO.out.za HQO.out.zb)
            go_wp2_with fail
            refine HDO.out.mono ?_
            rintro e wd ⟨vx, rfl, hox, hbd⟩
            have HX := Lib.hid hox.ls
            have HBD := Lib.hid hbd
            have HND := Lib.hid ((hbd.block X (lt_of_block HNI.out)).trans HNI.out)
            have HLD := Lib.hid (HLi.out.below hbd)
            clear hbd hox HDO HLi HNI j0 j1 j2 HSI
            have HRO := Lib.hid (rdo15 _ L kd qa qb wd HLD.out HLE.out HO.out HQO.out.za HQO.out.zb)
            have j0 := cell_of_row wd X 0 _ _ _ HND.out
            have j1 := cell_of_row wd X 1 _ _ _ HND.out
            have j2 := cell_of_row wd X 2 _ _ _ HND.out
            go_wp2_with fail
            refine HRO.out.mono ?_
            rintro e wf ⟨vy, rfl, hoy, hbf⟩
            have HY := Lib.hid hoy.ls
            have HXf := Lib.hid (HX.out.below hbf)
            have HBF := Lib.hid (bt15 HBi.out (bt15 HBD.out hbf))
            have HNF := Lib.hid ((hbf.block X (lt_of_block HND.out)).trans HND.out)
            have HLF := Lib.hid (HLD.out.below hbf)
            clear hbf hoy HRO HLD HND j0 j1 j2 HX HBi HBD
            have j1 := cell_of_row wf X 1 _ _ _ HNF.out
            have HFD := Lib.hid (pfind15 _ L qa wf HLF.out (Nat.le_of_lt HLE.out) HO.out)
            obtain ⟨AR, har⟩ := setR (findD L qa).1
            have HAR := Lib.hid har
            unfold FindPost at HFD
            rw [har.eq] at HFD
            go_wp2_with fail
            refine HFD.out.mono ?_
            rintro e wg ⟨rfl, hbg⟩
            have HBG := Lib.hid (bt15 HBF.out hbg)
            have HXg := Lib.hid (HXf.out.below hbg)
            have HYg := Lib.hid (HY.out.below hbg)
            have HLG := Lib.hid (HLF.out.below hbg)
            have HNG := Lib.hid ((hbg.block X (lt_of_block HNF.out)).trans HNF.out)
            clear hbg HFD HXf HY HLF HNF HBF j1
            go_upto_region 13 with (first
              | (with_reducible refine wpList_store_row (o := ⟨none, .store _ (.tmp 11) _, _, _, _, _⟩) rfl 38 _ _ rfl wg.heap.size AR rfl rfl 38 ZS (heap_alloc_new wg _) HAR.out.sz (HZ.out.same HAR.out) HAR.out.one ?_))
            generalize hWs : World.setRow _ wg.heap.size _ = wh
            have hst := fresh15 wg ZS AR 38 wh hWs.symm
            have HRh := Lib.hid hst.1
            have HBH := Lib.hid (bt15 HBG.out hst.2)
            have HXh := Lib.hid (HXg.out.below hst.2)
            have HYh := Lib.hid (HYg.out.below hst.2)
            have HLH := Lib.hid (HLG.out.below hst.2)
            have HNH := Lib.hid ((hst.2.block X (lt_of_block HNG.out)).trans HNG.out)
            clear hWs hst HXg HYg HLG HNG HBG har
            generalize wg.heap.size = Y at *
            have j1 := cell_of_row wh X 1 _ _ _ HNH.out
            have HFD := Lib.hid (rfind15 _ L qa wh HLH.out (Nat.le_of_lt HLE.out) HO.out)
            unfold FindPost at HFD
            rw [HAR.out.eq] at HFD
            go_wp2_with fail
            refine HFD.out.mono ?_
            rintro e wk ⟨rfl, hbk⟩
            have HBK := Lib.hid (bt15 HBH.out hbk)
            have HXk := Lib.hid (HXh.out.below hbk)
            have HYk := Lib.hid (HYh.out.below hbk)
            have HLK := Lib.hid (HLH.out.below hbk)
            have HRk := Lib.hid ((hbk.block Y (lt_of_block HRh.out)).trans HRh.out)
            clear hbk HFD HXh HYh HLH HNH HBH HRh j1
            go_upto_region 14 with (first
              | (with_reducible refine wpList_store_row (o := ⟨none, .store _ (.tmp 13) _, _, _, _, _⟩) rfl 38 _ _ rfl wk.heap.size AR rfl rfl 38 ZS (heap_alloc_new wk _) HAR.out.sz (HZ.out.same HAR.out) HAR.out.one ?_))
            generalize hWs : World.setRow _ wk.heap.size _ = wl
            have hst := fresh15 wk ZS AR 38 wl hWs.symm
            have HZl := Lib.hid hst.1
            have HBL := Lib.hid (bt15 HBK.out hst.2)
            have HXl := Lib.hid (HXk.out.below hst.2)
            have HYl := Lib.hid (HYk.out.below hst.2)
            have HLL := Lib.hid (HLK.out.below hst.2)
            have HRl := Lib.hid ((hst.2.block Y (lt_of_block HRk.out)).trans HRk.out)
            clear hWs hst HXk HYk HLK HRk HBK
            generalize wk.heap.size = U at *
            have HDF := Lib.hid (do_few kd qa qb HO.out)
            have HSA := Lib.hid (rsame15 _ _ _ _ wl HXl.out HYl.out (by have := HDF.out.2; have := HN.out; have := HLT.out; have := HSM.out; omega) (by have := HDF.out.2; have := HN.out; have := HLT.out; have := HSM.out; omega) HDF.out.1 HDF.out.1)
            rw [decide_eq_true (rfl : (doD L kd qa qb).2 = (doD L kd qa qb).2)] at HSA
            have heq := eq_set (findD L qa).1 (findD L qa).1 (find_ok L qa HO.out) (find_ok L qa HO.out)
            rw [HAR.out.eq, decide_eq_true (rfl : (findD L qa).1 = (findD L qa).1)] at heq
            have HPV := Lib.hid (fun W (q : Below wl.heap.size wl W) => pvalid15 _ L W (HLL.out.below q) (Nat.le_of_lt HLE.out) HO.out)
            have HRV := Lib.hid (fun W (q : Below wl.heap.size wl W) => rvalid15 _ L W (HLL.out.below q) (Nat.le_of_lt HLE.out) HO.out)
            generalize (findD L qa).2 = E2 at *
            generalize validE L = E3 at *
            have HEN := Lib.hid (show (doD L kd qa qb).1 = 0 → ∀ s ∈ (doD L kd qa qb).2, SetOk s from fun _ => HDF.out.1)
            obtain ⟨E, hE⟩ : ∃ E, (doD L kd qa qb).1 = E := ⟨_, rfl⟩
            rw [hE]
            clear hE HEN
            go_wp2_with fail
            refine HSA.out.mono ?_
            rintro e ws ⟨rfl, hbs⟩
            have HBS := Lib.hid hbs
            have HRs := Lib.hid ((hbs.block Y (lt_of_block HRl.out)).trans HRl.out)
            have HZs := Lib.hid ((hbs.block U (lt_of_block HZl.out)).trans HZl.out)
            have HPW := Lib.hid (HPV.out ws hbs)
            clear hbs HSA HPV HRl HZl
            go_wp2_with (first
              | (with_reducible refine wpList_load_guarded (o := ⟨some 74, _, _, _, _, _⟩) (by kernel_rfl) 38 _ rfl Y rfl 38 AR (0, 0) _ HRs.out Try.underlying38 rfl HAR.out.sz ?_)
              | (with_reducible refine wpList_load_guarded (o := ⟨some 75, _, _, _, _, _⟩) (by kernel_rfl) 38 _ rfl U rfl 38 AR (0, 0) _ HZs.out Try.underlying38 rfl HAR.out.sz ?_))
            refine HPW.out.mono ?_
            rintro e wt ⟨rfl, hbt⟩
            have HBT := Lib.hid (bt15 HBS.out hbt)
            have HRW := Lib.hid (HRV.out wt HBT.out)
            clear hbt HPW HRV HRs HZs
            go_wp2_with fail
            refine HRW.out.mono ?_
            rintro e wu ⟨rfl, hbu⟩
            have HBU := Lib.hid (bt15 HBT.out hbu)
            have HXu := Lib.hid (HXl.out.below HBU.out)
            have HLU := Lib.hid (HLL.out.below HBU.out)
            have HBW := Lib.hid (bt15 HBL.out HBU.out)
            clear hbu HRW
            by_cases he : E = 0
            · subst he
              go_wp2_with fail
              go_roundw
              case rel => exact ⟨i + 1, (doD L kd qa qb).2, by have := HLT.out; omega, by go_num, HXu.out, HDF.out.1, by have := HDF.out.2; have := HN.out; omega, HBW.out⟩
              case measure => simp [intOf]; have := HLT.out; omega
            · have h1 : (E == 0) = false := by simpa using he
              have h2 : decide (E = 0) = false := by simpa using he
              have h3 : (E != 0) = true := by simpa using he
              clear he
              go_wp2_with fail
              go_roundw
              case rel => exact ⟨i + 1, L, by have := HLT.out; omega, by go_num, HLU.out, HO.out, by have := HN.out; omega, HBW.out⟩
              case measure => simp [intOf]; have := HLT.out; omega
          · have hI : (200 : Int) < (qa.size : Int) + (qb.size : Int) := by omega
            clear h200
            go_wp2_with fail
            go_ret
            exact ⟨rfl, HBi.out⟩
        · go_wp2_with fail
          go_ret
          exact ⟨rfl, HB.out⟩
set_option maxRecDepth 100000 in
theorem lifted (os : Os) (started : os.Started) (H : Type) (enc : TypeId × Value → H) :
    ReturnsInHanded {} Try.checked os 3 .any (Rows.dirActsSpec.pre6 enc Try.prog Try.f3 Rows.dirActsRow.domain false) (Rows.dirActsSpec.post enc Try.prog Try.f3 false true false false) := by
  refine returnsInHanded_of_change_sized (C := Try.checked) own started (by kernel_rfl) Try.func3
    (ChangeSpec.witness6 (enc := enc) (C := Try.checked) false ⟨#[], #[.slice none 0 0, .slice none 0 0], []⟩ 8 (by kernel_rfl) (by kernel_rfl) (by kernel_rfl) (by kernel_rfl)) ?_
  intro W base args ds gs before hval0 hW hcnd hsz0 _
  have hsz : (DataW.weightsEach Try.prog (Try.f3.params.toList ++ Rows.dirActsSpec.plain.varTypes Try.prog) (ds ++ gs)).all (· ≤ reachBytes) = true := hsz0
  clear hsz0
  have hval : ∀ (j : Nat) t v, Try.f3.params[j]? = some t → args[j]? = some v → Value.okWide Try.prog W .any base t v := hval0
  have hW' := hW
  obtain ⟨p, q, hA0, hV, rfl, hfz, hnd⟩ := hW
  have hA : DataW.TrodAll enc Try.prog W 0 (fun _ => true) true Try.f3.params.toList args.toList ds p := hA0
  rw [Try.params3] at hA hval hsz
  obtain ⟨v0, vs0, d0, ds0, p0, q0, hargs, rfl, rfl, h0, r0⟩ := trodAll_cons hA
  obtain ⟨v1, vs1, d1, ds1, p1, q1, rfl, rfl, rfl, h1, r1⟩ := trodAll_cons r0
  obtain ⟨rfl, rfl, rfl⟩ := trodAll_nil r1
  obtain rfl : args = #[v0, v1] := by cases args; simp_all
  obtain ⟨rfl, rfl⟩ := trodVars_none hV
  have k0 := h0
  have lt0 : ∀ x ∈ p0, x.block < W.heap.size := by obtain ⟨m, hm⟩ := k0; exact DataW.trod_lt m _ _ _ hm
  have k1 := h1
  have lt1 : ∀ x ∈ p1, x.block < W.heap.size := by obtain ⟨m, hm⟩ := k1; exact DataW.trod_lt m _ _ _ hm
  obtain ⟨x0, a0, len0, cap0, rfl, sl0⟩ := par_slice (j := 0) Try.underlying22 opn_sets (hval 0 22 v0 rfl rfl) h0 hsz rfl rfl
  obtain ⟨x1, a1, len1, cap1, rfl, sl1⟩ := par_slice (j := 1) Try.underlying23 opn_acts15 (hval 1 23 v1 rfl rfl) h1 hsz rfl rfl
  clear hA0 hval0
  simp only [List.append_nil] at hW'
  refine (walk W a0 len0 cap0 x0 sl0 a1 len1 cap1 x1 sl1).mono fun e W' ⟨he, bel⟩ => ?_
  subst he
  exact ⟨_, rfl, _, _, _, [], _, [], hW', trodAll_mk1 (shut_bool Try.underlying4 _), (trodAll_cons_mk (Below.trod laidOut (by kernel_rfl) (of_decide_eq_true (by kernel_rfl)) k0 bel lt0) (trodAll_cons_mk (Below.trod laidOut (by kernel_rfl) (of_decide_eq_true (by kernel_rfl)) k1 bel lt1) trodAll_mk0)), rfl, bel.frame _, fun h => by cases h⟩

theorem over : Rows.dirActsRow.holds Try.pinned (OpenSpec.ofChange Rows.dirActsSpec) :=
  OpenClaim.holds_of_wide 3 Try.f3 rfl rfl rfl rfl rfl rfl rfl ⟨rfl, rfl, rfl, rfl, rfl⟩ rfl rfl rfl rfl rfl (by kernel_rfl) Try.func3 (by kernel_rfl)
    (of_decide_eq_true (by kernel_rfl)) (by unfold Func.isWrapper; first | (rw [if_pos (by decide +kernel)]; kernel_rfl) | (rw [if_neg (by decide +kernel)]; exact ⟨rfl, rfl⟩))
    (fun os started H enc _ => lifted os started H enc)

/-- The statement. -/
theorem proved : Rows.DirActsSaid := over
#print axioms proved
end Go.Proofs.Ytkafabcklohlmaa.dirActs
