/-
  'DirValid' returns true at every input, and each argument reads behind the call as it read before. Conditions: none.
-/
import Derived.Test.YtkafabcklohlmaaRows
import Derived.Test.YtkafabcklohlmaaAes0
import Derived.Test.YtkafabcklohlmaaIo
namespace Go.Proofs.Ytkafabcklohlmaa.dirValid
open Go.ChangeShapes Go.WideShapes Go.ChangeAt Go.RowKit
set_option linter.unusedVariables false


set_option maxRecDepth 100000 in
set_option maxHeartbeats 3200000 in
theorem walk (w : World) (a0 : Option Addr) (len0 cap0 : Nat) (x0 : List ActD) (sl0 : SlR RActD 3 w x0 a0 len0 cap0) :
    Calls Try.prog 6 #[.slice a0 len0 cap0] w fun e w' => e = .returned (.bool true) ∧ Below w.heap.size w w' := by
  have HAL := Lib.hid (alive15 w)
  obtain ⟨hat, hok⟩ := ad_of sl0
  have HLEN := Lib.hid sl0.len
  have HCAP := Lib.hid (And.intro sl0.cap sl0.big)
  have HAT := Lib.hid hat
  have HOK := Lib.hid hok
  have nBI : (len0 : Int) ≤ 140737488351232 := by have := sl0.cap; have := sl0.big; omega
  have n0I : (0 : Int) ≤ (len0 : Int) := by omega
  clear sl0 hat hok
  go_enter Try.func6, Try.ntmps6
  go_wp2_with fail
  refine HAL.out.mono ?_
  rintro e w1 ⟨rfl, hb1⟩
  have HB1 := Lib.hid hb1
  clear hb1 HAL
  by_cases hbig : 60 < len0
  · have bI : (60 : Int) < (len0 : Int) := by omega
    clear hbig
    go_wp2_with fail
    go_ret
    exact ⟨rfl, HB1.out⟩
  · have bI : ¬ ((60 : Int) < (len0 : Int)) := by omega
    have HSM := Lib.hid (show len0 ≤ 60 by omega)
    clear hbig
    go_wp2_with fail
    go_loopw [3, 5, 6, 7, 8, 9, 17] (fun v3 _ _ _ _ _ v17 wr => ∃ (i : Nat) (L : List SetV), i ≤ len0 ∧ v17 = .int .i64 (i : Int) ∧ LS wr v3 L ∧ GD L i ∧ Below w.heap.size w wr) (fun _ _ _ _ _ _ v _ => len0 - (intOf v).toNat)
    case atStart => exact ⟨0, [], Nat.zero_le _, rfl, ls_nil _, GD.nil, HB1.out⟩
    case round =>
      clear HB1
      obtain ⟨i, L, hi, rfl, hL, hg, hb⟩ := hrel
      have HB := Lib.hid hb
      have HL := Lib.hid hL
      have HG := Lib.hid hg
      clear hb hL hg
      by_cases hlt : i < len0
      · obtain ⟨q, hq⟩ : ∃ q, x0[i]? = some q := ⟨_, List.getElem?_eq_getElem (by rw [HLEN.out]; exact hlt)⟩
        obtain ⟨b, off, rfl, hrg⟩ := (HAT.out.below HB.out).at_ i q hq
        obtain ⟨c0, c1, c2⟩ := act_cellsD hrg
        have hix := index_act15 b off len0 cap0 i hlt
        have HLT := Lib.hid hlt
        have HQO := Lib.hid (HOK.out q (List.mem_of_getElem? hq))
        have HQ := Lib.hid hq
        have iI : (i : Int) < (len0 : Int) := by omega
        have i0 : (0 : Int) ≤ (i : Int) := by omega
        clear hi hlt hq hrg
        obtain ⟨kd, qa, qb⟩ := q
        dsimp only at c0 c1 c2
        go_upto_region 9 with fail
        generalize hwi : World.alloc wr (.cells #[.int .i64 kd, .string qa, .string qb] 27) = wi
        have hbi := ba15 wr (.cells #[.int .i64 kd, .string qa, .string qb] 27)
        have hni := new15 wr (.cells #[.int .i64 kd, .string qa, .string qb] 27)
        rw [hwi] at hbi hni
        have HBi := Lib.hid (bt15 HB.out hbi)
        have HNI := Lib.hid hni
        have HSI := Lib.hid hbi
        have j0 := cell_of_row wi wr.heap.size 0 _ _ _ hni
        have j1 := cell_of_row wi wr.heap.size 1 _ _ _ hni
        have j2 := cell_of_row wi wr.heap.size 2 _ _ _ hni
        have hLi := HL.out.below hbi
        obtain ⟨vw, wj, hrj, hoj, hbj⟩ := copy15 hLi (by have := HG.out.n; have := HLT.out; have := HSM.out; omega) 22
        have HRJ := Lib.hid hrj
        have hlit := lit_noset wi
        have HOJ := Lib.hid hoj.ls
        have HLJ := Lib.hid (hLi.below hbj)
        have HBJ := Lib.hid (bt15 HBi.out hbj)
        have k0 := cell_block15 j0 hbj
        have HNJ := Lib.hid ((hbj.block _ (lt_of_block hni)).trans hni)
        clear hLi hrj hoj hbj j1 j2
        clear hwi hbi hni c0 c1 c2 hix
        generalize hXX : wr.heap.size = X at *
        clear hXX
        go_upto_region 10 with (first
          | (at_builtin; refine wpList_append_run (o := ⟨some 23, _, _, _, _, _⟩) rfl _ _ _ _ rfl _ _ _ _ rfl rfl HRJ.out ?_))
        have HDO := Lib.hid (pdo15 _ L kd qa qb wj HLJ.out (by have := HG.out.n; have := HLT.out; have := HSM.out; omega) HG.out.v.okk HQO.out.za HQO.out.zb)
        have kj1 := cell_of_row wj X 1 _ _ _ HNJ.out
        have kj2 := cell_of_row wj X 2 _ _ _ HNJ.out
        clear HNI hlit HRJ j0 HSI HL
        go_wp2_with fail
        refine HDO.out.mono ?_
        rintro e wd ⟨vx, rfl, hox, hbd⟩
        have HX := Lib.hid hox.ls
        have HBD := Lib.hid (bt15 HBJ.out hbd)
        have m0 := cell_block15 k0 hbd
        have HLD := Lib.hid (HLJ.out.below hbd)
        have HOD := Lib.hid (HOJ.out.below hbd)
        have HSA := Lib.hid (rsame15 _ _ L L wd HLD.out HOD.out (by have := HG.out.n; have := HLT.out; have := HSM.out; omega) (by have := HG.out.n; have := HLT.out; have := HSM.out; omega) HG.out.v.okk HG.out.v.okk)
        rw [decide_eq_true (rfl : L = L)] at HSA
        clear hbd hox k0 kj1 kj2 HDO HLJ HOJ HBJ HBi
        have HVA := Lib.hid (fun W (q : Below wd.heap.size wd W) (hs : (doD L kd qa qb).2.length ≤ 1000) (ho : ∀ s ∈ (doD L kd qa qb).2, SetOk s) => pvalid15 vx (doD L kd qa qb).2 W (HX.out.below q) hs ho)
        by_cases he : (doD L kd qa qb).1 = 0
        · have hdv := do_valid HG.out.v kd qa qb he
          have HNX := Lib.hid (HG.out.next he)
          have HV0 := Lib.hid (show (doD L kd qa qb).2.length ≤ 1000 ∧ ∀ s ∈ (doD L kd qa qb).2, SetOk s from ⟨by have := HNX.out.n; have := HLT.out; have := HSM.out; omega, hdv.1.okk⟩)
          have HVE := Lib.hid (validE_0.2 (valid_iff.2 hdv.1))
          have HLN := Lib.hid hdv.2
          have hn1 := HG.out.n
          have hn2 := HSM.out
          have hn3 := HLT.out
          rw [he]
          clear hdv
          go_wp2_with fail
          refine HSA.out.mono ?_
          rintro e ws ⟨rfl, hbs⟩
          have HBS := Lib.hid (bt15 HBD.out hbs)
          have m1 := cell_block15 m0 hbs
          have HVB := Lib.hid (HVA.out ws hbs HV0.out.1 HV0.out.2)
          have HX2 := Lib.hid (HX.out.below hbs)
          have HL2 := Lib.hid (HLD.out.below hbs)
          rw [HVE.out] at HVB
          clear hbs m0 HSA HVA HLD HOD HX
          go_wp2_with fail
          refine HVB.out.mono ?_
          rintro e wv ⟨rfl, hbv⟩
          have HBV := Lib.hid (bt15 HBS.out hbv)
          have m2 := cell_block15 m1 hbv
          have HX3 := Lib.hid (HX2.out.below hbv)
          have HL3 := Lib.hid (HL2.out.below hbv)
          clear hbv m1 HVB HX2 HL2
          obtain ⟨Z, hZ⟩ : ∃ Z, (doD L kd qa qb).2 = Z := ⟨_, rfl⟩
          rw [hZ] at HX3 HNX HLN
          obtain ⟨ax, cx, rfl, hcx, hax⟩ := HX3.out
          obtain ⟨al, cl, rfl, hcl, hal⟩ := HL3.out
          have HXX := Lib.hid (show LS wv (.slice ax Z.length cx) Z from ⟨ax, cx, rfl, hcx, hax⟩)
          have hln := HLN.out
          unfold lenD at hln
          have zI : (Z.length : Int) ≤ 1000 := by split at hln; omega; split at hln <;> omega
          have z0 : (0 : Int) ≤ (Z.length : Int) := by omega
          have lI : (L.length : Int) ≤ 60 := by omega
          have l0 : (0 : Int) ≤ (L.length : Int) := by omega
          clear hcx hax hcl hal HX3 HL3 HV0 HVE he hn1 hn2 hn3 hZ HLN HG
          by_cases h3 : kd = 3
          · subst h3
            rw [if_pos rfl] at hln
            obtain ⟨zl, hzl⟩ : ∃ z, Z.length = z := ⟨_, rfl⟩
            rw [hzl] at hln zI z0 HXX ⊢
            have hlz : (L.length : Int) = (zl : Int) + 1 := by omega
            clear hln hzl
            go_wp2_with fail
            go_roundw
            case rel => exact ⟨i + 1, Z, by have := HLT.out; omega, by go_num, HXX.out, HNX.out, HBV.out⟩
            case measure => simp [intOf]; have := HLT.out; omega
          · rw [if_neg h3] at hln
            by_cases h4 : kd = 4
            · subst h4
              rw [if_pos rfl] at hln
              clear h3
              go_wp2_with fail
              go_roundw
              case rel => exact ⟨i + 1, Z, by have := HLT.out; omega, by go_num, HXX.out, HNX.out, HBV.out⟩
              case measure => simp [intOf]; have := HLT.out; omega
            · rw [if_neg h4] at hln
              have e3 : (kd == 3) = false := by simpa using h3
              have e4 : (kd == 4) = false := by simpa using h4
              have e5 : (kd != 4) = true := by simpa using h4
              clear h3 h4
              go_wp2_with fail
              go_roundw
              case rel => exact ⟨i + 1, Z, by have := HLT.out; omega, by go_num, HXX.out, HNX.out, HBV.out⟩
              case measure => simp [intOf]; have := HLT.out; omega
        · have hn := do_err kd qa qb he
          rw [hn] at HX HVA
          have HV0 := Lib.hid (show ([] : List SetV).length ≤ 1000 ∧ ∀ s ∈ ([] : List SetV), SetOk s from ⟨by decide, fun s h => by simp at h⟩)
          have HVE := Lib.hid (show validE [] = 0 from rfl)
          have HGU := Lib.hid HG.out.up
          clear hn
          generalize (doD L kd qa qb).1 = E at *
          have h1 : (E == 0) = false := by simpa using he
          have h2 : decide (E = 0) = false := by simpa using he
          have h3 : (E != 0) = true := by simpa using he
          go_wp2_with fail
          refine HSA.out.mono ?_
          rintro e ws ⟨rfl, hbs⟩
          have HBS := Lib.hid (bt15 HBD.out hbs)
          have m1 := cell_block15 m0 hbs
          have HVB := Lib.hid (HVA.out ws hbs HV0.out.1 HV0.out.2)
          have HX2 := Lib.hid (HX.out.below hbs)
          have HL2 := Lib.hid (HLD.out.below hbs)
          rw [HVE.out] at HVB
          clear hbs m0 HSA HVA HLD HOD HX
          go_wp2_with fail
          refine HVB.out.mono ?_
          rintro e wv ⟨rfl, hbv⟩
          have HBV := Lib.hid (bt15 HBS.out hbv)
          have m2 := cell_block15 m1 hbv
          have HX3 := Lib.hid (HX2.out.below hbv)
          have HL3 := Lib.hid (HL2.out.below hbv)
          clear hbv m1 HVB HX2 HL2
          obtain ⟨ax, cx, rfl, _, _⟩ := HX3.out
          rw [show ([] : List SetV).length = 0 from rfl]
          clear HX3
          go_wp2_with fail
          go_roundw
          case rel => exact ⟨i + 1, L, by have := HLT.out; omega, by go_num, HL3.out, HGU.out, HBV.out⟩
          case measure => simp [intOf]; have := HLT.out; omega
      · go_wp2_with fail
        go_ret
        exact ⟨rfl, HB.out⟩
set_option maxRecDepth 100000 in
theorem lifted (os : Os) (started : os.Started) (H : Type) (enc : TypeId × Value → H) :
    ReturnsInHanded {} Try.checked os 6 .any (Rows.dirValidSpec.pre6 enc Try.prog Try.f6 Rows.dirValidRow.domain false) (Rows.dirValidSpec.post enc Try.prog Try.f6 false true false false) := by
  refine returnsInHanded_of_change_sized (C := Try.checked) own started (by kernel_rfl) Try.func6
    (ChangeSpec.witness6 (enc := enc) (C := Try.checked) false ⟨#[], #[.slice none 0 0], []⟩ 8 (by kernel_rfl) (by kernel_rfl) (by kernel_rfl) (by kernel_rfl)) ?_
  intro W base args ds gs before hval0 hW hcnd hsz0 _
  have hsz : (DataW.weightsEach Try.prog (Try.f6.params.toList ++ Rows.dirValidSpec.plain.varTypes Try.prog) (ds ++ gs)).all (· ≤ reachBytes) = true := hsz0
  clear hsz0
  have hval : ∀ (j : Nat) t v, Try.f6.params[j]? = some t → args[j]? = some v → Value.okWide Try.prog W .any base t v := hval0
  have hW' := hW
  obtain ⟨p, q, hA0, hV, rfl, hfz, hnd⟩ := hW
  have hA : DataW.TrodAll enc Try.prog W 0 (fun _ => true) true Try.f6.params.toList args.toList ds p := hA0
  rw [Try.params6] at hA hval hsz
  obtain ⟨v0, vs0, d0, ds0, p0, q0, hargs, rfl, rfl, h0, r0⟩ := trodAll_cons hA
  obtain ⟨rfl, rfl, rfl⟩ := trodAll_nil r0
  obtain rfl : args = #[v0] := by cases args; simp_all
  obtain ⟨rfl, rfl⟩ := trodVars_none hV
  have k0 := h0
  have lt0 : ∀ x ∈ p0, x.block < W.heap.size := by obtain ⟨m, hm⟩ := k0; exact DataW.trod_lt m _ _ _ hm
  obtain ⟨x0, a0, len0, cap0, rfl, sl0⟩ := par_slice (j := 0) Try.underlying23 opn_acts15 (hval 0 23 v0 rfl rfl) h0 hsz rfl rfl
  clear hA0 hval0
  simp only [List.append_nil] at hW'
  refine (walk W a0 len0 cap0 x0 sl0).mono fun e W' ⟨he, bel⟩ => ?_
  subst he
  exact ⟨_, rfl, _, _, _, [], _, [], hW', trodAll_mk1 (shut_bool Try.underlying4 _), (trodAll_cons_mk (Below.trod laidOut (by kernel_rfl) (of_decide_eq_true (by kernel_rfl)) k0 bel lt0) trodAll_mk0), rfl, bel.frame _, fun h => by cases h⟩

theorem over : Rows.dirValidRow.holds Try.pinned (OpenSpec.ofChange Rows.dirValidSpec) :=
  OpenClaim.holds_of_wide 6 Try.f6 rfl rfl rfl rfl rfl rfl rfl ⟨rfl, rfl, rfl, rfl, rfl⟩ rfl rfl rfl rfl rfl (by kernel_rfl) Try.func6 (by kernel_rfl)
    (of_decide_eq_true (by kernel_rfl)) (by unfold Func.isWrapper; first | (rw [if_pos (by decide +kernel)]; kernel_rfl) | (rw [if_neg (by decide +kernel)]; exact ⟨rfl, rfl⟩))
    (fun os started H enc _ => lifted os started H enc)

/-- The statement. -/
theorem proved : Rows.DirValidSaid := over
#print axioms proved
end Go.Proofs.Ytkafabcklohlmaa.dirValid
