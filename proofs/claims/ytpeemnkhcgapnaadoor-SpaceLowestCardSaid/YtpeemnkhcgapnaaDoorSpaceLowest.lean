/-
  'SpaceLowest' returns true at every input, and each argument reads behind the call as it read before. Conditions: the package-level variable that the row lists starts as the program's text lays it (the card ties that).
-/
import Derived.Test.YtpeemnkhcgapnaaDoorVf
import Derived.Test.YtpeemnkhcgapnaaDoorCards
import Derived.Test.YtpeemnkhcgapnaaDoorTie
import Derived.Test.YtpeemnkhcgapnaaDoorVg
namespace Go.Proofs.YtpeemnkhcgapnaaDoor.spaceLowest
open Go.ChangeShapes Go.WideShapes Go.ChangeAt Go.RowKit
set_option linter.unusedVariables false


set_option maxRecDepth 100000 in
set_option maxHeartbeats 1600000 in
theorem walk (w : World) (l0 : List Nat) (a0 : Option Addr) (len0 cap0 : Nat) (us0 : US w a0 len0 cap0 l0) (cp0 : len0 ≤ cap0) (bg0 : len0 ≤ 140737488351232) (hK : TZ w) :
    Calls Tryd.prog 7 #[.slice a0 len0 cap0] w fun e w' => e = .returned (.bool true) ∧ Below w.heap.size w w' := by
  have HA := Lib.hid (alive11_any w hK)
  have HU := Lib.hid us0
  have lI : (len0 : Int) ≤ 140737488351232 := by omega
  by_cases hbig : 300 < len0
  · have hbI : (300 : Int) < (len0 : Int) := by omega
    have HT := Lib.hid hK
    clear hbig us0 cp0 bg0 hK
    go_enter Tryd.func7, Tryd.ntmps7
    go_wp2_with fail
    refine HA.out.mono ?_
    rintro e w1 ⟨rfl, hb1⟩
    have HN := Lib.hid (so_new w w1 64 HT.out hb1 (by decide) (by decide))
    clear hb1 HA
    go_wp2_with fail
    refine HN.out.mono ?_
    rintro e w2 ⟨rfl, hs2, _⟩
    have HS := Lib.hid hs2
    clear hs2 HN
    go_wp2_with fail
    go_ret
    exact ⟨rfl, HS.out.bel⟩
  have hsm : (len0 : Int) ≤ 300 := by omega
  have HT := Lib.hid hK
  clear hbig us0 cp0 bg0 hK
  go_enter Tryd.func7, Tryd.ntmps7
  go_wp2_with fail
  refine HA.out.mono ?_
  rintro e w1 ⟨rfl, hb1⟩
  have HN := Lib.hid (so_new w w1 64 HT.out hb1 (by decide) (by decide))
  clear hb1 HA
  go_wp2_with fail
  refine HN.out.mono ?_
  rintro e w2 ⟨rfl, hs2, _⟩
  generalize w1.heap.size = S at *
  have HS2 := Lib.hid hs2
  clear hs2 HN
  go_wp2_with fail
  go_loopw [6, 7, 8, 9, 11, 12, 30] (fun _ _ _ _ _ _ v30 wr => ∃ (i : Nat) (F : Nat → Bool), i ≤ len0 ∧ v30 = .int .i64 (i : Int) ∧ SO w wr S 64 F) (fun _ _ _ _ _ _ v _ => len0 - (intOf v).toNat)
  case atStart => exact ⟨0, _, by omega, rfl, HS2.out⟩
  case round =>
    clear HS2
    obtain ⟨i, F, hi, rfl, hs⟩ := hrel
    by_cases hlt : i < len0
    · obtain ⟨b, off, rfl, hx⟩ := (HU.out.below hs.bel).at hlt
      have hix := index_u32 b off len0 cap0 i hlt
      have iI : (i : Int) < (len0 : Int) := by omega
      have i0 : (0 : Int) ≤ (i : Int) := by omega
      have HLT := Lib.hid hlt
      have hxs := HU.out.small (l0.getD i 0) (by
        have e : l0.getD i 0 = l0[i]'(by rw [HU.out.len]; exact hlt) := by simp [List.getD, show i < l0.length by rw [HU.out.len]; exact hlt]
        rw [e]; exact List.getElem_mem _)
      generalize l0.getD i 0 = x at *
      have HM := Lib.hid (so_mark w wr S 64 (x % 64) F hs)
      rw [show ((x % 64 : Nat) : Int) = (x : Int) % 64 by omega] at HM
      have hSL := hs.lt
      have HSL := Lib.hid hSL
      clear hi hlt hs hSL
      go_wp2_with fail
      refine HM.out.mono ?_
      rintro e w3 ⟨rfl, hs3, ht3⟩
      generalize (markA 64 F (x % 64)).2 = G at *
      generalize (markA 64 F (x % 64)).1 = mv at *
      have HS3 := Lib.hid hs3
      obtain ⟨k, hk⟩ : ∃ k, (tkn G 64).length = k := ⟨_, rfl⟩
      have HTA := Lib.hid (so_takenU w w3 S 64 k G hs3 hk)
      have HK := Lib.hid hk
      have kI : (k : Int) ≤ 64 := by have := tkn_len G 64; omega
      have HSL3 := Lib.hid hs3.lt
      clear HM hs3 ht3 hx hix hk HSL
      go_wp2_with fail
      refine HTA.out.mono ?_
      rintro e w4 ⟨a4, c4, rfl, hu4, hs4, _⟩
      have HU4 := Lib.hid hu4
      have HS4 := Lib.hid hs4
      clear HTA hu4 hs4 HS3
      rcases low_or_none G 64 HS4.out.sp.own with hnone | ⟨a, ha, hlow⟩
      · have HTK := Lib.hid (so_full w w4 S 64 G HS4.out hnone)
        have HL := Lib.hid (so_left w w4 S 64 G HS4.out)
        rw [cnt_none G 64 (fun j _ => hnone j)] at HL
        clear hnone
        go_wp2_with fail
        refine HTK.out.mono ?_
        rintro e w5 ⟨rfl, rfl⟩
        clear HTK
        go_wp2_with fail
        refine HL.out.mono ?_
        rintro e w6 ⟨rfl, rfl⟩
        clear HL
        go_wp2_with fail
        go_ret
        exact ⟨rfl, HS4.out.bel⟩
      · have hao := HS4.out.sp.own a ha
        have HTK := Lib.hid (so_take w w4 S 64 a G HS4.out ha hlow)
        have HALO := Lib.hid (And.intro ha (And.intro hlow hao))
        have a2I : (2 : Int) ≤ (a : Int) := by omega
        have a64I : (a : Int) < 64 := by omega
        clear ha hlow hao
        go_wp2_with fail
        refine HTK.out.mono ?_
        rintro e w5 ⟨rfl, hs5, ht5⟩
        have HU5 := Lib.hid (HU4.out.touch ht5 (by intro q hq; simp at hq; subst hq; exact HSL3.out))
        have HS5 := Lib.hid hs5
        clear HTK hs5 ht5 HU4 HS4
        go_wp2_with fail
        go_loopw [11, 56] (fun _ v56 wr => ∃ j : Nat, j ≤ k ∧ v56 = .int .i64 (j : Int) ∧ wr = w5) (fun _ v _ => k - (intOf v).toNat)
        case atStart => exact ⟨0, by omega, rfl, rfl⟩
        case round =>
          obtain ⟨j, hj, rfl, rfl⟩ := hrel
          by_cases hjl : j < k
          · obtain ⟨b2, o2, rfl, hy⟩ := HU5.out.us.at hjl
            have hix2 := index_u32 b2 o2 k c4 j hjl
            have jI : (j : Int) < (k : Int) := by omega
            have j0 : (0 : Int) ≤ (j : Int) := by omega
            have hmem : (tkn G 64).getD j 0 ∈ tkn G 64 := by
              have e : (tkn G 64).getD j 0 = (tkn G 64)[j]'(by rw [HK.out]; exact hjl) := by simp [List.getD, show j < (tkn G 64).length by rw [HK.out]; exact hjl]
              rw [e]; exact List.getElem_mem _
            have hgf := ((tkn_mem G _ 64).1 hmem).2.2
            have hne : a ≠ (tkn G 64).getD j 0 := fun e => by rw [← e, HALO.out.1] at hgf; cases hgf
            generalize (tkn G 64).getD j 0 = y at *
            have hneI : ((a : Int) == (y : Int)) = false := by simp; omega
            clear hmem hgf hne
            go_wp2_with fail
            go_roundw
            case rel => exact ⟨j + 1, by omega, by go_num, trivial⟩
            case measure => simp [intOf]; omega
          · obtain rfl : j = k := by omega
            clear hj hjl
            go_wp2_with fail
            go_loopw [12] (fun v12 wr => ∃ y : Nat, 2 ≤ y ∧ y ≤ a ∧ v12 = .int .u32 (y : Int) ∧ SO w wr S 64 (updF G a false)) (fun v _ => a - (intOf v).toNat)
            case atStart => exact ⟨2, by omega, by omega, rfl, HS5.out⟩
            case round =>
              obtain ⟨y, hy2, hya, rfl, hs⟩ := hrel
              by_cases hyl : y < a
              · have HH := Lib.hid (so_has w _ S 64 y _ hs)
                rw [has_in hy2 (by omega), updF_other _ _ _ _ (by omega), HALO.out.2.1 y hyl] at HH
                have yI : (y : Int) < (a : Int) := by omega
                have y0 : (2 : Int) ≤ (y : Int) := by omega
                have HY := Lib.hid (And.intro hy2 hyl)
                clear hs hy2 hya hyl
                go_wp2_with fail
                refine HH.out.mono ?_
                rintro e w7 ⟨rfl, hs7, _⟩
                have HS7 := Lib.hid hs7
                clear HH hs7
                go_wp2_with fail
                go_roundw
                case rel => exact ⟨y + 1, by have := HY.out; omega, by have := HY.out; omega, by go_num, HS7.out⟩
                case measure => simp [intOf]; have := HY.out; omega
              · obtain rfl : y = a := by omega
                have HS := Lib.hid hs
                by_cases h3 : x % 3 = 0
                · have h3I : ((x : Int) % 3 == 0) = true := by simp; omega
                  have hf := so_free w _ S 64 y _ HS.out
                  rw [free_ok HALO.out.2.2.1 HALO.out.2.2.2 (updF_same _ _ _)] at hf
                  have HF := Lib.hid hf
                  clear hs hf h3 hyl hya hy2
                  go_wp2_with fail
                  refine HF.out.mono ?_
                  rintro e w8 ⟨rfl, hs8, _⟩
                  have HS8 := Lib.hid hs8
                  clear HF hs8
                  go_wp2_with fail
                  go_roundw
                  case rel => exact ⟨i + 1, _, by have := HLT.out; omega, by go_num, HS8.out⟩
                  case measure => simp [intOf]; have := HLT.out; omega
                · have h3I : ((x : Int) % 3 == 0) = false := by simp; omega
                  clear hs h3 hyl hya hy2
                  go_wp2_with fail
                  go_roundw
                  case rel => exact ⟨i + 1, _, by have := HLT.out; omega, by go_num, HS.out⟩
                  case measure => simp [intOf]; have := HLT.out; omega
    · obtain rfl : i = len0 := by omega
      have HS := Lib.hid hs
      clear hi hlt hs
      go_wp2_with fail
      go_ret
      exact ⟨rfl, HS.out.bel⟩
set_option maxRecDepth 100000 in
theorem lifted (os : Os) (started : os.Started) (H : Type) (enc : TypeId × Value → H) :
    ReturnsInHanded {} Tryd.checked os 7 .any (fun w args => (Rows.spaceLowestSpec.pre enc Tryd.prog Tryd.f7 [] false w args ∧ laidMetH Tryd.prog [("math/bits.deBruijn64tab", Rows.laid_math_bits_deBruijn64tab)] w) ∧ sizedMet enc Tryd.prog Tryd.f7 (OpenSpec.ofChange Rows.spaceLowestSpec) false w args)
      (Rows.spaceLowestSpec.post enc Tryd.prog Tryd.f7 false true false false) := by
  refine returnsInHanded_of_change_and (C := Tryd.checked) (X := fun w _ => laidMetH Tryd.prog [("math/bits.deBruijn64tab", Rows.laid_math_bits_deBruijn64tab)] w) (fun _ _ _ hh h => h.of_heap hh) own11 started (by kernel_rfl) Tryd.func7
    (ChangeSpec.witness_shaped (enc := enc) (C := Tryd.checked) (os := os) (X := fun w _ => laidMetH Tryd.prog [("math/bits.deBruijn64tab", Rows.laid_math_bits_deBruijn64tab)] w) false (World.doorLaid Tryd.prog 400 os) #[.slice none 0 0] 8 rfl (World.shaped_of_RefB (by kernel_rfl) (by kernel_rfl)) (by kernel_rfl) (by kernel_rfl) (by kernel_rfl) (door_met11 os _)) ?_
  intro W base args ds gs before hval0 hW _ hsz0 hL _
  have hval : ∀ (j : Nat) t v, Tryd.f7.params[j]? = some t → args[j]? = some v → Value.okWide Tryd.prog W .any base t v := hval0
  have hsz : (DataW.weightsEach Tryd.prog (Tryd.f7.params.toList ++ Rows.spaceLowestSpec.plain.varTypes Tryd.prog) (ds ++ gs)).all (· ≤ reachBytes) = true := hsz0
  clear hsz0
  have hW' := hW
  obtain ⟨p, q, hA0, hV, rfl, hfz, hnd⟩ := hW
  have hA : DataW.TrodAll enc Tryd.prog W 0 (fun _ => true) true Tryd.f7.params.toList args.toList ds p := hA0
  rw [Tryd.params7] at hA hval hsz
  obtain ⟨v0, vs0, d0, ds0, p0, q0, hargs, rfl, rfl, h0, r0⟩ := trodAll_cons hA
  obtain ⟨rfl, rfl, rfl⟩ := trodAll_nil r0
  obtain rfl : args = #[v0] := by cases args; simp_all
  obtain ⟨rfl, rfl⟩ := trodVars_none hV
  have k0 := h0
  have lt0 : ∀ x ∈ p0, x.block < W.heap.size := by obtain ⟨m, hm⟩ := k0; exact DataW.trod_lt m _ _ _ hm
  obtain ⟨l0, a0, len0, cap0, rfl, us0, cp0, bg0⟩ := par_u32s (j := 0) (hval 0 32 v0 rfl rfl) h0 hsz rfl rfl
  have hK := of_laid11 hL
  clear hA0 hval0
  refine (walk W l0 a0 len0 cap0 us0 cp0 bg0 hK).mono fun e W' ⟨he, bel⟩ => ?_
  subst he
  exact ⟨_, rfl, _, _, _, [], _, [], hW', trodAll_mk1 (shut_bool Tryd.underlying4 _), (trodAll_cons_mk (Below.trod laidOut11 (by kernel_rfl) (of_decide_eq_true (by kernel_rfl)) k0 bel lt0) trodAll_mk0), rfl, bel.frame _, fun h => by cases h⟩

theorem over : Rows.SpaceLowestSaid :=
  OpenClaim.holds_of_wide 7 Tryd.f7 rfl rfl rfl rfl rfl rfl rfl ⟨rfl, rfl, rfl, rfl, rfl⟩ rfl rfl rfl rfl rfl (by kernel_rfl) Tryd.func7 (by kernel_rfl)
    (of_decide_eq_true (by kernel_rfl)) (by unfold Func.isWrapper; first | (rw [if_pos (by decide +kernel)]; kernel_rfl) | (rw [if_neg (by decide +kernel)]; exact ⟨rfl, rfl⟩))
    (fun os started H enc _ => lifted os started H enc)

/-- The statement. -/
theorem proved : Rows.SpaceLowestCardSaid :=
  Claim7.holds_tied_plain_at .later [] [.data] true (true, "3aca2102f0461fcd0b44e8c06fdc99553a88198ed7149c61c15f7a0c181ac545") false
    over (fun _ h => by cases h) (by kernel_rfl) (fun _ h => by cases h) spaceLowest_row_tie rfl ⟨rfl, rfl⟩ (by kernel_rfl) rfl
    (fun f fn hf hfn => by
      obtain rfl : f = 7 := Option.some.inj ((show Tryd.prog.funcNamed "banyan/banyanlaw11.SpaceLowest" = some 7 by kernel_rfl).symm.trans hf) |>.symm
      obtain rfl : fn = Tryd.f7 := (Option.some.inj (Tryd.func7.symm.trans hfn)).symm
      exact ⟨by kernel_rfl, fun j t ht => by
        rw [Tryd.params7] at ht
        have hm : t ∈ [32] := by simpa using Array.mem_of_getElem? ht
        have hall : ([32].all fun u => !Tryd.prog.wantsStandIn u) = true := by kernel_rfl
        exact (show Tryd.prog.wantsStandIn t = false by simpa using List.all_eq_true.1 hall t hm)⟩)
    (by kernel_rfl)
#print axioms proved
end Go.Proofs.YtpeemnkhcgapnaaDoor.spaceLowest
