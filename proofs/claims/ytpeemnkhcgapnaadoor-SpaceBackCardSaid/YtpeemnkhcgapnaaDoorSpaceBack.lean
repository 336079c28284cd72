/-
  'SpaceBack' returns true at every input, and each argument reads behind the call as it read before. Conditions: the package-level variable that the row lists starts as the program's text lays it (the card ties that).
-/
import Derived.Test.YtpeemnkhcgapnaaDoorVf
import Derived.Test.YtpeemnkhcgapnaaDoorCards
import Derived.Test.YtpeemnkhcgapnaaDoorTie
import Derived.Test.YtpeemnkhcgapnaaDoorVg
namespace Go.Proofs.YtpeemnkhcgapnaaDoor.spaceBack
open Go.ChangeShapes Go.WideShapes Go.ChangeAt Go.RowKit
set_option linter.unusedVariables false


set_option maxRecDepth 100000 in
set_option maxHeartbeats 1600000 in
theorem walk (w : World) (l0 : List Nat) (a0 : Option Addr) (len0 cap0 : Nat) (us0 : US w a0 len0 cap0 l0) (cp0 : len0 ≤ cap0) (bg0 : len0 ≤ 140737488351232) (a1 : Nat) (sm1 : a1 < 4294967296) (hK : TZ w) :
    Calls Tryd.prog 6 #[.slice a0 len0 cap0, .int .u32 (a1 : Int)] w fun e w' => e = .returned (.bool true) ∧ Below w.heap.size w w' := by
  have HA := Lib.hid (alive11_any w hK)
  have HU := Lib.hid us0
  have lI : (len0 : Int) ≤ 140737488351232 := by omega
  by_cases hbig : 300 < len0
  · have hbI : (300 : Int) < (len0 : Int) := by omega
    have HT := Lib.hid hK
    clear hbig us0 cp0 bg0 hK
    go_enter Tryd.func6, Tryd.ntmps6
    go_wp2_with fail
    refine HA.out.mono ?_
    rintro e w1 ⟨rfl, hb1⟩
    have HN := Lib.hid (so_new w w1 64 HT.out hb1 (by decide) (by decide))
    clear hb1 HA
    go_wp2_with fail
    refine HN.out.mono ?_
    rintro e w2 ⟨rfl, hs2, _⟩
    have HS := Lib.hid hs2
    clear hs2 HN
    go_wp2_with fail
    go_ret
    exact ⟨rfl, HS.out.bel⟩
  have hsm : (len0 : Int) ≤ 300 := by omega
  have HT := Lib.hid hK
  clear hbig us0 cp0 bg0 hK
  go_enter Tryd.func6, Tryd.ntmps6
  go_wp2_with fail
  refine HA.out.mono ?_
  rintro e w1 ⟨rfl, hb1⟩
  have HN := Lib.hid (so_new w w1 64 HT.out hb1 (by decide) (by decide))
  clear hb1 HA
  go_wp2_with fail
  refine HN.out.mono ?_
  rintro e w2 ⟨rfl, hs2, _⟩
  generalize w1.heap.size = S at *
  have HS2 := Lib.hid hs2
  clear hs2 HN
  go_wp2_with fail
  go_loopw [8, 29] (fun _ v29 wr => ∃ (i : Nat) (F : Nat → Bool), i ≤ len0 ∧ v29 = .int .i64 (i : Int) ∧ SO w wr S 64 F) (fun _ v _ => len0 - (intOf v).toNat)
  case atStart => exact ⟨0, _, by omega, rfl, HS2.out⟩
  case round =>
    clear HS2
    obtain ⟨i, F, hi, rfl, hs⟩ := hrel
    by_cases hlt : i < len0
    · obtain ⟨b, off, rfl, hx⟩ := (HU.out.below hs.bel).at hlt
      have hix := index_u32 b off len0 cap0 i hlt
      have iI : (i : Int) < (len0 : Int) := by omega
      have i0 : (0 : Int) ≤ (i : Int) := by omega
      have HLT := Lib.hid hlt
      generalize l0.getD i 0 = x at *
      have HM := Lib.hid (so_mark w wr S 64 (x % 64) F hs)
      rw [show ((x % 64 : Nat) : Int) = (x : Int) % 64 by omega] at HM
      clear hi hlt hs
      go_wp2_with fail
      refine HM.out.mono ?_
      rintro e w3 ⟨rfl, hs3, _⟩
      have HS3 := Lib.hid hs3
      clear HM hs3 hx hix
      go_wp2_with fail
      go_roundw
      case rel => exact ⟨i + 1, _, by have := HLT.out; omega, by go_num, HS3.out⟩
      case measure => simp [intOf]; have := HLT.out; omega
    · obtain rfl : i = len0 := by omega
      have HS := Lib.hid hs
      clear hi hlt hs
      obtain ⟨k, hk⟩ : ∃ k, (tkn F 64).length = k := ⟨_, rfl⟩
      obtain ⟨z, hz⟩ : ∃ z, cnt F 64 = z := ⟨_, rfl⟩
      have HK := Lib.hid hk
      have HZ := Lib.hid hz
      have HTA := Lib.hid (so_takenU w wr S 64 k F HS.out hk)
      have kI : (k : Int) ≤ 64 := by have := tkn_len F 64; omega
      have zI : (z : Int) ≤ 64 := by have := cnt_le F 64; omega
      have HSL := Lib.hid HS.out.lt
      clear hk hz
      go_wp2_with fail
      refine HTA.out.mono ?_
      rintro e w3 ⟨a3, c3, rfl, hu3, hs3, _⟩
      have HUU := Lib.hid hu3
      have HS3 := Lib.hid hs3
      have HL := Lib.hid (so_left w w3 S 64 F HS3.out)
      rw [HZ.out] at HL
      have hm := so_mark w w3 S 64 a1 F HS3.out
      clear hu3 hs3 HTA HS
      go_wp2_with fail
      refine HL.out.mono ?_
      rintro e w4 ⟨rfl, rfl⟩
      clear HL
      have HU3 := HU
      rcases mark_cases 64 F a1 with ⟨v, rfl | rfl, hc⟩ | ⟨c0, c1, cF, hc⟩
      · rw [hc] at hm
        clear hc
        clear HU3
        have HM := Lib.hid hm
        clear hm
        go_wp2_with fail
        refine HM.out.mono ?_
        rintro e w5 ⟨rfl, hs5, ht5⟩
        have HU5 := Lib.hid (HUU.out.touch ht5 (by intro q hq; simp at hq; subst hq; exact HSL.out))
        have HTA := Lib.hid (so_takenU w w5 S 64 k F hs5 HK.out)
        clear HM hs5 ht5 HUU
        go_wp2_with fail
        refine HTA.out.mono ?_
        rintro e w6 ⟨a6, c6, rfl, hu6, hs6, hb6⟩
        have HSA := Lib.hid (rsame11_any a6 a3 k k c6 c3 _ _ w6 hu6.us (HU5.out.below hb6).us (by omega) (by omega))
        rw [decide_eq_true rfl] at HSA
        have HS6 := Lib.hid hs6
        clear HTA hu6 hs6 hb6 HU5
        go_wp2_with fail
        refine HSA.out.mono ?_
        rintro e w7 ⟨rfl, hb7⟩
        have HS7 := Lib.hid (HS6.out.below hb7)
        have HL7 := Lib.hid (so_left w w7 S 64 F HS7.out)
        rw [HZ.out] at HL7
        clear HSA hb7 HS6
        go_wp2_with fail
        refine HL7.out.mono ?_
        rintro e w8 ⟨rfl, rfl⟩
        clear HL7
        go_wp2_with fail
        go_ret
        exact ⟨rfl, HS7.out.bel⟩
      · rw [hc] at hm
        clear hc
        clear HU3
        have HM := Lib.hid hm
        clear hm
        go_wp2_with fail
        refine HM.out.mono ?_
        rintro e w5 ⟨rfl, hs5, ht5⟩
        have HU5 := Lib.hid (HUU.out.touch ht5 (by intro q hq; simp at hq; subst hq; exact HSL.out))
        have HTA := Lib.hid (so_takenU w w5 S 64 k F hs5 HK.out)
        clear HM hs5 ht5 HUU
        go_wp2_with fail
        refine HTA.out.mono ?_
        rintro e w6 ⟨a6, c6, rfl, hu6, hs6, hb6⟩
        have HSA := Lib.hid (rsame11_any a6 a3 k k c6 c3 _ _ w6 hu6.us (HU5.out.below hb6).us (by omega) (by omega))
        rw [decide_eq_true rfl] at HSA
        have HS6 := Lib.hid hs6
        clear HTA hu6 hs6 hb6 HU5
        go_wp2_with fail
        refine HSA.out.mono ?_
        rintro e w7 ⟨rfl, hb7⟩
        have HS7 := Lib.hid (HS6.out.below hb7)
        have HL7 := Lib.hid (so_left w w7 S 64 F HS7.out)
        rw [HZ.out] at HL7
        clear HSA hb7 HS6
        go_wp2_with fail
        refine HL7.out.mono ?_
        rintro e w8 ⟨rfl, rfl⟩
        clear HL7
        go_wp2_with fail
        go_ret
        exact ⟨rfl, HS7.out.bel⟩
      · rw [hc] at hm
        have HM := Lib.hid hm
        have HCC := Lib.hid (And.intro c0 (And.intro c1 cF))
        have HD := Lib.hid (cnt_drop c1 cF)
        have HDT := Lib.hid (tkn_drop (fun x hx => (HS3.out.sp.own x hx).1) c0 c1 cF)
        clear hm hc c0 c1 cF HU3
        go_wp2_with fail
        refine HM.out.mono ?_
        rintro e w5 ⟨rfl, hs5, ht5⟩
        have HU5 := Lib.hid (HUU.out.touch ht5 (by intro q hq; simp at hq; subst hq; exact HSL.out))
        have HH := Lib.hid (so_has w w5 S 64 a1 _ hs5)
        rw [has_in HCC.out.1 HCC.out.2.1, updF_same] at HH
        clear HM hs5 ht5 HUU
        go_wp2_with fail
        refine HH.out.mono ?_
        rintro e w6 ⟨rfl, hs6, hb6⟩
        have HS6 := Lib.hid hs6
        have HU6 := Lib.hid (HU5.out.below hb6)
        have HL6 := Lib.hid (so_left w w6 S 64 _ HS6.out)
        obtain ⟨y, hy⟩ : ∃ y, cnt (updF F a1 false) 64 = y := ⟨_, rfl⟩
        rw [hy] at HL6 HD
        have zy : (z : Int) - 1 = (y : Int) := by have := HD.out; have := HZ.out; omega
        clear HH hs6 hb6 HU5 hy
        go_wp2_with fail
        refine HL6.out.mono ?_
        rintro e w7 ⟨rfl, rfl⟩
        have HTA := Lib.hid (so_takenU w w7 S 64 (k + 1) _ HS6.out (by rw [HDT.out, HK.out]))
        clear HL6
        go_wp2_with fail
        refine HTA.out.mono ?_
        rintro e w8 ⟨a8, c8, rfl, _, hs8, hb8⟩
        have HU8 := Lib.hid (HU6.out.below hb8)
        have hf := so_free w w8 S 64 a1 _ hs8
        rw [free_ok HCC.out.1 HCC.out.2.1 (updF_same F a1 false), updF_back F a1 HCC.out.2.2] at hf
        have HF := Lib.hid hf
        clear HTA hs8 hb8 hf HU6 HS6 HD HDT
        go_wp2_with fail
        refine HF.out.mono ?_
        rintro e w9 ⟨rfl, hs9, ht9⟩
        have HU9 := Lib.hid (HU8.out.touch ht9 (by intro q hq; simp at hq; subst hq; exact HSL.out))
        have HTA := Lib.hid (so_takenU w w9 S 64 k F hs9 HK.out)
        clear HF hs9 ht9 HU8
        go_wp2_with fail
        refine HTA.out.mono ?_
        rintro e w10 ⟨a10, c10, rfl, hu10, hs10, hb10⟩
        have HSA := Lib.hid (rsame11_any a10 a3 k k c10 c3 _ _ w10 hu10.us (HU9.out.below hb10).us (by omega) (by omega))
        rw [decide_eq_true rfl] at HSA
        have HS10 := Lib.hid hs10
        clear HTA hu10 hs10 hb10 HU9
        go_wp2_with fail
        refine HSA.out.mono ?_
        rintro e w11 ⟨rfl, hb11⟩
        have HS11 := Lib.hid (HS10.out.below hb11)
        have HL11 := Lib.hid (so_left w w11 S 64 F HS11.out)
        rw [HZ.out] at HL11
        have HH := Lib.hid (so_has w w11 S 64 a1 F HS11.out)
        rw [has_in HCC.out.1 HCC.out.2.1, HCC.out.2.2] at HH
        clear HSA hb11 HS10
        go_wp2_with fail
        refine HL11.out.mono ?_
        rintro e w12 ⟨rfl, rfl⟩
        clear HL11
        go_wp2_with fail
        refine HH.out.mono ?_
        rintro e w13 ⟨rfl, hs13, _⟩
        have hf := so_free w w13 S 64 a1 F hs13
        rw [free_none HCC.out.1 HCC.out.2.1 HCC.out.2.2] at hf
        have HF := Lib.hid hf
        clear HH hs13 hf
        go_wp2_with fail
        refine HF.out.mono ?_
        rintro e w14 ⟨rfl, hs14, _⟩
        have HS14 := Lib.hid hs14
        clear HF hs14
        go_wp2_with fail
        go_ret
        exact ⟨rfl, HS14.out.bel⟩
set_option maxRecDepth 100000 in
theorem lifted (os : Os) (started : os.Started) (H : Type) (enc : TypeId × Value → H) :
    ReturnsInHanded {} Tryd.checked os 6 .any (fun w args => (Rows.spaceBackSpec.pre enc Tryd.prog Tryd.f6 [] false w args ∧ laidMetH Tryd.prog [("math/bits.deBruijn64tab", Rows.laid_math_bits_deBruijn64tab)] w) ∧ sizedMet enc Tryd.prog Tryd.f6 (OpenSpec.ofChange Rows.spaceBackSpec) false w args)
      (Rows.spaceBackSpec.post enc Tryd.prog Tryd.f6 false true false false) := by
  refine returnsInHanded_of_change_and (C := Tryd.checked) (X := fun w _ => laidMetH Tryd.prog [("math/bits.deBruijn64tab", Rows.laid_math_bits_deBruijn64tab)] w) (fun _ _ _ hh h => h.of_heap hh) own11 started (by kernel_rfl) Tryd.func6
    (ChangeSpec.witness_shaped (enc := enc) (C := Tryd.checked) (os := os) (X := fun w _ => laidMetH Tryd.prog [("math/bits.deBruijn64tab", Rows.laid_math_bits_deBruijn64tab)] w) false (World.doorLaid Tryd.prog 400 os) #[.slice none 0 0, .int .u32 0] 8 rfl (World.shaped_of_RefB (by kernel_rfl) (by kernel_rfl)) (by kernel_rfl) (by kernel_rfl) (by kernel_rfl) (door_met11 os _)) ?_
  intro W base args ds gs before hval0 hW _ hsz0 hL _
  have hval : ∀ (j : Nat) t v, Tryd.f6.params[j]? = some t → args[j]? = some v → Value.okWide Tryd.prog W .any base t v := hval0
  have hsz : (DataW.weightsEach Tryd.prog (Tryd.f6.params.toList ++ Rows.spaceBackSpec.plain.varTypes Tryd.prog) (ds ++ gs)).all (· ≤ reachBytes) = true := hsz0
  clear hsz0
  have hW' := hW
  obtain ⟨p, q, hA0, hV, rfl, hfz, hnd⟩ := hW
  have hA : DataW.TrodAll enc Tryd.prog W 0 (fun _ => true) true Tryd.f6.params.toList args.toList ds p := hA0
  rw [Tryd.params6] at hA hval hsz
  obtain ⟨v0, vs0, d0, ds0, p0, q0, hargs, rfl, rfl, h0, r0⟩ := trodAll_cons hA
  obtain ⟨v1, vs1, d1, ds1, p1, q1, rfl, rfl, rfl, h1, r1⟩ := trodAll_cons r0
  obtain ⟨rfl, rfl, rfl⟩ := trodAll_nil r1
  obtain rfl : args = #[v0, v1] := by cases args; simp_all
  obtain ⟨rfl, rfl⟩ := trodVars_none hV
  have k0 := h0
  have lt0 : ∀ x ∈ p0, x.block < W.heap.size := by obtain ⟨m, hm⟩ := k0; exact DataW.trod_lt m _ _ _ hm
  have k1 := h1
  have lt1 : ∀ x ∈ p1, x.block < W.heap.size := by obtain ⟨m, hm⟩ := k1; exact DataW.trod_lt m _ _ _ hm
  obtain ⟨l0, a0, len0, cap0, rfl, us0, cp0, bg0⟩ := par_u32s (j := 0) (hval 0 32 v0 rfl rfl) h0 hsz rfl rfl
  obtain ⟨a1, rfl, sm1⟩ := par_nat32 (j := 1) (hval 1 31 v1 rfl rfl) h1 hsz rfl rfl
  have hK := of_laid11 hL
  clear hA0 hval0
  refine (walk W l0 a0 len0 cap0 us0 cp0 bg0 a1 sm1 hK).mono fun e W' ⟨he, bel⟩ => ?_
  subst he
  exact ⟨_, rfl, _, _, _, [], _, [], hW', trodAll_mk1 (shut_bool Tryd.underlying4 _), (trodAll_cons_mk (Below.trod laidOut11 (by kernel_rfl) (of_decide_eq_true (by kernel_rfl)) k0 bel lt0) (trodAll_cons_mk (Below.trod laidOut11 (by kernel_rfl) (of_decide_eq_true (by kernel_rfl)) k1 bel lt1) trodAll_mk0)), rfl, bel.frame _, fun h => by cases h⟩

theorem over : Rows.SpaceBackSaid :=
  OpenClaim.holds_of_wide 6 Tryd.f6 rfl rfl rfl rfl rfl rfl rfl ⟨rfl, rfl, rfl, rfl, rfl⟩ rfl rfl rfl rfl rfl (by kernel_rfl) Tryd.func6 (by kernel_rfl)
    (of_decide_eq_true (by kernel_rfl)) (by unfold Func.isWrapper; first | (rw [if_pos (by decide +kernel)]; kernel_rfl) | (rw [if_neg (by decide +kernel)]; exact ⟨rfl, rfl⟩))
    (fun os started H enc _ => lifted os started H enc)

/-- The statement. -/
theorem proved : Rows.SpaceBackCardSaid :=
  Claim7.holds_tied_plain_at .later [] [.data] true (true, "3aca2102f0461fcd0b44e8c06fdc99553a88198ed7149c61c15f7a0c181ac545") false
    over (fun _ h => by cases h) (by kernel_rfl) (fun _ h => by cases h) spaceBack_row_tie rfl ⟨rfl, rfl⟩ (by kernel_rfl) rfl
    (fun f fn hf hfn => by
      obtain rfl : f = 6 := Option.some.inj ((show Tryd.prog.funcNamed "banyan/banyanlaw11.SpaceBack" = some 6 by kernel_rfl).symm.trans hf) |>.symm
      obtain rfl : fn = Tryd.f6 := (Option.some.inj (Tryd.func6.symm.trans hfn)).symm
      exact ⟨by kernel_rfl, fun j t ht => by
        rw [Tryd.params6] at ht
        have hm : t ∈ [32, 31] := by simpa using Array.mem_of_getElem? ht
        have hall : ([32, 31].all fun u => !Tryd.prog.wantsStandIn u) = true := by kernel_rfl
        exact (show Tryd.prog.wantsStandIn t = false by simpa using List.all_eq_true.1 hall t hm)⟩)
    (by kernel_rfl)
#print axioms proved
end Go.Proofs.YtpeemnkhcgapnaaDoor.spaceBack
