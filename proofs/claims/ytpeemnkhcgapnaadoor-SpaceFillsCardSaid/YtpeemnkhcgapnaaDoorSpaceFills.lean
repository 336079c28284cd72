/-
  'SpaceFills' returns true at every input, and each argument reads behind the call as it read before. Conditions: the package-level variable that the row lists starts as the program's text lays it (the card ties that).
-/
import Derived.Test.YtpeemnkhcgapnaaDoorVf
import Derived.Test.YtpeemnkhcgapnaaDoorCards
import Derived.Test.YtpeemnkhcgapnaaDoorTie
import Derived.Test.YtpeemnkhcgapnaaDoorVk
namespace Go.Proofs.YtpeemnkhcgapnaaDoor.spaceFills
open Go.ChangeShapes Go.WideShapes Go.ChangeAt Go.RowKit
set_option linter.unusedVariables false


set_option maxRecDepth 100000 in
set_option maxHeartbeats 1600000 in
theorem walk (w : World) (a0 : Nat) (sm0 : a0 < 65536) (l1 : List Nat) (a1 : Option Addr) (len1 cap1 : Nat) (us1 : UH w a1 len1 cap1 l1) (cp1 : len1 ≤ cap1) (bg1 : len1 ≤ 140737488351232) (hK : TZ w) :
    Calls Tryd.prog 4 #[.int .u16 (a0 : Int), .slice a1 len1 cap1] w fun e w' => e = .returned (.bool true) ∧ Below w.heap.size w w' := by
  have HA := Lib.hid (alive11_any w hK)
  have HU := Lib.hid us1
  have lI : (len1 : Int) ≤ 140737488351232 := by omega
  obtain ⟨n, hn⟩ : ∃ n, 16 + a0 % 300 = n := ⟨_, rfl⟩
  have HN := Lib.hid (show 16 ≤ n ∧ n ≤ 4096 ∧ n ≤ 315 from ⟨by omega, by omega, by omega⟩)
  have nE : (16 : Int) + (a0 : Int) % 300 = (n : Int) := by omega
  have nI0 : (16 : Int) ≤ (n : Int) := by omega
  have nI1 : (n : Int) ≤ 315 := by omega
  clear hn
  by_cases hbig : 300 < len1
  · have hbI : (300 : Int) < (len1 : Int) := by omega
    have HT := Lib.hid hK
    clear hbig us1 cp1 bg1 hK
    go_enter Tryd.func4, Tryd.ntmps4
    go_wp2_with fail
    refine HA.out.mono ?_
    rintro e w1 ⟨rfl, hb1⟩
    have HN := Lib.hid (so_new w w1 n HT.out hb1 HN.out.1 HN.out.2.1)
    clear hb1 HA
    go_wp2_with fail
    refine HN.out.mono ?_
    rintro e w2 ⟨rfl, hs2, _⟩
    have HS := Lib.hid hs2
    clear hs2 HN
    go_wp2_with fail
    go_ret
    exact ⟨rfl, HS.out.bel⟩
  have hsm : (len1 : Int) ≤ 300 := by omega
  have HT := Lib.hid hK
  clear hbig us1 cp1 bg1 hK
  go_enter Tryd.func4, Tryd.ntmps4
  go_wp2_with fail
  refine HA.out.mono ?_
  rintro e w1 ⟨rfl, hb1⟩
  have HN := Lib.hid (so_new w w1 n HT.out hb1 HN.out.1 HN.out.2.1)
  clear hb1 HA
  go_wp2_with fail
  refine HN.out.mono ?_
  rintro e w2 ⟨rfl, hs2, _⟩
  generalize w1.heap.size = S at *
  have HS2 := Lib.hid hs2
  clear hs2 HN
  clear nE
  go_wp2_with fail
  go_loopw [8, 9, 10] (fun v8 _ _ wr => ∃ i : Nat, 2 ≤ i ∧ i ≤ n ∧ v8 = .int .i64 (i : Int) ∧ SO w wr S n (fromF i n) ∧ cnt (fromF i n) n = n - i) (fun v _ _ _ => n - (intOf v).toNat)
  case atStart => exact ⟨2, by omega, by have := HN.out.1; omega, rfl, HS2.out, cnt_allF n (by have := HN.out.1; omega)⟩
  case round =>
    clear HS2
    obtain ⟨i, hi2, hin, rfl, hs, hc⟩ := hrel
    by_cases hlt : i < n
    · have HTK := Lib.hid (so_take w _ S n i _ hs (fromF_at i n hlt) (fun x hx => fromF_low i n x hx))
      rw [fromF_next i n hlt] at HTK
      have HC := Lib.hid (show cnt (fromF (i + 1) n) n = n - (i + 1) by
        have := cnt_drop (F := fromF i n) hlt (fromF_at i n hlt)
        rw [fromF_next i n hlt] at this
        omega)
      have HLT := Lib.hid (And.intro hi2 hlt)
      have iI : (i : Int) < (n : Int) := by omega
      have i2I : (2 : Int) ≤ (i : Int) := by omega
      have zE : ((n - (i + 1) : Nat) : Int) = (n : Int) - 1 - (i : Int) := by omega
      clear hs hc hi2 hin hlt
      go_wp2_with fail
      refine HTK.out.mono ?_
      rintro e w3 ⟨rfl, hs3, _⟩
      have HS3 := Lib.hid hs3
      have HL := Lib.hid (so_left w w3 S n _ hs3)
      rw [HC.out, zE] at HL
      clear HTK hs3 zE
      go_wp2_with fail
      refine HL.out.mono ?_
      rintro e w4 ⟨rfl, rfl⟩
      clear HL
      go_wp2_with fail
      go_roundw
      case rel => exact ⟨i + 1, by have := HLT.out; omega, by have := HLT.out; omega, by go_num, HS3.out, HC.out⟩
      case measure => simp [intOf]; have := HLT.out; omega
    · obtain rfl : n = i := by omega
      have HTK := Lib.hid (so_full w _ S n _ hs (fromF_end n))
      have HS3 := Lib.hid hs
      have HSL := Lib.hid hs.lt
      clear hs hc hi2 hin hlt
      have hmm : ∀ W : World, (Instr.makeMap 50 none).run Tryd.prog W = .ok (.map (some W.heap.size)) (W.alloc (.map #[] 0)) := fun W => run_makeMap _ W
      go_wp2_with fail
      refine HTK.out.mono ?_
      rintro e w4 ⟨rfl, rfl⟩
      have HM0 := Lib.hid (um_made w4)
      have hba := (Below.refl w4.heap.size w4).alloc (Nat.le_refl _) (.map #[] 0)
      have HS5 := Lib.hid (HS3.out.below hba)
      have HMB := Lib.hid (show S < w4.heap.size from HSL.out)
      clear HTK hba HS3
      go_wp2_with fail
      clear hmm
      generalize World.alloc w4 _ = w5 at *
      generalize w4.heap.size = Mb at *
      go_loopw [15, 16, 17, 80] (fun _ _ _ v80 wr => ∃ (i d : Nat) (T : List Nat) (F : Nat → Bool), i ≤ len1 ∧ v80 = .int .i64 (i : Int) ∧ UM wr Mb i d T ∧ SO w wr S n F ∧ (∀ a, F a = decide (a ∈ T)) ∧ cnt F n = d) (fun _ _ _ v _ => len1 - (intOf v).toNat)
      case atStart => exact ⟨0, 0, [], _, by omega, rfl, HM0.out, HS5.out, fun a => by rw [fromF_end]; rfl, cnt_none _ n (fun j _ => fromF_end n j)⟩
      case round =>
        clear HM0 HS5
        obtain ⟨i, d, T, F, hi, rfl, hm, hs, hF, hd⟩ := hrel
        by_cases hlt : i < len1
        · obtain ⟨b, off, rfl, hx⟩ := (HU.out.below hs.bel).at hlt
          have hix := index_u16 b off len1 cap1 i hlt
          have iI : (i : Int) < (len1 : Int) := by omega
          have i0 : (0 : Int) ≤ (i : Int) := by omega
          have hlt2 : i < l1.length := by rw [HU.out.len]; exact hlt
          have hxs := HU.out.small (l1.getD i 0) (by
            have e : l1.getD i 0 = l1[i] := by simp [List.getD, hlt2]
            rw [e]; exact List.getElem_mem _)
          generalize l1.getD i 0 = x at *
          obtain ⟨q, hq⟩ : ∃ q : Nat, x % (n - 2) = q := ⟨_, rfl⟩
          have hn2 : 0 < n - 2 := by have := HN.out.1; omega
          have hqn : q < n - 2 := by have := Nat.mod_lt x hn2; omega
          have hnc : ((n - 2 : Nat) : Int) = (n : Int) - 2 := by have := HN.out.1; omega
          have hq2 : ((x : Int)) % ((n : Int) - 2) = (q : Int) := by rw [← hnc, ← hq]; simp
          have hq1 : ((x : Int)).tmod ((n : Int) - 2) = (q : Int) := by rw [Int.tmod_eq_emod_of_nonneg (by omega)]; exact hq2
          have hdz : ((n : Int) - 2 == 0) = false := by simp; omega
          have q0 : (0 : Int) ≤ (q : Int) := by omega
          have qI : (q : Int) < (n : Int) - 2 := by omega
          have hff := so_free w _ S n (2 + q) F hs
          have hlk := fun (W : World) (hb : Touch [S] wr W) => um_look (hm.touch hb (by simp; intro e; have h2 := HMB.out; omega)) (2 + q) (by omega)
          rw [show ((2 + q : Nat) : Int) = 2 + (q : Int) by omega] at hff hlk
          have HFF := Lib.hid hff
          have HLK := Lib.hid hlk
          have HM := Lib.hid hm
          have HFA := Lib.hid hF
          have HD := Lib.hid hd
          have HLT := Lib.hid hlt
          have HQN := Lib.hid (show 2 + q < n by omega)
          clear hs hm hF hd hff hlk hi hlt hlt2 hq hqn hn2 hnc
          by_cases hyT : 2 + q ∈ T
          · rw [show freeA n F (2 + q) = (8, F) from free_none (by omega) HQN.out (by rw [HFA.out]; exact decide_eq_true hyT)] at HFF
            have hdT : decide (2 + q ∈ T) = true := decide_eq_true hyT
            go_wp2_with fail
            refine HFF.out.mono ?_
            rintro e w6 ⟨rfl, hs6, ht6⟩
            have hlk := HLK.out w6 ht6
            rw [hdT] at hlk
            obtain ⟨wu, hup, hum, hut⟩ := um_put (HM.out.touch ht6 (by simp; intro e; have h2 := HMB.out; omega)) (by have := HLT.out; omega) (2 + q) (by omega)
            rw [show ((2 + q : Nat) : Int) = 2 + (q : Int) by omega] at hup
            have HUM := Lib.hid hum
            have HS7 := Lib.hid (hs6.touch hut (by have := HMB.out; simp; omega) (by have := HMB.out; have := hs6.new; simp; omega))
            clear HFF HLK hs6 ht6 hum hut HM
            go_wp2_with fail
            go_roundw
            case rel => exact ⟨i + 1, _, _, _, by have := HLT.out; omega, by go_num, HUM.out, HS7.out, fun a => by rw [HFA.out a]; apply decide_eq_decide.2; rw [List.mem_append, List.mem_singleton]; constructor; (exact fun h => .inl h); (rintro (h | rfl); exact h; exact hyT), by rw [if_pos hyT]; exact HD.out⟩
            case measure => simp [intOf]; have := HLT.out; omega
          · rw [show freeA n F (2 + q) = (0, updF F (2 + q) true) from free_ok (by omega) HQN.out (by rw [HFA.out]; exact decide_eq_false hyT)] at HFF
            have hdT : decide (2 + q ∈ T) = false := decide_eq_false hyT
            go_wp2_with fail
            refine HFF.out.mono ?_
            rintro e w6 ⟨rfl, hs6, ht6⟩
            have hlk := HLK.out w6 ht6
            rw [hdT] at hlk
            obtain ⟨wu, hup, hum, hut⟩ := um_put (HM.out.touch ht6 (by simp; intro e; have h2 := HMB.out; omega)) (by have := HLT.out; omega) (2 + q) (by omega)
            rw [show ((2 + q : Nat) : Int) = 2 + (q : Int) by omega] at hup
            have HUM := Lib.hid hum
            have HS7 := Lib.hid (hs6.touch hut (by have := HMB.out; simp; omega) (by have := HMB.out; have := hs6.new; simp; omega))
            clear HFF HLK hs6 ht6 hum hut HM
            go_wp2_with fail
            go_roundw
            case rel => exact ⟨i + 1, _, _, _, by have := HLT.out; omega, by go_num, HUM.out, HS7.out, fun a => by (unfold updF; rw [HFA.out a]; by_cases e : a = 2 + q; (subst e; simp); (rw [if_neg e]; simp [e])), by rw [if_neg hyT, cnt_back HQN.out (by rw [HFA.out]; exact decide_eq_false hyT), HD.out]⟩
            case measure => simp [intOf]; have := HLT.out; omega
        · obtain rfl : i = len1 := by omega
          have HFA := Lib.hid hF
          have HD := Lib.hid hd
          obtain ⟨D, hown, hud⟩ := um_open hm
          have HUD := Lib.hid hud
          have HS0 := Lib.hid hs
          obtain ⟨cm, hcm⟩ : ∃ cm, i = cm := ⟨_, rfl⟩
          have HOW := Lib.hid hs.sp.own
          clear hm hF hd hs hi hlt hud
          go_wp2_with (first
            | (at_range; refine wpList_range_own _ rfl _ 50 rfl 31 4 keyed_u32 Tryd.underlying50 _ Mb i D rfl hown ?_; intro w0 hrg0 hg0 hs0))
          try go_frame
          obtain ⟨r0, hr0⟩ : ∃ r0, wr.heap.size = r0 := ⟨_, rfl⟩
          have HC0 := Lib.hid (HS0.out.touch (l := []) (Touch.grown hg0) (by simp) (by simp))
          have HSR := Lib.hid (show S < r0 from by rw [← hr0]; exact HS0.out.lt)
          rw [hr0] at hrg0 ⊢
          have HR0 := Lib.hid hrg0
          clear hr0 hs0 hg0 hown HS0 hcm hrg0
          go_loopw [18, 19, 20] (fun v18 _ _ wr => ∃ (left : Lit → Bool) (cn : Nat) (ss : List Nat) (G : Nat → Bool) (last : Nat), RG wr Mb r0 i D left cn ∧ CollU D left ss ∧ v18 = .int .u32 (last : Int) ∧ SO w wr S n G ∧ cnt G n + ss.length = d ∧ (∀ a, G a = true → a ∈ T ∧ last < a) ∧ last < 4294967296) (fun _ _ _ wr => wr.rangeLeft Mb r0)
          case atStart => exact ⟨_, _, [], F, 0, HR0.out, CollU.start D, rfl, HC0.out, by rw [HD.out]; rfl, fun a ha => ⟨of_decide_eq_true ((HFA.out a).symm.trans ha), by have := (HOW.out a ha).1; omega⟩, by decide⟩
          case round =>
            clear HC0 HR0
            obtain ⟨left, cn, ss, G, last, hrg, hC, rfl, hs, hcg, hG, hl32⟩ := hrel
            go_wp2_with (first
              | (at_next; refine wpList_next_ranges _ rfl _ rfl 31 keyed_u32 (plainElem (H := Unit) Tryd.prog 4) (fun z : Nat => Value.int .u32 (z : Int)) id (fun key kl hk => by obtain ⟨x, hx, _⟩ := keyof_inv hk; exact ⟨x, hx⟩) (fun v _ _ => ⟨v, rfl⟩) Mb r0 i _ _ _ rfl hrg ?_ ?_))
            · intro hc0 hl0
              have hcov : cnt F n ≤ ss.length := cnt_cover n ss F (fun a ha hFa => (hC.2 a).2 ⟨by rw [(HUD.out.tells a).1, ← HFA.out a]; exact hFa, hl0 _⟩)
              have hG0 : ∀ a, G a = false := fun a => by
                cases hGa : G a with
                | false => rfl
                | true =>
                  have h1 := cnt_pos (hs.sp.own a hGa).2 hGa
                  have h2 := HD.out
                  omega
              have HTK := Lib.hid (so_full w _ S n G hs hG0)
              have HB := Lib.hid hs.bel
              clear hcov hG0 hs hcg hG hrg hC hc0 hl0
              go_wp2_with fail
              refine HTK.out.mono ?_
              rintro e w8 ⟨rfl, rfl⟩
              clear HTK
              go_wp2_with fail
              go_ret
              exact ⟨rfl, HB.out⟩
            · intro x c kl0 yd yp w2 cnt2 hkey hlk hv hat hrg2 hlt2 hg2 hs2 hen
              obtain ⟨x', ex, rfl, hx32⟩ := keyof_inv hkey
              obtain rfl : x = x' := by injection ex with _ ex; omega
              have hhas : Maps.has D (ku x) = true := Maps.has_true_of_atKey hat
              obtain ⟨hnx, hC2⟩ := hC.step hlk hhas
              have HG1 := Lib.hid (show ss.length + 1 ≤ d by
                have hle := nodup_cnt n (ss ++ [x]) F hC2.1 (fun a ha => by
                  have hha : Maps.has D (ku a) = true := by
                    rcases List.mem_append.1 ha with h1 | h1
                    · exact ((hC.2 a).1 h1).1
                    · simp at h1; subst h1; exact hhas
                  have hFa : F a = true := by rw [HFA.out a, ← (HUD.out.tells a).1]; exact hha
                  exact ⟨hFa, (HOW.out a hFa).2⟩)
                rw [List.length_append, List.length_singleton, HD.out] at hle
                exact hle)
              have hs3 := hs.touch (l := [r0]) ((Touch.grown hg2).more (by simp)) (by simp; have := HSR.out; omega) (by simp; have := HSR.out; have := hs.new; omega)
              have HS3 := Lib.hid hs3
              have HR3 := Lib.hid hrg2
              have HRO := Lib.hid hrg
              have HLT2 := Lib.hid hlt2
              have HC2 := Lib.hid hC2
              rcases low_or_none G n hs3.sp.own with hnone | ⟨y, hy, hlow⟩
              · exfalso
                have h1 := cnt_none G n (fun j _ => hnone j)
                have h2 := HG1.out
                omega
              · have HTK := Lib.hid (so_take w w2 S n y G hs3 hy hlow)
                have hyo := hs3.sp.own y hy
                have hyg := hG y hy
                have HCD := Lib.hid (cnt_drop hyo.2 hy)
                have HYG := Lib.hid (And.intro hyo hyg)
                have HGG := Lib.hid (show ∀ a, updF G y false a = true → a ∈ T ∧ y < a from fun a ha => by
                  unfold updF at ha
                  split at ha
                  · cases ha
                  · refine ⟨(hG a ha).1, ?_⟩
                    by_cases q : a < y
                    · rw [hlow a q] at ha; cases ha
                    · omega)
                have HCG := Lib.hid hcg
                have yI : (y : Int) < 315 := by have := HN.out.2.2; omega
                have y0 : (0 : Int) ≤ (y : Int) := by omega
                have ylI : (last : Int) < (y : Int) := by have := hyg.2; omega
                clear hkey hlk hv hat hg2 hs2 hC hrg hrg2 hlt2 hs hs3 hcg hG hy hlow hyo hyg hnx hC2 hhas ex
                go_wp2_with fail
                refine HTK.out.mono ?_
                rintro e w4 ⟨rfl, hs4, ht4⟩
                have hrg4 := HR3.out.kept (grown_of_touch ht4) (by simp; intro e; have h2 := HMB.out; omega) (by simp; intro e; have h2 := HSR.out; omega)
                have hlk4 := um_look (um_mk hrg4.owns HUD.out) y (by have := HYG.out.1.2; have := HN.out.2.2; omega)
                rw [decide_eq_true HYG.out.2.1] at hlk4
                have HR4 := Lib.hid hrg4
                have HS4 := Lib.hid hs4
                clear HTK hs4 ht4 hrg4 HR3 HS3
                go_wp2_with fail
                go_roundw
                case rel => exact ⟨_, cnt2, ss ++ [x], _, y, HR4.out, HC2.out, rfl, HS4.out, by rw [List.length_append, List.length_singleton]; have := HCD.out; have := HCG.out; omega, HGG.out, by have := HYG.out.1.2; have := HN.out.2.2; omega⟩
                case measure => rw [HR4.out.left_eq, HRO.out.left_eq]; exact HLT2.out
set_option maxRecDepth 100000 in
theorem lifted (os : Os) (started : os.Started) (H : Type) (enc : TypeId × Value → H) :
    ReturnsInHanded {} Tryd.checked os 4 .any (fun w args => (Rows.spaceFillsSpec.pre enc Tryd.prog Tryd.f4 [] false w args ∧ laidMetH Tryd.prog [("math/bits.deBruijn64tab", Rows.laid_math_bits_deBruijn64tab)] w) ∧ sizedMet enc Tryd.prog Tryd.f4 (OpenSpec.ofChange Rows.spaceFillsSpec) false w args)
      (Rows.spaceFillsSpec.post enc Tryd.prog Tryd.f4 false true false false) := by
  refine returnsInHanded_of_change_and (C := Tryd.checked) (X := fun w _ => laidMetH Tryd.prog [("math/bits.deBruijn64tab", Rows.laid_math_bits_deBruijn64tab)] w) (fun _ _ _ hh h => h.of_heap hh) own11 started (by kernel_rfl) Tryd.func4
    (ChangeSpec.witness_shaped (enc := enc) (C := Tryd.checked) (os := os) (X := fun w _ => laidMetH Tryd.prog [("math/bits.deBruijn64tab", Rows.laid_math_bits_deBruijn64tab)] w) false (World.doorLaid Tryd.prog 400 os) #[.int .u16 0, .slice none 0 0] 8 rfl (World.shaped_of_RefB (by kernel_rfl) (by kernel_rfl)) (by kernel_rfl) (by kernel_rfl) (by kernel_rfl) (door_met11 os _)) ?_
  intro W base args ds gs before hval0 hW _ hsz0 hL _
  have hval : ∀ (j : Nat) t v, Tryd.f4.params[j]? = some t → args[j]? = some v → Value.okWide Tryd.prog W .any base t v := hval0
  have hsz : (DataW.weightsEach Tryd.prog (Tryd.f4.params.toList ++ Rows.spaceFillsSpec.plain.varTypes Tryd.prog) (ds ++ gs)).all (· ≤ reachBytes) = true := hsz0
  clear hsz0
  have hW' := hW
  obtain ⟨p, q, hA0, hV, rfl, hfz, hnd⟩ := hW
  have hA : DataW.TrodAll enc Tryd.prog W 0 (fun _ => true) true Tryd.f4.params.toList args.toList ds p := hA0
  rw [Tryd.params4] at hA hval hsz
  obtain ⟨v0, vs0, d0, ds0, p0, q0, hargs, rfl, rfl, h0, r0⟩ := trodAll_cons hA
  obtain ⟨v1, vs1, d1, ds1, p1, q1, rfl, rfl, rfl, h1, r1⟩ := trodAll_cons r0
  obtain ⟨rfl, rfl, rfl⟩ := trodAll_nil r1
  obtain rfl : args = #[v0, v1] := by cases args; simp_all
  obtain ⟨rfl, rfl⟩ := trodVars_none hV
  have k0 := h0
  have lt0 : ∀ x ∈ p0, x.block < W.heap.size := by obtain ⟨m, hm⟩ := k0; exact DataW.trod_lt m _ _ _ hm
  have k1 := h1
  have lt1 : ∀ x ∈ p1, x.block < W.heap.size := by obtain ⟨m, hm⟩ := k1; exact DataW.trod_lt m _ _ _ hm
  obtain ⟨a0, rfl, sm0⟩ := par_nat16 (j := 0) (hval 0 48 v0 rfl rfl) h0 hsz rfl rfl
  obtain ⟨l1, a1, len1, cap1, rfl, us1, cp1, bg1⟩ := par_u16s (j := 1) (hval 1 49 v1 rfl rfl) h1 hsz rfl rfl
  have hK := of_laid11 hL
  clear hA0 hval0
  refine (walk W a0 sm0 l1 a1 len1 cap1 us1 cp1 bg1 hK).mono fun e W' ⟨he, bel⟩ => ?_
  subst he
  exact ⟨_, rfl, _, _, _, [], _, [], hW', trodAll_mk1 (shut_bool Tryd.underlying4 _), (trodAll_cons_mk (Below.trod laidOut11 (by kernel_rfl) (of_decide_eq_true (by kernel_rfl)) k0 bel lt0) (trodAll_cons_mk (Below.trod laidOut11 (by kernel_rfl) (of_decide_eq_true (by kernel_rfl)) k1 bel lt1) trodAll_mk0)), rfl, bel.frame _, fun h => by cases h⟩

theorem over : Rows.SpaceFillsSaid :=
  OpenClaim.holds_of_wide 4 Tryd.f4 rfl rfl rfl rfl rfl rfl rfl ⟨rfl, rfl, rfl, rfl, rfl⟩ rfl rfl rfl rfl rfl (by kernel_rfl) Tryd.func4 (by kernel_rfl)
    (of_decide_eq_true (by kernel_rfl)) (by unfold Func.isWrapper; first | (rw [if_pos (by decide +kernel)]; kernel_rfl) | (rw [if_neg (by decide +kernel)]; exact ⟨rfl, rfl⟩))
    (fun os started H enc _ => lifted os started H enc)

/-- The statement. -/
theorem proved : Rows.SpaceFillsCardSaid :=
  Claim7.holds_tied_plain_at .later [] [.data] true (true, "3aca2102f0461fcd0b44e8c06fdc99553a88198ed7149c61c15f7a0c181ac545") false
    over (fun _ h => by cases h) (by kernel_rfl) (fun _ h => by cases h) spaceFills_row_tie rfl ⟨rfl, rfl⟩ (by kernel_rfl) rfl
    (fun f fn hf hfn => by
      obtain rfl : f = 4 := Option.some.inj ((show Tryd.prog.funcNamed "banyan/banyanlaw11.SpaceFills" = some 4 by kernel_rfl).symm.trans hf) |>.symm
      obtain rfl : fn = Tryd.f4 := (Option.some.inj (Tryd.func4.symm.trans hfn)).symm
      exact ⟨by kernel_rfl, fun j t ht => by
        rw [Tryd.params4] at ht
        have hm : t ∈ [48, 49] := by simpa using Array.mem_of_getElem? ht
        have hall : ([48, 49].all fun u => !Tryd.prog.wantsStandIn u) = true := by kernel_rfl
        exact (show Tryd.prog.wantsStandIn t = false by simpa using List.all_eq_true.1 hall t hm)⟩)
    (by kernel_rfl)
#print axioms proved
end Go.Proofs.YtpeemnkhcgapnaaDoor.spaceFills
