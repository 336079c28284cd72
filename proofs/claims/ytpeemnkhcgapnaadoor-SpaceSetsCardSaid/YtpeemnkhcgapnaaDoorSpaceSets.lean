/-
  'SpaceSets' returns true at every input, and each argument reads behind the call as it read before. Conditions: the package-level variable that the row lists starts as the program's text lays it (the card ties that).
-/
import Derived.Test.YtpeemnkhcgapnaaDoorVf
import Derived.Test.YtpeemnkhcgapnaaDoorCards
import Derived.Test.YtpeemnkhcgapnaaDoorTie
import Derived.Test.YtpeemnkhcgapnaaDoorVj
import Derived.Deep.QuietTactic
namespace Go.Proofs.YtpeemnkhcgapnaaDoor.spaceSets
open Go.ChangeShapes Go.WideShapes Go.ChangeAt Go.RowKit
set_option linter.unusedVariables false


set_option maxRecDepth 100000 in
set_option maxHeartbeats 1600000 in
theorem walk (w : World) (l0 : List Nat) (a0 : Option Addr) (len0 cap0 : Nat) (us0 : US w a0 len0 cap0 l0) (cp0 : len0 ≤ cap0) (bg0 : len0 ≤ 140737488351232) (a1 : Nat) (sm1 : a1 < 65536) (hK : TZ w) :
    Calls Tryd.prog 5 #[.slice a0 len0 cap0, .int .u16 (a1 : Int)] w fun e w' => e = .returned (.bool true) ∧ Below w.heap.size w w' := by
  have HA := Lib.hid (alive11_any w hK)
  have HU := Lib.hid us0
  have lI : (len0 : Int) ≤ 140737488351232 := by omega
  obtain ⟨n, hn⟩ : ∃ n, 16 + a1 % 200 = n := ⟨_, rfl⟩
  have HN := Lib.hid (show 16 ≤ n ∧ n ≤ 4096 ∧ n ≤ 215 from ⟨by omega, by omega, by omega⟩)
  have nE : (16 : Int) + (a1 : Int) % 200 = (n : Int) := by omega
  have nI0 : (16 : Int) ≤ (n : Int) := by omega
  have nI1 : (n : Int) ≤ 215 := by omega
  clear hn
  by_cases hbig : 500 < len0
  · have hbI : (500 : Int) < (len0 : Int) := by omega
    have HT := Lib.hid hK
    clear hbig us0 cp0 bg0 hK
    go_enter Tryd.func5, Tryd.ntmps5
    go_wp2_with fail
    refine HA.out.mono ?_
    rintro e w1 ⟨rfl, hb1⟩
    have HN := Lib.hid (so_new w w1 n HT.out hb1 HN.out.1 HN.out.2.1)
    clear hb1 HA
    go_wp2_with fail
    refine HN.out.mono ?_
    rintro e w2 ⟨rfl, hs2, _⟩
    have HS := Lib.hid hs2
    clear hs2 HN
    go_wp2_with fail
    go_ret
    exact ⟨rfl, HS.out.bel⟩
  have hsm : (len0 : Int) ≤ 500 := by omega
  have HT := Lib.hid hK
  clear hbig us0 cp0 bg0 hK
  go_enter Tryd.func5, Tryd.ntmps5
  go_wp2_with fail
  refine HA.out.mono ?_
  rintro e w1 ⟨rfl, hb1⟩
  have HN := Lib.hid (so_new w w1 n HT.out hb1 HN.out.1 HN.out.2.1)
  clear hb1 HA
  go_wp2_with fail
  refine HN.out.mono ?_
  rintro e w2 ⟨rfl, hs2, _⟩
  generalize w1.heap.size = S at *
  have HS2 := Lib.hid hs2
  clear hs2 HN
  clear nE
  have HTK := Lib.hid (so_take w w2 S n 2 _ HS2.out (by have := HN.out.1; unfold allF; simp; omega) (fun x hx => by unfold allF; simp; omega))
  go_wp2_with fail
  refine HTK.out.mono ?_
  rintro e w3 ⟨rfl, hs3, _⟩
  obtain ⟨F1, hF1⟩ : ∃ F1, updF (allF n) 2 false = F1 := ⟨_, rfl⟩
  rw [hF1] at hs3
  have HF1 := Lib.hid (show F1 2 = false ∧ cnt F1 n + 1 = n - 2 by
    have := HN.out.1
    rw [← hF1, updF_same, cnt_drop (by omega) (by unfold allF; simp; omega), cnt_allF n (by omega)]
    exact ⟨rfl, rfl⟩)
  have HS3 := Lib.hid hs3
  have HLB := Lib.hid (show len0 ≤ 500 by omega)
  obtain ⟨ok, hok⟩ : ∃ ok, inB n l0 = ok := ⟨_, rfl⟩
  have hset := so_set w w3 S n len0 cap0 a0 F1 l0 hs3 (HU.out.below hs3.bel) (by omega) ok (by rw [← hok]; exact inB_iff n l0)
  obtain ⟨fv, hfv⟩ : ∃ fv, (setA n F1 l0 ok).1 = fv := ⟨_, rfl⟩
  obtain ⟨F2, hF2⟩ : ∃ F2, (setA n F1 l0 ok).2 = F2 := ⟨_, rfl⟩
  rw [hfv, hF2] at hset
  have HFV := Lib.hid (And.intro hfv hF2)
  have HOK := Lib.hid hok
  have HST := Lib.hid hset
  clear HTK hs3 hF1 hset hfv hF2 hok HS2
  go_wp2_with fail
  refine HST.out.mono ?_
  rintro e w4 ⟨rfl, hs4, _⟩
  have HM0 := Lib.hid (um_made w4)
  have hba := (Below.refl w4.heap.size w4).alloc (Nat.le_refl _) (.map #[] 0)
  have HS5 := Lib.hid (hs4.below hba)
  have HSM := Lib.hid (show S < w4.heap.size from hs4.lt)
  have hmm : ∀ W : World, (Instr.makeMap 50 none).run Tryd.prog W = .ok (.map (some W.heap.size)) (W.alloc (.map #[] 0)) := fun W => run_makeMap _ W
  clear HST hs4 hba HS3
  go_wp2_with fail
  clear hmm
  generalize World.alloc w4 _ = w5 at *
  generalize w4.heap.size = Mb at *
  go_loopw [11, 14, 49] (fun v11 _ v49 wr => ∃ (i d : Nat), i ≤ len0 ∧ v49 = .int .i64 (i : Int) ∧ v11 = .bool (inB n (l0.take i)) ∧ UM wr Mb i d (l0.take i) ∧ SO w wr S n F2 ∧ (inB n (l0.take i) = true → d + cnt (minF n (l0.take i)) n = n - 2)) (fun _ _ v _ => len0 - (intOf v).toNat)
  case atStart => exact ⟨0, 0, by omega, rfl, by rw [List.take_zero, inB_nil], by rw [List.take_zero]; exact HM0.out, HS5.out, fun _ => by rw [List.take_zero, minF_nil, cnt_allF n (by have := HN.out.1; omega), Nat.zero_add]⟩
  case round =>
    clear HM0 HS5
    obtain ⟨i, d, hi, rfl, rfl, hm, hs, hd⟩ := hrel
    by_cases hlt : i < len0
    · obtain ⟨b, off, rfl, hx⟩ := (HU.out.below hs.bel).at hlt
      have hix := index_u32 b off len0 cap0 i hlt
      have iI : (i : Int) < (len0 : Int) := by omega
      have i0 : (0 : Int) ≤ (i : Int) := by omega
      have hlt2 : i < l0.length := by rw [HU.out.len]; exact hlt
      have hxs := HU.out.small (l0.getD i 0) (by
        have e : l0.getD i 0 = l0[i] := by simp [List.getD, hlt2]
        rw [e]; exact List.getElem_mem _)
      have HTN := Lib.hid (take_next11 l0 i hlt2)
      generalize l0.getD i 0 = x at *
      obtain ⟨wu, hup, hum, hut⟩ := um_put hm (by have := HLB.out; omega) x hxs
      have HUP := Lib.hid (And.intro hum hut)
      have HLT := Lib.hid hlt
      have HSS := Lib.hid hs
      have HD := Lib.hid hd
      have x0 : (0 : Int) ≤ (x : Int) := by omega
      clear hs hm hd hum hut hi hlt hlt2
      generalize l0.take i = T at *
      cases hmb : inB n T with
      | false =>
        have HMB := Lib.hid hmb
        clear hmb HD
        go_wp2_with fail
        go_roundw
        case rel => exact ⟨i + 1, _, by have := HLT.out; omega, by go_num, by rw [HTN.out, inB_next]; rw [HMB.out]; rfl, by rw [HTN.out]; exact HUP.out.1, HSS.out.touch HUP.out.2 (by have := HSM.out; simp; omega) (by have := HSM.out; have := HSS.out.new; simp; omega), by rw [HTN.out]; intro q; rw [inB_next, HMB.out] at q; cases q⟩
        case measure => simp [intOf]; have := HLT.out; omega
      | true =>
        have HMB := Lib.hid hmb
        have HDD := Lib.hid (HD.out hmb)
        clear hmb HD
        by_cases hx2 : 2 ≤ x
        · have xI2 : (2 : Int) ≤ (x : Int) := by omega
          by_cases hxn : x < n
          · have xIn : (x : Int) < (n : Int) := by omega
            have HX := Lib.hid (And.intro hx2 hxn)
            clear hx2 hxn
            go_wp2_with fail
            go_roundw
            case rel => exact ⟨i + 1, _, by have := HLT.out; omega, by go_num, by rw [HTN.out, inB_next]; rw [HMB.out, decide_eq_true HX.out.1, decide_eq_true HX.out.2]; rfl, by rw [HTN.out]; exact HUP.out.1, HSS.out.touch HUP.out.2 (by have := HSM.out; simp; omega) (by have := HSM.out; have := HSS.out.new; simp; omega), by rw [HTN.out]; exact fun _ => cnt_min n T x _ HX.out.1 HX.out.2 HDD.out⟩
            case measure => simp [intOf]; have := HLT.out; omega
          · have xIn : (n : Int) ≤ (x : Int) := by omega
            have HX := Lib.hid (show (decide (2 ≤ x) && decide (x < n)) = false by rw [decide_eq_false hxn, Bool.and_false])
            have HXN := Lib.hid hxn
            clear hx2 hxn
            go_wp2_with fail
            go_roundw
            case rel => exact ⟨i + 1, _, by have := HLT.out; omega, by go_num, by rw [HTN.out, inB_next]; rw [HMB.out, HX.out, decide_eq_false HXN.out]; rfl, by rw [HTN.out]; exact HUP.out.1, HSS.out.touch HUP.out.2 (by have := HSM.out; simp; omega) (by have := HSM.out; have := HSS.out.new; simp; omega), by rw [HTN.out]; intro q; rw [inB_next, HX.out, Bool.and_false] at q; cases q⟩
            case measure => simp [intOf]; have := HLT.out; omega
        · have xI2 : (x : Int) < 2 := by omega
          have HX := Lib.hid (show (decide (2 ≤ x) && decide (x < n)) = false by rw [decide_eq_false hx2, Bool.false_and])
          clear hx2
          go_wp2_with fail
          go_roundw
          case rel => exact ⟨i + 1, _, by have := HLT.out; omega, by go_num, by rw [HTN.out, inB_next]; rw [HMB.out, HX.out]; rfl, by rw [HTN.out]; exact HUP.out.1, HSS.out.touch HUP.out.2 (by have := HSM.out; simp; omega) (by have := HSM.out; have := HSS.out.new; simp; omega), by rw [HTN.out]; intro q; rw [inB_next, HX.out, Bool.and_false] at q; cases q⟩
          case measure => simp [intOf]; have := HLT.out; omega
    · obtain rfl : i = len0 := by omega
      rw [show l0.take i = l0 from List.take_of_length_le (by rw [HU.out.len]; exact Nat.le_refl _)] at hm hd ⊢
      rw [HOK.out] at hd ⊢
      cases ok with
      | false =>
        obtain rfl : 2 = fv := HFV.out.1
        obtain rfl : F1 = F2 := HFV.out.2
        obtain ⟨z, hz⟩ : ∃ z, cnt F1 n = z := ⟨_, rfl⟩
        have hh := so_has w _ S n 2 F1 hs
        rw [has_in (by decide) (by have := HN.out.1; omega), HF1.out.1] at hh
        have HH := Lib.hid hh
        have zI : (z : Int) = (n : Int) - 3 := by have := HF1.out.2; have := HN.out.1; omega
        have HZ := Lib.hid hz
        clear hh hs hm hd HFV hi hlt hz
        go_wp2_with fail
        refine HH.out.mono ?_
        rintro e w6 ⟨rfl, hs6, _⟩
        have HS6 := Lib.hid hs6
        have HL := Lib.hid (so_left w w6 S n F1 hs6)
        rw [HZ.out] at HL
        clear HH hs6
        go_wp2_with fail
        refine HL.out.mono ?_
        rintro e w7 ⟨rfl, rfl⟩
        clear HL
        go_wp2_with fail
        go_ret
        exact ⟨rfl, HS6.out.bel⟩
      | true =>
        obtain rfl : 0 = fv := HFV.out.1
        obtain rfl : minF n l0 = F2 := HFV.out.2
        have HALL := Lib.hid ((inB_iff n l0).1 HOK.out)
        have HDD := Lib.hid (hd rfl)
        have HMM := Lib.hid hm
        have HSS := Lib.hid hs
        clear hs hm hd HFV hi hlt
        go_wp2_with fail
        go_loopw [15, 90] (fun _ v90 wr => ∃ a : Nat, a ≤ n + 5 ∧ v90 = .int .u32 (a : Int) ∧ SO w wr S n (minF n l0) ∧ UM wr Mb i d l0) (fun _ v _ => n + 5 - (intOf v).toNat)
        case atStart => exact ⟨0, by omega, rfl, HSS.out, HMM.out⟩
        case round =>
          clear HSS HMM
          obtain ⟨a, ha, rfl, hs, hm⟩ := hrel
          by_cases hal : a < n + 5
          · have aI : (a : Int) < (n : Int) + 5 := by omega
            have a0' : (0 : Int) ≤ (a : Int) := by omega
            have hlk := fun (p : BelowBy wr) => um_look (hm.below p.bel) a (by have := HN.out.2.2; omega)
            have HH := Lib.hid (fun (p : BelowBy wr) => show Calls Tryd.prog 25 #[.pointer (some ⟨S, 0, none⟩), .int .u32 (a : Int)] p.now fun e w' => e = .returned (.bool (decide (a ∈ l0))) ∧ Below p.now.heap.size p.now w' from by
              have h := so_has w p.now S n a _ (hs.below p.bel)
              rw [has_min HALL.out] at h
              exact h.mono fun e w' q => ⟨q.1, q.2.2⟩)
            have HSS := Lib.hid hs
            have HMM := Lib.hid hm
            have HLT := Lib.hid hal
            have hrr : (decide (a ∈ l0) != decide (a ∈ l0)) = false := by cases decide (a ∈ l0) <;> rfl
            obtain ⟨r, hr⟩ : ∃ r, decide (a ∈ l0) = r := ⟨_, rfl⟩
            rw [hr] at hlk HH hrr
            clear hs hm ha hal hr
            go_upto_region 24 with fail
            try simp only [Act.put]
            refine wp_region_below (by kernel_rfl) (by kernel_rfl) ?_
            repeat (go_big_quiet_step ((go_at_call 25; exact calls_below (HH.out _))))
            refine wpQuiet_nil ?_
            intro _ hw'
            obtain ⟨p, hw''⟩ := hw'
            subst hw''
            have HQ := Lib.hid (And.intro (HSS.out.below p.bel) (HMM.out.below p.bel))
            clear hlk HH HSS HMM
            generalize p.now = w6 at *
            go_wp2_with fail
            go_roundw
            case rel => exact ⟨a + 1, by have := HLT.out; omega, by go_num, HQ.out.1, HQ.out.2⟩
            case measure => simp [intOf]; have := HLT.out; omega
          · have hgeI : (n : Int) + 5 ≤ (a : Int) := by omega
            have HMM := Lib.hid hm
            have HSS := Lib.hid hs
            clear hm hs ha hal
            rcases low_or_none (minF n l0) n HSS.out.sp.own with hnone | ⟨y, hy, hlow⟩
            · have HTK := Lib.hid (so_full w _ S n _ HSS.out hnone)
              have hcz := cnt_none (minF n l0) n (fun j _ => hnone j)
              have dI : (d : Int) = (n : Int) - 2 := by have := HDD.out; have := HN.out.1; omega
              have hln := fun ty => um_len HMM.out ty
              have HBB := Lib.hid HSS.out.bel
              clear hnone hcz HSS
              go_wp2_with fail
              refine HTK.out.mono ?_
              rintro e w7 ⟨rfl, rfl⟩
              clear HTK
              go_wp2_with fail
              go_ret
              exact ⟨rfl, HBB.out⟩
            · have hyo := HSS.out.sp.own y hy
              have HTK := Lib.hid (so_take w _ S n y _ HSS.out hy hlow)
              have hcp := cnt_pos hyo.2 hy
              have hcd := cnt_drop hyo.2 hy
              have hyl : decide (y ∈ l0) = false := by
                unfold minF at hy
                simp at hy
                exact decide_eq_false hy.2
              obtain ⟨z, hz⟩ : ∃ z, cnt (updF (minF n l0) y false) n = z := ⟨_, rfl⟩
              have dI : (d : Int) ≠ (n : Int) - 2 := by have := HDD.out; have := HN.out.1; omega
              have dI2 : ((d : Int) == (n : Int) - 2) = false := by simpa using dI
              have zI : (z : Int) = (n : Int) - 3 - (d : Int) := by have := HDD.out; have := HN.out.1; omega
              have y0 : (0 : Int) ≤ (y : Int) := by omega
              have dI3 : (d : Int) ≤ 215 := by have := HDD.out; have := HN.out.2.2; omega
              have HY := Lib.hid (And.intro hyo (And.intro hyl hz))
              have HSB := Lib.hid (show S ∉ ([] : List Nat) by simp)
              clear hy hlow hcp hcd hyl hyo hz dI
              go_wp2_with fail
              refine HTK.out.mono ?_
              rintro e w7 ⟨rfl, hs7, ht7⟩
              have hm7 := HMM.out.touch ht7 (by have := HSM.out; simp; omega)
              have HS7 := Lib.hid hs7
              have hln := fun ty => um_len hm7 ty
              have hlk := um_look hm7 y (by have := HY.out.1.2; have := HN.out.2.2; omega)
              rw [HY.out.2.1] at hlk
              have HL := Lib.hid (so_left w w7 S n _ hs7)
              rw [HY.out.2.2] at HL
              have hmk := so_mark w w7 S n y _ hs7
              rw [show markA n (updF (minF n l0) y false) y = (9, updF (minF n l0) y false) by unfold markA; rw [if_neg (by have := HY.out.1; omega), if_neg (by rw [updF_same]; simp)]] at hmk
              have HMK := Lib.hid hmk
              clear HTK hs7 ht7 hmk HSS hm7
              generalize updF (minF n l0) y false = F3 at *
              go_wp2_with fail
              refine HL.out.mono ?_
              rintro e w8 ⟨rfl, rfl⟩
              clear HL
              go_wp2_with fail
              refine HMK.out.mono ?_
              rintro e w9 ⟨rfl, hs9, _⟩
              have hmk := so_mark w w9 S n 0 _ hs9
              rw [show markA n F3 0 = (2, F3) by unfold markA; rw [if_pos (.inl (by decide))]] at hmk
              have HMK1 := Lib.hid hmk
              clear HMK hs9 hmk hln hlk
              go_wp2_with fail
              refine HMK1.out.mono ?_
              rintro e w10 ⟨rfl, hs10, _⟩
              have hmk := so_mark w w10 S n 1 _ hs10
              rw [show markA n F3 1 = (2, F3) by unfold markA; rw [if_pos (.inl (by decide))]] at hmk
              have HMK2 := Lib.hid hmk
              clear HMK1 hs10 hmk
              go_wp2_with fail
              refine HMK2.out.mono ?_
              rintro e w11 ⟨rfl, hs11, _⟩
              have hfr := so_free w w11 S n n _ hs11
              rw [show freeA n F3 n = (2, F3) by unfold freeA; rw [if_pos (.inr (Nat.le_refl _))]] at hfr
              have HFR := Lib.hid hfr
              clear HMK2 hs11 hfr
              go_wp2_with fail
              refine HFR.out.mono ?_
              rintro e w12 ⟨rfl, hs12, _⟩
              have HS12 := Lib.hid hs12
              clear HFR hs12
              go_wp2_with fail
              go_ret
              exact ⟨rfl, HS12.out.bel⟩
set_option maxRecDepth 100000 in
theorem lifted (os : Os) (started : os.Started) (H : Type) (enc : TypeId × Value → H) :
    ReturnsInHanded {} Tryd.checked os 5 .any (fun w args => (Rows.spaceSetsSpec.pre enc Tryd.prog Tryd.f5 [] false w args ∧ laidMetH Tryd.prog [("math/bits.deBruijn64tab", Rows.laid_math_bits_deBruijn64tab)] w) ∧ sizedMet enc Tryd.prog Tryd.f5 (OpenSpec.ofChange Rows.spaceSetsSpec) false w args)
      (Rows.spaceSetsSpec.post enc Tryd.prog Tryd.f5 false true false false) := by
  refine returnsInHanded_of_change_and (C := Tryd.checked) (X := fun w _ => laidMetH Tryd.prog [("math/bits.deBruijn64tab", Rows.laid_math_bits_deBruijn64tab)] w) (fun _ _ _ hh h => h.of_heap hh) own11 started (by kernel_rfl) Tryd.func5
    (ChangeSpec.witness_shaped (enc := enc) (C := Tryd.checked) (os := os) (X := fun w _ => laidMetH Tryd.prog [("math/bits.deBruijn64tab", Rows.laid_math_bits_deBruijn64tab)] w) false (World.doorLaid Tryd.prog 400 os) #[.slice none 0 0, .int .u16 0] 8 rfl (World.shaped_of_RefB (by kernel_rfl) (by kernel_rfl)) (by kernel_rfl) (by kernel_rfl) (by kernel_rfl) (door_met11 os _)) ?_
  intro W base args ds gs before hval0 hW _ hsz0 hL _
  have hval : ∀ (j : Nat) t v, Tryd.f5.params[j]? = some t → args[j]? = some v → Value.okWide Tryd.prog W .any base t v := hval0
  have hsz : (DataW.weightsEach Tryd.prog (Tryd.f5.params.toList ++ Rows.spaceSetsSpec.plain.varTypes Tryd.prog) (ds ++ gs)).all (· ≤ reachBytes) = true := hsz0
  clear hsz0
  have hW' := hW
  obtain ⟨p, q, hA0, hV, rfl, hfz, hnd⟩ := hW
  have hA : DataW.TrodAll enc Tryd.prog W 0 (fun _ => true) true Tryd.f5.params.toList args.toList ds p := hA0
  rw [Tryd.params5] at hA hval hsz
  obtain ⟨v0, vs0, d0, ds0, p0, q0, hargs, rfl, rfl, h0, r0⟩ := trodAll_cons hA
  obtain ⟨v1, vs1, d1, ds1, p1, q1, rfl, rfl, rfl, h1, r1⟩ := trodAll_cons r0
  obtain ⟨rfl, rfl, rfl⟩ := trodAll_nil r1
  obtain rfl : args = #[v0, v1] := by cases args; simp_all
  obtain ⟨rfl, rfl⟩ := trodVars_none hV
  have k0 := h0
  have lt0 : ∀ x ∈ p0, x.block < W.heap.size := by obtain ⟨m, hm⟩ := k0; exact DataW.trod_lt m _ _ _ hm
  have k1 := h1
  have lt1 : ∀ x ∈ p1, x.block < W.heap.size := by obtain ⟨m, hm⟩ := k1; exact DataW.trod_lt m _ _ _ hm
  obtain ⟨l0, a0, len0, cap0, rfl, us0, cp0, bg0⟩ := par_u32s (j := 0) (hval 0 32 v0 rfl rfl) h0 hsz rfl rfl
  obtain ⟨a1, rfl, sm1⟩ := par_nat16 (j := 1) (hval 1 48 v1 rfl rfl) h1 hsz rfl rfl
  have hK := of_laid11 hL
  clear hA0 hval0
  refine (walk W l0 a0 len0 cap0 us0 cp0 bg0 a1 sm1 hK).mono fun e W' ⟨he, bel⟩ => ?_
  subst he
  exact ⟨_, rfl, _, _, _, [], _, [], hW', trodAll_mk1 (shut_bool Tryd.underlying4 _), (trodAll_cons_mk (Below.trod laidOut11 (by kernel_rfl) (of_decide_eq_true (by kernel_rfl)) k0 bel lt0) (trodAll_cons_mk (Below.trod laidOut11 (by kernel_rfl) (of_decide_eq_true (by kernel_rfl)) k1 bel lt1) trodAll_mk0)), rfl, bel.frame _, fun h => by cases h⟩

theorem over : Rows.SpaceSetsSaid :=
  OpenClaim.holds_of_wide 5 Tryd.f5 rfl rfl rfl rfl rfl rfl rfl ⟨rfl, rfl, rfl, rfl, rfl⟩ rfl rfl rfl rfl rfl (by kernel_rfl) Tryd.func5 (by kernel_rfl)
    (of_decide_eq_true (by kernel_rfl)) (by unfold Func.isWrapper; first | (rw [if_pos (by decide +kernel)]; kernel_rfl) | (rw [if_neg (by decide +kernel)]; exact ⟨rfl, rfl⟩))
    (fun os started H enc _ => lifted os started H enc)

/-- The statement. -/
theorem proved : Rows.SpaceSetsCardSaid :=
  Claim7.holds_tied_plain_at .later [] [.data] true (true, "3aca2102f0461fcd0b44e8c06fdc99553a88198ed7149c61c15f7a0c181ac545") false
    over (fun _ h => by cases h) (by kernel_rfl) (fun _ h => by cases h) spaceSets_row_tie rfl ⟨rfl, rfl⟩ (by kernel_rfl) rfl
    (fun f fn hf hfn => by
      obtain rfl : f = 5 := Option.some.inj ((show Tryd.prog.funcNamed "banyan/banyanlaw11.SpaceSets" = some 5 by kernel_rfl).symm.trans hf) |>.symm
      obtain rfl : fn = Tryd.f5 := (Option.some.inj (Tryd.func5.symm.trans hfn)).symm
      exact ⟨by kernel_rfl, fun j t ht => by
        rw [Tryd.params5] at ht
        have hm : t ∈ [32, 48] := by simpa using Array.mem_of_getElem? ht
        have hall : ([32, 48].all fun u => !Tryd.prog.wantsStandIn u) = true := by kernel_rfl
        exact (show Tryd.prog.wantsStandIn t = false by simpa using List.all_eq_true.1 hall t hm)⟩)
    (by kernel_rfl)
#print axioms proved
end Go.Proofs.YtpeemnkhcgapnaaDoor.spaceSets
