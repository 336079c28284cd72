/-
  'DirOrders' returns true at every input, and each argument reads behind the call as it read before. Conditions: none.
-/
import Derived.Test.YtkafabcklohlmaaRows
import Derived.Test.YtkafabcklohlmaaAes0
import Derived.Test.YtkafabcklohlmaaIo
import Derived.Test.YtkafabcklohlmaaIx
namespace Go.Proofs.Ytkafabcklohlmaa.dirOrders
open Go.ChangeShapes Go.WideShapes Go.ChangeAt Go.RowKit
set_option linter.unusedVariables false

def sNone : ByteArray := ⟨#[0, 110, 111, 110, 101]⟩

set_option maxRecDepth 100000 in
set_option maxHeartbeats 3200000 in
theorem walk (w : World) (a0 : Option Addr) (len0 cap0 : Nat) (x0 : List ByteArray) (sl0 : SlR RStr 1 w x0 a0 len0 cap0) (z1 : Int) (za1 : 0 ≤ z1) (zb1 : z1 ≤ 255) :
    Calls Try.prog 9 #[.slice a0 len0 cap0, .int .u8 z1] w fun e w' => e = .returned (.bool true) ∧ Below w.heap.size w w' := by
  have HAL := Lib.hid (alive15 w)
  obtain ⟨kp, rfl⟩ : ∃ t : Nat, z1 = (t : Int) := ⟨z1.toNat, by omega⟩
  obtain ⟨hss, _, hsz⟩ := sl_str sl0
  have HSS := Lib.hid hss
  have HSZ := Lib.hid hsz
  have HLEN := Lib.hid sl0.len
  have HCAP := Lib.hid (And.intro sl0.cap sl0.big)
  have kpI : (kp : Int) ≤ 255 := by omega
  have kp0 : (0 : Int) ≤ (kp : Int) := by omega
  have nBI : (len0 : Int) ≤ 140737488351232 := by have := sl0.cap; have := sl0.big; omega
  have n0I : (0 : Int) ≤ (len0 : Int) := by omega
  clear sl0 hss hsz za1 zb1
  obtain ⟨ZS, hzs⟩ := setR zeroSet
  have hz := zero_set
  rw [hzs.eq] at hz
  have HZ := Lib.hid hzs
  clear hzs
  go_enter Try.func9, Try.ntmps9
  go_wp2_with fail
  refine HAL.out.mono ?_
  rintro e w1 ⟨rfl, hb1⟩
  have HB1 := Lib.hid hb1
  clear hb1 HAL
  by_cases hbig : 60 < len0
  · have bI : (60 : Int) < (len0 : Int) := by omega
    have bD : decide ((60 : Int) < (len0 : Int)) = true := decide_eq_true bI
    clear hbig
    go_wp2_with fail
    go_ret
    exact ⟨rfl, HB1.out⟩
  · have bI : ¬ ((60 : Int) < (len0 : Int)) := by omega
    have bD : decide ((60 : Int) < (len0 : Int)) = false := decide_eq_false bI
    have HSM := Lib.hid (show len0 ≤ 60 by omega)
    obtain ⟨m, hm⟩ : ∃ z, kp % (len0 + 1) = z := ⟨_, rfl⟩
    have HMN := Lib.hid (show m ≤ len0 by have := Nat.mod_lt kp (show 0 < len0 + 1 by omega); omega)
    have hmod : (kp : Int) % ((len0 : Int) + 1) = (m : Int) := by have h := Int.natCast_emod kp (len0 + 1); rw [hm] at h; rw [h]; rfl
    have htm : (kp : Int).tmod ((len0 : Int) + 1) = (m : Int) := by rw [Int.tmod_eq_emod_of_nonneg (by omega)]; exact hmod
    have hnz : ¬ ((len0 : Int) + 1 = 0) := by omega
    have mI : (m : Int) ≤ 60 := by have := HMN.out; omega
    have m0 : (0 : Int) ≤ (m : Int) := by omega
    have n60 : (len0 : Int) ≤ 60 := by omega
    clear hbig hm
    go_upto_region 6 with fail
    clear hmod htm hnz kpI kp0 bI bD
    have hmm : ∀ W : World, (Instr.makeMap 58 none).run Try.prog W = .ok (.map (some W.heap.size)) (W.alloc (.map #[] 0)) := fun W => run_makeMap _ W
    have HM0 := Lib.hid (mb_made w1)
    have HB2 := Lib.hid (bt15 HB1.out (ba15 w1 (.map #[] 0)))
    have HWM := Lib.hid HB1.out.size
    have HMS := Lib.hid (show w1.heap.size < (w1.alloc (.map #[] 0)).heap.size from HM0.out.lt)
    go_wp2_with fail
    clear hmm
    generalize World.alloc w1 (.map #[] 0) = w2 at *
    generalize w1.heap.size = mb at *
    clear HB1
    go_loopw [6, 10, 11, 12, 36] (fun v6 _ _ _ v36 wr => ∃ (i : Nat) (L : List SetV) (c : Nat), i ≤ len0 ∧ v36 = .int .i64 (i : Int) ∧ OWS wr w2.heap.size v6 L ∧ PO (x0.take i) L ∧ MB wr mb c L.length (nms L) ∧ c ≤ i ∧ Below w.heap.size w wr ∧ w2.heap.size ≤ wr.heap.size) (fun _ _ _ _ v _ => len0 - (intOf v).toNat)
    case atStart => exact ⟨0, [], 0, Nat.zero_le _, rfl, OWS.nil _ _, by rw [List.take_zero]; exact po_nil, HM0.out, Nat.le_refl _, HB2.out, Nat.le_refl _⟩
    case round =>
      clear HM0 HB2
      obtain ⟨i, L, c, hi, rfl, hL, hp, hmb, hc, hb, hB⟩ := hrel
      have HB := Lib.hid hb
      have HL := Lib.hid hL
      have HP := Lib.hid hp
      have HM := Lib.hid hmb
      have HC := Lib.hid hc
      have HBB := Lib.hid hB
      clear hb hL hp hmb hc hB
      by_cases hlt : i < len0
      · obtain ⟨n, hn⟩ : ∃ n, x0[i]? = some n := ⟨_, List.getElem?_eq_getElem (by rw [HLEN.out]; exact hlt)⟩
        obtain ⟨b, off, rfl, hcell⟩ := ss_at15 (HSS.out.below HB.out) hn
        have hix := index_sl b off len0 cap0 i hlt
        have HNZ := Lib.hid (HSZ.out n (List.mem_of_getElem? hn))
        have HLT := Lib.hid hlt
        have HNX := Lib.hid (HP.out.next hn)
        have iI : (i : Int) < (len0 : Int) := by omega
        have i0 : (0 : Int) ≤ (i : Int) := by omega
        clear hi hlt hn
        have HLS := Lib.hid (show L.length < 1000 by have := HP.out.len; rw [List.length_take] at this; have := HSM.out; have := HLT.out; omega)
        have HCR := Lib.hid (pcreate15 _ L n wr HL.out.ls HLS.out HP.out.v.okk HNZ.out)
        go_wp2_with fail
        refine HCR.out.mono ?_
        rintro e wd ⟨vx, rfl, hox, hbd⟩
        have HX := Lib.hid (hox.up HBB.out)
        have HBd := Lib.hid (bt15 HB.out hbd)
        have HMd := Lib.hid (HM.out.below hbd)
        have HLd := Lib.hid (HL.out.below hbd)
        have HBBd := Lib.hid (Nat.le_trans HBB.out hbd.size)
        clear hbd hox HCR HL HM HB HBB hcell hix
        by_cases he : (createD L n).1 = 0
        · obtain ⟨hp2, hl2, hn2, hx2⟩ := HNX.out.1 he
          obtain ⟨wm, hup, hm2, htm⟩ := mb_put HMd.out (by have := HC.out; have := HLT.out; have := HSM.out; omega) n HNZ.out hn2
          have HP2 := Lib.hid hp2
          have HM2 := Lib.hid (show MB wm mb (c + 1) (createD L n).2.length (nms (createD L n).2) by rw [hl2]; exact hm2.as (fun x => by rw [List.mem_cons]; exact (hx2 x).symm))
          have HX2 := Lib.hid (HX.out.move (fun g hg => htm.block g (World.ownsRow.lt HX.out g hg).2 (by have := (World.ownsRow.lt HX.out g hg).1; have := HMS.out; simp only [List.mem_singleton]; omega)))
          have HB3 := Lib.hid (HBd.out.trans (htm.below HBd.out.size (fun k hk => by rw [List.mem_singleton.1 hk]; exact HWM.out)))
          have HBB3 := Lib.hid (Nat.le_trans HBBd.out htm.size)
          rw [he]
          clear hp2 hl2 hn2 hx2 hm2 htm he HNX
          go_wp2_with fail
          go_roundw
          case rel => exact ⟨i + 1, _, c + 1, by have := HLT.out; omega, by go_num, HX2.out, HP2.out, HM2.out, Nat.succ_le_succ HC.out, HB3.out, HBB3.out⟩
          case measure => simp [intOf]; have := HLT.out; omega
        · have HP2 := Lib.hid (HNX.out.2 he)
          generalize (createD L n).1 = E at *
          have h1 : (E == 0) = false := by simpa using he
          have h2 : decide (E = 0) = false := by simpa using he
          have h3 : (E != 0) = true := by simpa using he
          go_wp2_with fail
          go_roundw
          case rel => exact ⟨i + 1, L, c, by have := HLT.out; omega, by go_num, HLd.out, HP2.out, HMd.out, Nat.le_succ_of_le HC.out, HBd.out, HBBd.out⟩
          case measure => simp [intOf]; have := HLT.out; omega
      · obtain rfl : len0 = i := by omega
        have hta : x0.take len0 = x0 := List.take_of_length_le (Nat.le_of_eq HLEN.out)
        have hp := HP.out
        rw [hta] at hp
        have HPA := Lib.hid hp
        clear hi hlt hp hta HP HBB
        obtain ⟨a6, c6, rfl, hc6, hsome6⟩ := HL.out.some_
        have HLA := Lib.hid HL.out.ls
        clear hc6 hsome6 HL
        obtain ⟨a1, a2, v8, w8, a9, c9, w9, s1, s2, q1, q2, ss9, b9⟩ := turn15 (HSS.out.below HB.out) HLEN.out HMN.out (by have := HSM.out; omega) 57
        have HR1 := Lib.hid q1
        have HR2 := Lib.hid q2
        have HS9 := Lib.hid ss9
        have HB9 := Lib.hid (bt15 HB.out b9)
        have HM9 := Lib.hid (HM.out.below b9)
        have HL9 := Lib.hid (HLA.out.below b9)
        clear q1 q2 ss9 b9 HM HLA HSS HCAP HC HMS HWM HMN
        go_upto_region 16 with fail
        try simp only [Act.put]
        refine wp_region_noPanic ?_
        refine wp_region_held_drew (S := fun _ => True) (by kernel_rfl) trivial (fun hHeld => ?_)
        refine wpAnyH_take (i := 1) (oi := ⟨some 53, _, _, _, _, _⟩) (v := ?_) rfl (by kernel_rfl) (by decide +kernel) (by decide +kernel) (fun _ _ _ h => h) (Or.inl ⟨by rfl, ?_⟩) (by assumption) ?_
        rotate_left 1
        · (intro w' hSw; go_simp; try with_reducible rfl)
        try simp only [Act.put, List.setIfInBounds_toArray, List.set_cons_zero, List.set_cons_succ]
        refine wpAnyH_take (i := 2) (oi := ⟨some 54, _, _, _, _, _⟩) (v := ?_) rfl (by kernel_rfl) (by decide +kernel) (by decide +kernel) (fun _ _ _ h => h) (Or.inl ⟨by rfl, ?_⟩) (by assumption) ?_
        rotate_left 1
        · (intro w' hSw; go_simp; try with_reducible rfl)
        try simp only [Act.put, List.setIfInBounds_toArray, List.set_cons_zero, List.set_cons_succ]
        refine wpAnyH_take (i := 3) (oi := ⟨some 55, _, _, _, _, _⟩) (v := ?_) rfl (by kernel_rfl) (by decide +kernel) (by decide +kernel) (fun _ _ _ h => h) (Or.inl ⟨by rfl, ?_⟩) (by assumption) ?_
        rotate_left 1
        · (intro w' hSw; go_simp; try with_reducible rfl)
        try simp only [Act.put, List.setIfInBounds_toArray, List.set_cons_zero, List.set_cons_succ]
        refine wpAnyH_take (i := 5) (oi := ⟨some 57, _, _, _, _, _⟩) (v := ?_) rfl (by kernel_rfl) (by decide +kernel) (by decide +kernel) (fun _ _ _ h => h) (Or.inl ⟨by rfl, ?_⟩) (by assumption) ?_
        rotate_left 1
        · (intro w' hSw; go_simp; try with_reducible rfl)
        try simp only [Act.put, List.setIfInBounds_toArray, List.set_cons_zero, List.set_cons_succ]
        refine wpAnyH_take (i := 6) (oi := ⟨some 58, _, _, _, _, _⟩) (v := ?_) rfl (by kernel_rfl) (by decide +kernel) (by decide +kernel) (fun _ _ _ h => h) (Or.inl ⟨by rfl, ?_⟩) (by assumption) ?_
        rotate_left 1
        · (intro w' hSw; go_simp; try with_reducible rfl)
        try simp only [Act.put, List.setIfInBounds_toArray, List.set_cons_zero, List.set_cons_succ]
        refine wpAnyH_take (i := 7) (oi := ⟨some 59, _, _, _, _, _⟩) (v := ?_) rfl (by kernel_rfl) (by decide +kernel) (by decide +kernel) (fun _ _ _ h => h) (Or.inl ⟨by rfl, ?_⟩) (by assumption) ?_
        rotate_left 1
        · (intro w' hSw; go_simp; try with_reducible rfl)
        try simp only [Act.put, List.setIfInBounds_toArray, List.set_cons_zero, List.set_cons_succ]
        refine wpAnyH_take (i := 10) (oi := ⟨some 62, _, _, _, _, _⟩) (v := ?_) rfl (by kernel_rfl) (by decide +kernel) (by decide +kernel) (fun _ _ _ h => h) (Or.inl ⟨by rfl, ?_⟩) (by assumption) ?_
        rotate_left 1
        · (intro w' hSw; go_simp; try with_reducible rfl)
        try simp only [Act.put, List.setIfInBounds_toArray, List.set_cons_zero, List.set_cons_succ]
        refine wpAnyH_ready (rs := [0]) (by decide +kernel) (by simp) ?_
        refine AllReadyH.cons rfl (fun K hK => ?_) AllReadyH.nil
        refine wp_lit_at (o := ⟨some 52, _, _, _, _, _⟩) 57 0 #[] rfl #[] (by simp) _ _ (run_litsd _) ?_
        refine hK.out _ _ trivial (fun hHeld => ?_)
        clear hK K
        try simp only [Act.put, List.setIfInBounds_toArray, List.set_cons_zero, List.set_cons_succ]
        refine wpAnyH_ready (rs := [4]) (by decide +kernel) (by simp) ?_
        refine AllReadyH.cons rfl (fun K hK => ?_) AllReadyH.nil
        refine wp_append_at (o := ⟨some 56, _, _, _, _, _⟩) (.tmp 52) (.tmp 55) 57 rfl _ _ rfl rfl _ _ HR1.out ?_
        refine hK.out _ _ trivial (fun hHeld => ?_)
        clear hK K
        try simp only [Act.put, List.setIfInBounds_toArray, List.set_cons_zero, List.set_cons_succ]
        refine wpAnyH_ready (rs := [8]) (by decide +kernel) (by simp) ?_
        refine AllReadyH.cons rfl (fun K hK => ?_) AllReadyH.nil
        refine wp_append_at (o := ⟨some 60, _, _, _, _, _⟩) (.tmp 56) (.tmp 59) 57 rfl _ _ rfl rfl _ _ HR2.out ?_
        refine hK.out _ _ trivial (fun hHeld => ?_)
        clear hK K
        try simp only [Act.put, List.setIfInBounds_toArray, List.set_cons_zero, List.set_cons_succ]
        refine wpAnyH_take (i := 9) (oi := ⟨some 61, _, _, _, _, _⟩) (v := ?_) rfl (by kernel_rfl) (by decide +kernel) (by decide +kernel) (fun _ _ _ h => h) (Or.inl ⟨by rfl, ?_⟩) (by assumption) ?_
        rotate_left 1
        · (intro w' hSw; go_simp; try with_reducible rfl)
        try simp only [Act.put, List.setIfInBounds_toArray, List.set_cons_zero, List.set_cons_succ]
        refine wpAnyH_done (by decide +kernel) ?_ _
        refine NoPanic.normal ?_
        obtain ⟨T, hT⟩ : ∃ T, x0.drop m ++ x0.take m = T := ⟨_, rfl⟩
        have HTM := Lib.hid (fun n => show n ∈ x0 ↔ n ∈ T from hT ▸ turned_names x0 m n)
        have HTL := Lib.hid (show T.length = len0 by rw [← hT, List.length_append, List.length_drop, List.length_take]; have := HLEN.out; omega)
        have hs9 := HS9.out
        rw [hT] at hs9
        have HST := Lib.hid hs9
        clear hT hs9 HS9 s1 s2 HR1 HR2
        go_wp2_with fail
        go_loopw [7, 14, 15, 16, 62] (fun v7 _ _ _ v62 wr => ∃ (i : Nat) (M : List SetV), i ≤ len0 ∧ v62 = .int .i64 (i : Int) ∧ OWS wr w9.heap.size v7 M ∧ PO (T.take i) M ∧ Below w9.heap.size w9 wr) (fun _ _ _ _ v _ => len0 - (intOf v).toNat)
        case atStart => exact ⟨0, [], Nat.zero_le _, rfl, OWS.nil _ _, by rw [List.take_zero]; exact po_nil, Below.refl _ _⟩
        case round =>
          obtain ⟨i, M, hi, rfl, hL, hp, hb⟩ := hrel
          have HD := Lib.hid hb
          have HK := Lib.hid hL
          have HQ := Lib.hid hp
          clear hb hL hp
          by_cases hlt : i < len0
          · obtain ⟨n, hn⟩ : ∃ n, T[i]? = some n := ⟨_, List.getElem?_eq_getElem (by rw [HTL.out]; exact hlt)⟩
            obtain ⟨b, off, rfl, hcell⟩ := ss_at15 (HST.out.below HD.out) hn
            have hix := index_sl b off len0 c9 i hlt
            have HNZ := Lib.hid (HSZ.out n ((HTM.out n).2 (List.mem_of_getElem? hn)))
            have HLT := Lib.hid hlt
            have HNX := Lib.hid (HQ.out.next hn)
            have iI : (i : Int) < (len0 : Int) := by omega
            have i0 : (0 : Int) ≤ (i : Int) := by omega
            clear hi hlt hn
            have HLS := Lib.hid (show M.length < 1000 by have := HQ.out.len; rw [List.length_take] at this; have := HSM.out; have := HLT.out; omega)
            have HCR := Lib.hid (pcreate15 _ M n wr HK.out.ls HLS.out HQ.out.v.okk HNZ.out)
            go_wp2_with fail
            refine HCR.out.mono ?_
            rintro e wd ⟨vx, rfl, hox, hbd⟩
            have HX := Lib.hid (hox.up HD.out.size)
            have HDd := Lib.hid (bt15 HD.out hbd)
            have HKd := Lib.hid (HK.out.below hbd)
            clear hbd hox HCR HK HD hcell hix
            by_cases he : (createD M n).1 = 0
            · have HP2 := Lib.hid (HNX.out.1 he).1
              rw [he]
              clear he HNX
              go_wp2_with fail
              go_roundw
              case rel => exact ⟨i + 1, _, by have := HLT.out; omega, by go_num, HX.out, HP2.out, HDd.out⟩
              case measure => simp [intOf]; have := HLT.out; omega
            · have HP2 := Lib.hid (HNX.out.2 he)
              generalize (createD M n).1 = E at *
              have h1 : (E == 0) = false := by simpa using he
              have h2 : decide (E = 0) = false := by simpa using he
              have h3 : (E != 0) = true := by simpa using he
              go_wp2_with fail
              go_roundw
              case rel => exact ⟨i + 1, M, by have := HLT.out; omega, by go_num, HKd.out, HP2.out, HDd.out⟩
              case measure => simp [intOf]; have := HLT.out; omega
          · obtain rfl : len0 = i := by omega
            have hta : T.take len0 = T := List.take_of_length_le (Nat.le_of_eq HTL.out)
            have hq := HQ.out
            rw [hta] at hq
            obtain rfl := PO.same HPA.out hq HTM.out
            have HLN := Lib.hid (show L.length ≤ 60 by have := HPA.out.len; have := HLEN.out; have := HSM.out; omega)
            have HB := Lib.hid (bt15 HB9.out HD.out)
            have HL := Lib.hid (HL9.out.below HD.out)
            have HM := Lib.hid (HM9.out.below HD.out)
            have HSA := Lib.hid (rsame15 _ _ L L wr HL.out HK.out.ls (by have := HLN.out; omega) (by have := HLN.out; omega) HPA.out.v.okk HPA.out.v.okk)
            rw [decide_eq_true (rfl : L = L)] at HSA
            clear hi hlt hta hq HQ HD HK HB9 HL9 HM9 HTM HTL HST HSZ HLEN HSM n60 n0I nBI mI m0
            go_wp2_with fail
            refine HSA.out.mono ?_
            rintro e ws ⟨rfl, hbs⟩
            have HBs := Lib.hid (bt15 HB.out hbs)
            have HLs := Lib.hid (HL.out.below hbs)
            have HMs := Lib.hid (HM.out.below hbs)
            clear hbs HB HL HM HSA
            have hln := fun ty => mb_len HMs.out ty
            have lI : (L.length : Int) ≤ 60 := by have := HLN.out; omega
            have l0 : (0 : Int) ≤ (L.length : Int) := by omega
            go_upto_region 25 with fail
            obtain ⟨D, hown, hmd⟩ := HMs.out.map
            have HMD := Lib.hid hmd
            clear hln hmd
            go_wp2_with (first
              | (at_range; refine wpList_range_own _ rfl _ 58 rfl 9 4 keyed15 Try.underlying58 _ mb c D rfl hown ?_; intro w0 hrg0 hg0 hs0))
            try go_frame
            have HR0 := Lib.hid hrg0
            have HB0 := Lib.hid ((Below.refl ws.heap.size ws).grown hg0 (Nat.le_refl _) (fun k hk => by cases hk))
            clear hown hrg0 hg0 hs0 HMs lI l0
            go_loopw [17, 18, 19] (fun _ _ _ wr => ∃ (left : Lit → Bool) (cn : Nat), RG15 wr mb ws.heap.size c D left cn ∧ Below ws.heap.size ws wr) (fun _ _ _ wr => wr.rangeLeft mb ws.heap.size)
            case atStart => exact ⟨_, _, HR0.out, HB0.out⟩
            case round =>
              clear HR0 HB0
              obtain ⟨left, cn, hrg, hb⟩ := hrel
              go_wp2_with (first
                | (at_next; refine wpList_next_ranges _ rfl _ rfl 9 keyed15 (plainElem (H := Unit) Try.prog 4) (fun z : ByteArray => Value.string z) id (fun key kl hk => by obtain ⟨x, hx, _⟩ := keyinv15 hk; exact ⟨x, hx⟩) (fun v _ _ => ⟨v, rfl⟩) mb ws.heap.size c _ _ _ rfl hrg ?_ ?_))
              · intro hc0 hl0
                have HB := Lib.hid (bt15 HBs.out hb)
                have HL := Lib.hid (HLs.out.below hb)
                have hmb : MB wr mb c L.length (nms L) := ⟨D, hrg.owns, HMD.out⟩
                have HM := Lib.hid hmb
                have HFD := Lib.hid (pfind15 _ L sNone wr HL.out (by have := HLN.out; omega) HPA.out.v.okk)
                unfold FindPost at HFD
                clear hc0 hl0 hrg hb hmb HLs HBs
                by_cases hin : sNone ∈ nms L
                · rw [HPA.out.find hin] at HFD
                  have HLK := Lib.hid (amg15_iff.2 hin)
                  obtain ⟨CR, hcr⟩ := setR (mkS sNone)
                  have HCR := Lib.hid hcr
                  rw [hcr.eq] at HFD
                  clear hcr hin
                  go_wp2_with fail
                  refine HFD.out.mono ?_
                  rintro e wf ⟨rfl, hbf⟩
                  have HBf := Lib.hid (bt15 HB.out hbf)
                  have HMf := Lib.hid (HM.out.below hbf)
                  clear hbf HFD HB HM HL
                  go_upto_region 32 with (first
                    | (with_reducible refine wpList_store_row (o := ⟨none, .store _ (.tmp 20) _, _, _, _, _⟩) rfl 38 _ _ rfl wf.heap.size CR rfl rfl 38 ZS (heap_alloc_new wf _) HCR.out.sz (HZ.out.same HCR.out) HCR.out.one ?_))
                  generalize hWs : World.setRow _ wf.heap.size _ = wg
                  have hst := fresh15 wf ZS CR 38 wg hWs.symm
                  have HBg := Lib.hid (bt15 HBf.out hst.2)
                  have hlk := mb_look (HMf.out.below hst.2) sNone (by decide)
                  rw [HLK.out] at hlk
                  unfold sNone at hlk
                  clear hWs hst HBf HMf
                  go_wp2_with fail
                  go_ret
                  exact ⟨rfl, HBg.out⟩
                · rw [find_not HPA.out.v hin] at HFD
                  have HLK := Lib.hid (amg15_no hin)
                  obtain ⟨CR, hcr⟩ := setR (zeroSet)
                  have HCR := Lib.hid hcr
                  rw [hcr.eq] at HFD
                  clear hcr hin
                  go_wp2_with fail
                  refine HFD.out.mono ?_
                  rintro e wf ⟨rfl, hbf⟩
                  have HBf := Lib.hid (bt15 HB.out hbf)
                  have HMf := Lib.hid (HM.out.below hbf)
                  clear hbf HFD HB HM HL
                  go_upto_region 32 with (first
                    | (with_reducible refine wpList_store_row (o := ⟨none, .store _ (.tmp 20) _, _, _, _, _⟩) rfl 38 _ _ rfl wf.heap.size CR rfl rfl 38 ZS (heap_alloc_new wf _) HCR.out.sz (HZ.out.same HCR.out) HCR.out.one ?_))
                  generalize hWs : World.setRow _ wf.heap.size _ = wg
                  have hst := fresh15 wf ZS CR 38 wg hWs.symm
                  have HBg := Lib.hid (bt15 HBf.out hst.2)
                  have hlk := mb_look (HMf.out.below hst.2) sNone (by decide)
                  rw [HLK.out] at hlk
                  unfold sNone at hlk
                  clear hWs hst HBf HMf
                  go_wp2_with fail
                  go_ret
                  exact ⟨rfl, HBg.out⟩
              · intro x cc kl0 yd yp w2 cnt2 hkey hlk hv hat hrg2 hlt2 hg2 hs2 hen
                obtain ⟨x', ex, rfl⟩ := keyinv15 hkey
                obtain rfl : x = x' := by injection ex
                have hhas : Maps.has D (kS15 x) = true := Maps.has_true_of_atKey hat
                have hin : x ∈ nms L := amg15_iff.1 (((HMD.out.tells x).1).symm.trans hhas)
                have hmem : mkS x ∈ L := (HPA.out.mem _).2 ⟨x, ((HPA.out.nm x).1 hin).1, ((HPA.out.nm x).1 hin).2, rfl⟩
                have hok := HPA.out.v.okk _ hmem
                have HRO := Lib.hid hrg
                have HR2 := Lib.hid hrg2
                have HLT2 := Lib.hid hlt2
                have hb2 := hb.grown hg2 hb.size (fun k hk => by obtain rfl := Option.some.inj hk; exact Nat.le_refl _)
                have HB2 := Lib.hid hb2
                have HFD := Lib.hid (pfind15 _ L x w2 (HLs.out.below hb2) (by have := HLN.out; omega) HPA.out.v.okk)
                unfold FindPost at HFD
                rw [HPA.out.find hin] at HFD
                obtain ⟨CR, hcr⟩ := setR (mkS x)
                have HCR := Lib.hid hcr
                have hbd := build_set1 x
                have heq := eq_set (mkS x) (mkS x) hok hok
                rw [show (⟨x, noS, false, zeroPtr⟩ : SetV) = mkS x from rfl, hcr.eq] at hbd
                rw [hcr.eq, decide_eq_true rfl] at heq
                rw [hcr.eq] at HFD
                have HEQ := Lib.hid heq
                have HBD := Lib.hid hbd
                clear hkey hlk hv hat hrg2 hlt2 hg2 hs2 hrg hb hb2 hhas hin hmem hok hcr hbd heq ex
                go_wp2_with fail
                refine HFD.out.mono ?_
                rintro e wf ⟨rfl, hbf⟩
                have HBf := Lib.hid (bt15 HB2.out hbf)
                have HRf := Lib.hid (RG15.below HR2.out hbf)
                clear hbf HFD HB2 HR2
                go_upto_region 29 with (first
                  | (with_reducible refine wpList_store_row (o := ⟨none, .store _ (.tmp 18) _, _, _, _, _⟩) rfl 38 _ _ rfl wf.heap.size CR rfl rfl 38 ZS (heap_alloc_new wf _) HCR.out.sz (HZ.out.same HCR.out) HCR.out.one ?_))
                generalize hWs : World.setRow _ wf.heap.size _ = wg
                have hst := fresh15 wf ZS CR 38 wg hWs.symm
                have HBg := Lib.hid (bt15 HBf.out hst.2)
                have HRg := Lib.hid (RG15.below HRf.out hst.2)
                have HQg := Lib.hid hst.1
                clear hWs hst HBf HRf
                generalize wf.heap.size = Y at *
                have heq := HEQ.out
                go_wp2_with (first
                  | (with_reducible refine wpList_load_guarded (o := ⟨some 102, _, _, _, _, _⟩) (by kernel_rfl) 38 _ rfl Y rfl 38 CR (0, 0) _ HQg.out Try.underlying38 rfl HCR.out.sz ?_)
                  | (with_reducible refine build_guarded15 (o := ⟨some 104, _, _, _, _, _⟩) (by kernel_rfl) 38 _ rfl #[(0, .string x)] (by simp [Act.eval]) (.agg CR) (HBD.out _) ?_))
                go_roundw
                case rel => exact ⟨_, cnt2, HRg.out, HBg.out⟩
                case measure => rw [HRg.out.left_eq, HRO.out.left_eq]; exact HLT2.out
set_option maxRecDepth 100000 in
theorem lifted (os : Os) (started : os.Started) (H : Type) (enc : TypeId × Value → H) :
    ReturnsInHanded {} Try.checked os 9 .any (Rows.dirOrdersSpec.pre6 enc Try.prog Try.f9 Rows.dirOrdersRow.domain false) (Rows.dirOrdersSpec.post enc Try.prog Try.f9 false true false false) := by
  refine returnsInHanded_of_change_sized (C := Try.checked) own started (by kernel_rfl) Try.func9
    (ChangeSpec.witness6 (enc := enc) (C := Try.checked) false ⟨#[], #[.slice none 0 0, .int .u8 0], []⟩ 8 (by kernel_rfl) (by kernel_rfl) (by kernel_rfl) (by kernel_rfl)) ?_
  intro W base args ds gs before hval0 hW hcnd hsz0 _
  have hsz : (DataW.weightsEach Try.prog (Try.f9.params.toList ++ Rows.dirOrdersSpec.plain.varTypes Try.prog) (ds ++ gs)).all (· ≤ reachBytes) = true := hsz0
  clear hsz0
  have hval : ∀ (j : Nat) t v, Try.f9.params[j]? = some t → args[j]? = some v → Value.okWide Try.prog W .any base t v := hval0
  have hW' := hW
  obtain ⟨p, q, hA0, hV, rfl, hfz, hnd⟩ := hW
  have hA : DataW.TrodAll enc Try.prog W 0 (fun _ => true) true Try.f9.params.toList args.toList ds p := hA0
  rw [Try.params9] at hA hval hsz
  obtain ⟨v0, vs0, d0, ds0, p0, q0, hargs, rfl, rfl, h0, r0⟩ := trodAll_cons hA
  obtain ⟨v1, vs1, d1, ds1, p1, q1, rfl, rfl, rfl, h1, r1⟩ := trodAll_cons r0
  obtain ⟨rfl, rfl, rfl⟩ := trodAll_nil r1
  obtain rfl : args = #[v0, v1] := by cases args; simp_all
  obtain ⟨rfl, rfl⟩ := trodVars_none hV
  have k0 := h0
  have lt0 : ∀ x ∈ p0, x.block < W.heap.size := by obtain ⟨m, hm⟩ := k0; exact DataW.trod_lt m _ _ _ hm
  have k1 := h1
  have lt1 : ∀ x ∈ p1, x.block < W.heap.size := by obtain ⟨m, hm⟩ := k1; exact DataW.trod_lt m _ _ _ hm
  obtain ⟨x0, a0, len0, cap0, rfl, sl0⟩ := par_slice (j := 0) Try.underlying57 opn_strs (hval 0 57 v0 rfl rfl) h0 hsz rfl rfl
  obtain ⟨z1, rfl, za1, zb1⟩ := par_int (j := 1) .u8 _ _ Try.underlying5 wf_u8 (hval 1 5 v1 rfl rfl) h1 hsz rfl rfl
  clear hA0 hval0
  simp only [List.append_nil] at hW'
  refine (walk W a0 len0 cap0 x0 sl0 z1 za1 zb1).mono fun e W' ⟨he, bel⟩ => ?_
  subst he
  exact ⟨_, rfl, _, _, _, [], _, [], hW', trodAll_mk1 (shut_bool Try.underlying4 _), (trodAll_cons_mk (Below.trod laidOut (by kernel_rfl) (of_decide_eq_true (by kernel_rfl)) k0 bel lt0) (trodAll_cons_mk (Below.trod laidOut (by kernel_rfl) (of_decide_eq_true (by kernel_rfl)) k1 bel lt1) trodAll_mk0)), rfl, bel.frame _, fun h => by cases h⟩

theorem over : Rows.dirOrdersRow.holds Try.pinned (OpenSpec.ofChange Rows.dirOrdersSpec) :=
  OpenClaim.holds_of_wide 9 Try.f9 rfl rfl rfl rfl rfl rfl rfl ⟨rfl, rfl, rfl, rfl, rfl⟩ rfl rfl rfl rfl rfl (by kernel_rfl) Try.func9 (by kernel_rfl)
    (of_decide_eq_true (by kernel_rfl)) (by unfold Func.isWrapper; first | (rw [if_pos (by decide +kernel)]; kernel_rfl) | (rw [if_neg (by decide +kernel)]; exact ⟨rfl, rfl⟩))
    (fun os started H enc _ => lifted os started H enc)

/-- The statement. -/
theorem proved : Rows.DirOrdersSaid := over
#print axioms proved
end Go.Proofs.Ytkafabcklohlmaa.dirOrders
