/-
  'SpaceActs' returns true at every input, and each argument reads behind the call as it read before. Conditions: the package-level variable that the row lists starts as the program's text lays it (the card ties that).
-/
import Derived.Test.YtpeemnkhcgapnaaDoorVf
import Derived.Test.YtpeemnkhcgapnaaDoorCards
import Derived.Test.YtpeemnkhcgapnaaDoorTie
import Derived.Test.YtpeemnkhcgapnaaDoorVn
import Derived.Deep.DeepCutAuto
import Derived.Deep.CutBlock
namespace Go.Proofs.YtpeemnkhcgapnaaDoor.spaceActs
open Go.ChangeShapes Go.WideShapes Go.ChangeAt Go.RowKit
set_option linter.unusedVariables false

def inB11 (n : Nat) (l : List Nat) : Bool := l.all fun x => decide (2 ≤ x) && decide (x < n)
theorem inB11_iff (n : Nat) (l : List Nat) : inB11 n l = true ↔ allIn n l := by simp [inB11, allIn]

set_option maxRecDepth 100000 in
set_option maxHeartbeats 1600000 in
theorem walk (w : World) (z0 : Int) (za0 : -9223372036854775808 ≤ z0) (zb0 : z0 ≤ 9223372036854775807) (a1 : Option Addr) (len1 cap1 : Nat) (x1 : List ActS) (sl1 : SlR RActS 3 w x1 a1 len1 cap1) (hK : TZ w) :
    Calls Tryd.prog 3 #[.int .i64 z0, .slice a1 len1 cap1] w fun e w' => e = .returned (.bool true) ∧ Below w.heap.size w w' := by
  have HA := Lib.hid (alive11_any w hK)
  have HSL := Lib.hid sl1
  have HT := Lib.hid hK
  have lI : (len1 : Int) ≤ 140737488351232 := by have := sl1.big; have := sl1.cap; omega
  by_cases hbig : 60 < len1
  · have hbI : (60 : Int) < (len1 : Int) := by omega
    clear hbig sl1 hK
    go_enter Tryd.func3, Tryd.ntmps3
    go_wp2_with fail
    refine HA.out.mono ?_
    rintro e w1 ⟨rfl, hb1⟩
    have HB := Lib.hid hb1
    clear hb1 HA
    go_wp2_with fail
    go_ret
    exact ⟨rfl, HB.out⟩
  have hsm : (len1 : Int) ≤ 60 := by omega
  clear hbig sl1 hK
  by_cases hbad : z0 < 16 ∨ 4096 < z0
  · have HP := Lib.hid (fun W => pnew11_bad z0 W hbad)
    have HR := Lib.hid (fun W => rnew11_bad z0 W hbad)
    clear hbad
    go_enter Tryd.func3, Tryd.ntmps3
    go_wp2_with fail
    refine HA.out.mono ?_
    rintro e w1 ⟨rfl, hb1⟩
    have HB := Lib.hid hb1
    clear hb1 HA
    go_wp2_with fail
    refine (HP.out _).mono ?_
    rintro e w2 ⟨rfl, rfl⟩
    go_wp2_with fail
    refine (HR.out _).mono ?_
    rintro e w3 ⟨rfl, rfl⟩
    go_wp2_with fail
    go_ret
    exact ⟨rfl, HB.out⟩
  obtain ⟨n, rfl⟩ : ∃ n : Nat, z0 = (n : Int) := ⟨z0.toNat, by omega⟩
  have HN := Lib.hid (show 16 ≤ n ∧ n ≤ 4096 by omega)
  have nI0 : (16 : Int) ≤ (n : Int) := by omega
  have nI1 : (n : Int) ≤ 4096 := by omega
  clear hbad za0 zb0
  go_enter Tryd.func3, Tryd.ntmps3
  go_wp2_with fail
  refine HA.out.mono ?_
  rintro e w1 ⟨rfl, hb1⟩
  have HP := Lib.hid (so_new w w1 n HT.out hb1 HN.out.1 HN.out.2)
  clear hb1 HA
  go_wp2_with fail
  refine HP.out.mono ?_
  rintro e w2 ⟨rfl, hs2, _⟩
  generalize w1.heap.size = S at *
  have HS2 := Lib.hid hs2
  have HR := Lib.hid (rnew11_ok n w2 HN.out.1 HN.out.2)
  clear hs2 HP
  go_wp2_with fail
  refine HR.out.mono ?_
  rintro e w3 ⟨rfl, hr3, hb3⟩
  have HC3 := Lib.hid (cs_start (w2 := w2) HS2.out hb3 hr3 (by omega) (by omega))
  clear hr3 hb3 HR HS2
  generalize w2.heap.size + 1 = M at *
  go_wp2_with fail
  go_loopw [10, 11, 12, 13, 14, 15, 16, 48] (fun _ _ _ _ _ _ _ v48 wr => ∃ (i : Nat) (F : Nat → Bool), i ≤ len1 ∧ v48 = .int .i64 (i : Int) ∧ CS w wr S M n F F) (fun _ _ _ _ _ _ _ v _ => len1 - (intOf v).toNat)
  case atStart => exact ⟨0, _, by omega, rfl, HC3.out⟩
  case round =>
    clear HC3
    obtain ⟨i, F, hi, rfl, hc⟩ := hrel
    by_cases hlt : i < len1
    · obtain ⟨b, off, x, rfl, hrg, hok⟩ := acts11_at HSL.out hc.so.bel hlt
      have hix := index_act11 b off len1 cap1 i hlt
      have SWC := Lib.hid (size_act11 x)
      have SWR := Lib.hid (size_act11A x)
      have WO := Lib.hid (act11_one x)
      have HRG := Lib.hid hrg
      have HLT := Lib.hid hlt
      have HC0 := Lib.hid hc
      have iI : (i : Int) < (len1 : Int) := by omega
      have i0 : (0 : Int) ≤ (i : Int) := by omega
      have SE := Lib.hid (show (#[.int .i64 0, .int .u32 0, .slice none 0 0] : Array Value).size = (actRowS x).toArray.size from rfl)
      have hza := zero_act11
      clear hi hlt hrg hc
      go_upto_region 14 with (first
        | (with_reducible refine wpList_load_mid (op := ⟨some 51, _, _, _, _, _⟩) rfl 34 _ rfl b (off + i * 3) rfl (actRowS x) _ HRG.out Tryd.underlying34 rfl SWC.out ?_)
        | (with_reducible refine wpList_store_row (o := ⟨none, .store _ (.tmp 10) _, _, _, _, _⟩) rfl 34 _ _ rfl wr.heap.size (actRowS x).toArray rfl rfl 34 #[.int .i64 0, .int .u32 0, .slice none 0 0] (heap_alloc_new wr _) SWR.out SE.out WO.out ?_))
      clear hix hza
      obtain ⟨e1, _, e3⟩ := ygen_row (w := wr) (old := #[.int .i64 0, .int .u32 0, .slice none 0 0]) (cs := (actRowS x).toArray) (T := 34)
      generalize World.setRow _ wr.heap.size _ = w7 at *
      have H7 := Lib.hid (ca_new HC0.out e3 e1)
      obtain ⟨T, hT⟩ : ∃ T, wr.heap.size = T := ⟨_, rfl⟩
      rw [hT] at H7 ⊢
      clear hT e1 e3 SWC SWR WO HRG HC0 SE
      obtain ⟨kd, ad, ab, ln, cp, l⟩ := x
      have HAD := Lib.hid hok.small
      have HUS := Lib.hid hok.us
      have lnI : (ln : Int) ≤ 140737488351232 := by have h : ln ≤ 140737488351232 := hok.big; omega
      have ln0 : (0 : Int) ≤ (ln : Int) := by omega
      have ckd := H7.out.ac.kd
      have csl := H7.out.ac.sl
      clear hok
      by_cases hl5 : 5000 < ln
      · have l5 : (5000 : Int) < (ln : Int) := by omega
        have HB := Lib.hid H7.out.so.bel
        clear hl5
        go_wp2_with fail
        go_ret
        exact ⟨rfl, HB.out⟩
      have l5 : (ln : Int) ≤ 5000 := by omega
      have HLN := Lib.hid (show ln ≤ 5000 by omega)
      clear hl5
      go_upto_block 2 with fail
      clear csl
      go_cut [11, 12, 13, 14] from 56 to 108 (fun _ _ _ _ wx => ∃ F', CA w wx S M n F' F' T ⟨kd, ad, ab, ln, cp, l⟩)
      case first =>
        by_cases h1 : kd = 1
        · subst h1
          obtain ⟨mv, hmv⟩ : ∃ mv, (markA n F ad).1 = mv := ⟨_, rfl⟩
          obtain ⟨F3, hF3⟩ : ∃ F3, (markA n F ad).2 = F3 := ⟨_, rfl⟩
          have h7d := H7.out.below (Below.refl _ _).drew
          have hp := ca_markP ad h7d
          rw [hmv, hF3] at hp
          have HP := Lib.hid hp
          have HRR := Lib.hid (fun (W : World) (h : CA w W S M n F3 F T ⟨1, ad, ab, ln, cp, l⟩) => show Calls Tryd.prog 14 #[.pointer (some ⟨M, 0, none⟩), .int .u32 (ad : Int)] W fun e w' => e = .returned (.int .i64 mv) ∧ CA w w' S M n F3 F3 T ⟨1, ad, ab, ln, cp, l⟩ from by
            have hq := ca_markR ad h HAD.out
            rw [hmv, hF3] at hq
            exact hq)
          clear hp hmv hF3 h7d
          go_upto_region 22 with fail
          try simp only [Act.put]
          refine wp_region_noPanic ?_
          refine wp_region_held_drew (S := fun W => W.cell? ⟨T, 1, none⟩ = some (.int .u32 (ad : Int))) (by kernel_rfl) (H7.out.ac.ad) (fun hHeld => ?_)
          refine wpAnyH_take (i := 0) (oi := ⟨some 78, _, _, _, _, _⟩) (v := ?_) rfl (by kernel_rfl) (by decide +kernel) (by decide +kernel) (fun _ _ _ h => h) (Or.inl ⟨by rfl, ?_⟩) (by assumption) ?_
          rotate_left 1
          · (intro w' hSw; go_simp; try with_reducible rfl)
          try simp only [Act.put, List.setIfInBounds_toArray, List.set_cons_zero, List.set_cons_succ]
          refine wpAnyH_take (i := 1) (oi := ⟨some 79, _, _, _, _, _⟩) (v := ?_) rfl (by kernel_rfl) (by decide +kernel) (by decide +kernel) (fun _ _ _ h => h) (Or.inl ⟨by rfl, ?_⟩) (by assumption) ?_
          rotate_left 1
          · (intro w' hSw; go_simp; try with_reducible rfl)
          try simp only [Act.put, List.setIfInBounds_toArray, List.set_cons_zero, List.set_cons_succ]
          refine wpAnyH_take (i := 2) (oi := ⟨some 80, _, _, _, _, _⟩) (v := ?_) rfl (by kernel_rfl) (by decide +kernel) (by decide +kernel) (fun _ _ _ h => h) (Or.inl ⟨by rfl, ?_⟩) (by assumption) ?_
          rotate_left 1
          · (intro w' hSw; have hc := hSw; go_simp; try with_reducible rfl)
          try simp only [Act.put, List.setIfInBounds_toArray, List.set_cons_zero, List.set_cons_succ]
          refine wpAnyH_take (i := 4) (oi := ⟨some 82, _, _, _, _, _⟩) (v := ?_) rfl (by kernel_rfl) (by decide +kernel) (by decide +kernel) (fun _ _ _ h => h) (Or.inl ⟨by rfl, ?_⟩) (by assumption) ?_
          rotate_left 1
          · (intro w' hSw; go_simp; try with_reducible rfl)
          try simp only [Act.put, List.setIfInBounds_toArray, List.set_cons_zero, List.set_cons_succ]
          refine wpAnyH_take (i := 5) (oi := ⟨some 83, _, _, _, _, _⟩) (v := ?_) rfl (by kernel_rfl) (by decide +kernel) (by decide +kernel) (fun _ _ _ h => h) (Or.inl ⟨by rfl, ?_⟩) (by assumption) ?_
          rotate_left 1
          · (intro w' hSw; go_simp; try with_reducible rfl)
          try simp only [Act.put, List.setIfInBounds_toArray, List.set_cons_zero, List.set_cons_succ]
          refine wpAnyH_take (i := 6) (oi := ⟨some 84, _, _, _, _, _⟩) (v := ?_) rfl (by kernel_rfl) (by decide +kernel) (by decide +kernel) (fun _ _ _ h => h) (Or.inl ⟨by rfl, ?_⟩) (by assumption) ?_
          rotate_left 1
          · (intro w' hSw; have hc := hSw; go_simp; try with_reducible rfl)
          try simp only [Act.put, List.setIfInBounds_toArray, List.set_cons_zero, List.set_cons_succ]
          refine wpAnyH_ready (rs := [3]) (by decide +kernel) (by simp) ?_
          refine AllReadyH.cons rfl (fun K hK => ?_) AllReadyH.nil
          go_simp
          go_at_call 13
          refine HP.out.mono ?_
          rintro e wt ⟨rfl, hc⟩
          have HC1 := Lib.hid hc
          clear hc
          go_wp2_with fail
          refine hK.out _ _ HC1.out.ac.ad (fun hHeld => ?_)
          clear hK K
          try simp only [Act.put, List.setIfInBounds_toArray, List.set_cons_zero, List.set_cons_succ]
          refine wpAnyH_ready (rs := [7]) (by decide +kernel) (by simp) ?_
          refine AllReadyH.cons rfl (fun K hK => ?_) AllReadyH.nil
          go_simp
          go_at_call 14
          refine (HRR.out _ HC1.out).mono ?_
          rintro e wt2 ⟨rfl, hc⟩
          have HC2 := Lib.hid hc
          clear hc
          go_wp2_with fail
          refine hK.out _ _ HC2.out.ac.ad (fun hHeld => ?_)
          clear hK K
          try simp only [Act.put, List.setIfInBounds_toArray, List.set_cons_zero, List.set_cons_succ]
          refine wpAnyH_take (i := 8) (oi := ⟨some 86, _, _, _, _, _⟩) (v := ?_) rfl (by kernel_rfl) (by decide +kernel) (by decide +kernel) (fun _ _ _ h => h) (Or.inl ⟨by rfl, ?_⟩) (by assumption) ?_
          rotate_left 1
          · (intro w' hSw; go_simp; try with_reducible rfl)
          try simp only [Act.put, List.setIfInBounds_toArray, List.set_cons_zero, List.set_cons_succ]
          clear hHeld
          refine wpAnyH_done (by decide +kernel) ?_ _
          refine NoPanic.normal ?_
          go_wp2_with fail
          go_meet
          case rel => exact ⟨_, HC2.out⟩
        · by_cases h2 : kd = 2
          · subst h2
            clear h1
            obtain ⟨mv, hmv⟩ : ∃ mv, (freeA n F ad).1 = mv := ⟨_, rfl⟩
            obtain ⟨F3, hF3⟩ : ∃ F3, (freeA n F ad).2 = F3 := ⟨_, rfl⟩
            have h7d := H7.out.below (Below.refl _ _).drew
            have hp := ca_freeP ad h7d
            rw [hmv, hF3] at hp
            have HP := Lib.hid hp
            have HRR := Lib.hid (fun (W : World) (h : CA w W S M n F3 F T ⟨2, ad, ab, ln, cp, l⟩) => show Calls Tryd.prog 16 #[.pointer (some ⟨M, 0, none⟩), .int .u32 (ad : Int)] W fun e w' => e = .returned (.int .i64 mv) ∧ CA w w' S M n F3 F3 T ⟨2, ad, ab, ln, cp, l⟩ from by
              have hq := ca_freeR ad h HAD.out
              rw [hmv, hF3] at hq
              exact hq)
            clear hp hmv hF3 h7d
            go_upto_region 25 with fail
            try simp only [Act.put]
            refine wp_region_noPanic ?_
            refine wp_region_held_drew (S := fun W => W.cell? ⟨T, 1, none⟩ = some (.int .u32 (ad : Int))) (by kernel_rfl) (H7.out.ac.ad) (fun hHeld => ?_)
            refine wpAnyH_take (i := 0) (oi := ⟨some 89, _, _, _, _, _⟩) (v := ?_) rfl (by kernel_rfl) (by decide +kernel) (by decide +kernel) (fun _ _ _ h => h) (Or.inl ⟨by rfl, ?_⟩) (by assumption) ?_
            rotate_left 1
            · (intro w' hSw; go_simp; try with_reducible rfl)
            try simp only [Act.put, List.setIfInBounds_toArray, List.set_cons_zero, List.set_cons_succ]
            refine wpAnyH_take (i := 1) (oi := ⟨some 90, _, _, _, _, _⟩) (v := ?_) rfl (by kernel_rfl) (by decide +kernel) (by decide +kernel) (fun _ _ _ h => h) (Or.inl ⟨by rfl, ?_⟩) (by assumption) ?_
            rotate_left 1
            · (intro w' hSw; go_simp; try with_reducible rfl)
            try simp only [Act.put, List.setIfInBounds_toArray, List.set_cons_zero, List.set_cons_succ]
            refine wpAnyH_take (i := 2) (oi := ⟨some 91, _, _, _, _, _⟩) (v := ?_) rfl (by kernel_rfl) (by decide +kernel) (by decide +kernel) (fun _ _ _ h => h) (Or.inl ⟨by rfl, ?_⟩) (by assumption) ?_
            rotate_left 1
            · (intro w' hSw; have hc := hSw; go_simp; try with_reducible rfl)
            try simp only [Act.put, List.setIfInBounds_toArray, List.set_cons_zero, List.set_cons_succ]
            refine wpAnyH_take (i := 4) (oi := ⟨some 93, _, _, _, _, _⟩) (v := ?_) rfl (by kernel_rfl) (by decide +kernel) (by decide +kernel) (fun _ _ _ h => h) (Or.inl ⟨by rfl, ?_⟩) (by assumption) ?_
            rotate_left 1
            · (intro w' hSw; go_simp; try with_reducible rfl)
            try simp only [Act.put, List.setIfInBounds_toArray, List.set_cons_zero, List.set_cons_succ]
            refine wpAnyH_take (i := 5) (oi := ⟨some 94, _, _, _, _, _⟩) (v := ?_) rfl (by kernel_rfl) (by decide +kernel) (by decide +kernel) (fun _ _ _ h => h) (Or.inl ⟨by rfl, ?_⟩) (by assumption) ?_
            rotate_left 1
            · (intro w' hSw; go_simp; try with_reducible rfl)
            try simp only [Act.put, List.setIfInBounds_toArray, List.set_cons_zero, List.set_cons_succ]
            refine wpAnyH_take (i := 6) (oi := ⟨some 95, _, _, _, _, _⟩) (v := ?_) rfl (by kernel_rfl) (by decide +kernel) (by decide +kernel) (fun _ _ _ h => h) (Or.inl ⟨by rfl, ?_⟩) (by assumption) ?_
            rotate_left 1
            · (intro w' hSw; have hc := hSw; go_simp; try with_reducible rfl)
            try simp only [Act.put, List.setIfInBounds_toArray, List.set_cons_zero, List.set_cons_succ]
            refine wpAnyH_ready (rs := [3]) (by decide +kernel) (by simp) ?_
            refine AllReadyH.cons rfl (fun K hK => ?_) AllReadyH.nil
            go_simp
            go_at_call 15
            refine HP.out.mono ?_
            rintro e wt ⟨rfl, hc⟩
            have HC1 := Lib.hid hc
            clear hc
            go_wp2_with fail
            refine hK.out _ _ HC1.out.ac.ad (fun hHeld => ?_)
            clear hK K
            try simp only [Act.put, List.setIfInBounds_toArray, List.set_cons_zero, List.set_cons_succ]
            refine wpAnyH_ready (rs := [7]) (by decide +kernel) (by simp) ?_
            refine AllReadyH.cons rfl (fun K hK => ?_) AllReadyH.nil
            go_simp
            go_at_call 16
            refine (HRR.out _ HC1.out).mono ?_
            rintro e wt2 ⟨rfl, hc⟩
            have HC2 := Lib.hid hc
            clear hc
            go_wp2_with fail
            refine hK.out _ _ HC2.out.ac.ad (fun hHeld => ?_)
            clear hK K
            try simp only [Act.put, List.setIfInBounds_toArray, List.set_cons_zero, List.set_cons_succ]
            refine wpAnyH_take (i := 8) (oi := ⟨some 97, _, _, _, _, _⟩) (v := ?_) rfl (by kernel_rfl) (by decide +kernel) (by decide +kernel) (fun _ _ _ h => h) (Or.inl ⟨by rfl, ?_⟩) (by assumption) ?_
            rotate_left 1
            · (intro w' hSw; go_simp; try with_reducible rfl)
            try simp only [Act.put, List.setIfInBounds_toArray, List.set_cons_zero, List.set_cons_succ]
            clear hHeld
            refine wpAnyH_done (by decide +kernel) ?_ _
            refine NoPanic.normal ?_
            go_wp2_with fail
            go_meet
            case rel => exact ⟨_, HC2.out⟩
          · by_cases h3 : kd = 3
            · subst h3
              clear h1 h2
              obtain ⟨ok, hok⟩ : ∃ ok, inB11 n l = ok := ⟨_, rfl⟩
              have hiff : ok = true ↔ allIn n l := by rw [← hok]; exact inB11_iff n l
              obtain ⟨mv, hmv⟩ : ∃ mv, (setA n F l ok).1 = mv := ⟨_, rfl⟩
              obtain ⟨F3, hF3⟩ : ∃ F3, (setA n F l ok).2 = F3 := ⟨_, rfl⟩
              have h7d := H7.out.below (Below.refl _ _).drew
              have hp := ca_setP l ab ln cp ok h7d (HUS.out.below h7d.so.bel) (by have := HLN.out; omega) hiff
              rw [hmv, hF3] at hp
              have HP := Lib.hid hp
              have HRR := Lib.hid (fun (W : World) (h : CA w W S M n F3 F T ⟨3, ad, ab, ln, cp, l⟩) => show Calls Tryd.prog 18 #[.pointer (some ⟨M, 0, none⟩), .slice ab ln cp] W fun e w' => e = .returned (.int .i64 mv) ∧ CA w w' S M n F3 F3 T ⟨3, ad, ab, ln, cp, l⟩ from by
                have hq := ca_setR l ab ln cp ok h (HUS.out.below h.so.bel) (by have := HLN.out; omega) hiff
                rw [hmv, show (setA n F l ok).2 = F3 from hF3] at hq
                exact hq)
              clear hp hmv hF3 h7d hok hiff
              go_upto_region 28 with fail
              try simp only [Act.put]
              refine wp_region_noPanic ?_
              refine wp_region_held_drew (S := fun W => W.cell? ⟨T, 2, none⟩ = some (.slice ab ln cp)) (by kernel_rfl) (H7.out.ac.sl) (fun hHeld => ?_)
              refine wpAnyH_take (i := 0) (oi := ⟨some 100, _, _, _, _, _⟩) (v := ?_) rfl (by kernel_rfl) (by decide +kernel) (by decide +kernel) (fun _ _ _ h => h) (Or.inl ⟨by rfl, ?_⟩) (by assumption) ?_
              rotate_left 1
              · (intro w' hSw; go_simp; try with_reducible rfl)
              try simp only [Act.put, List.setIfInBounds_toArray, List.set_cons_zero, List.set_cons_succ]
              refine wpAnyH_take (i := 1) (oi := ⟨some 101, _, _, _, _, _⟩) (v := ?_) rfl (by kernel_rfl) (by decide +kernel) (by decide +kernel) (fun _ _ _ h => h) (Or.inl ⟨by rfl, ?_⟩) (by assumption) ?_
              rotate_left 1
              · (intro w' hSw; go_simp; try with_reducible rfl)
              try simp only [Act.put, List.setIfInBounds_toArray, List.set_cons_zero, List.set_cons_succ]
              refine wpAnyH_take (i := 2) (oi := ⟨some 102, _, _, _, _, _⟩) (v := ?_) rfl (by kernel_rfl) (by decide +kernel) (by decide +kernel) (fun _ _ _ h => h) (Or.inl ⟨by rfl, ?_⟩) (by assumption) ?_
              rotate_left 1
              · (intro w' hSw; have hc := hSw; go_simp; try with_reducible rfl)
              try simp only [Act.put, List.setIfInBounds_toArray, List.set_cons_zero, List.set_cons_succ]
              refine wpAnyH_take (i := 4) (oi := ⟨some 104, _, _, _, _, _⟩) (v := ?_) rfl (by kernel_rfl) (by decide +kernel) (by decide +kernel) (fun _ _ _ h => h) (Or.inl ⟨by rfl, ?_⟩) (by assumption) ?_
              rotate_left 1
              · (intro w' hSw; go_simp; try with_reducible rfl)
              try simp only [Act.put, List.setIfInBounds_toArray, List.set_cons_zero, List.set_cons_succ]
              refine wpAnyH_take (i := 5) (oi := ⟨some 105, _, _, _, _, _⟩) (v := ?_) rfl (by kernel_rfl) (by decide +kernel) (by decide +kernel) (fun _ _ _ h => h) (Or.inl ⟨by rfl, ?_⟩) (by assumption) ?_
              rotate_left 1
              · (intro w' hSw; go_simp; try with_reducible rfl)
              try simp only [Act.put, List.setIfInBounds_toArray, List.set_cons_zero, List.set_cons_succ]
              refine wpAnyH_take (i := 6) (oi := ⟨some 106, _, _, _, _, _⟩) (v := ?_) rfl (by kernel_rfl) (by decide +kernel) (by decide +kernel) (fun _ _ _ h => h) (Or.inl ⟨by rfl, ?_⟩) (by assumption) ?_
              rotate_left 1
              · (intro w' hSw; have hc := hSw; go_simp; try with_reducible rfl)
              try simp only [Act.put, List.setIfInBounds_toArray, List.set_cons_zero, List.set_cons_succ]
              refine wpAnyH_ready (rs := [3]) (by decide +kernel) (by simp) ?_
              refine AllReadyH.cons rfl (fun K hK => ?_) AllReadyH.nil
              go_simp
              go_at_call 17
              refine HP.out.mono ?_
              rintro e wt ⟨rfl, hc⟩
              have HC1 := Lib.hid hc
              clear hc
              go_wp2_with fail
              refine hK.out _ _ HC1.out.ac.sl (fun hHeld => ?_)
              clear hK K
              try simp only [Act.put, List.setIfInBounds_toArray, List.set_cons_zero, List.set_cons_succ]
              refine wpAnyH_ready (rs := [7]) (by decide +kernel) (by simp) ?_
              refine AllReadyH.cons rfl (fun K hK => ?_) AllReadyH.nil
              go_simp
              go_at_call 18
              refine (HRR.out _ HC1.out).mono ?_
              rintro e wt2 ⟨rfl, hc⟩
              have HC2 := Lib.hid hc
              clear hc
              go_wp2_with fail
              refine hK.out _ _ HC2.out.ac.sl (fun hHeld => ?_)
              clear hK K
              try simp only [Act.put, List.setIfInBounds_toArray, List.set_cons_zero, List.set_cons_succ]
              refine wpAnyH_take (i := 8) (oi := ⟨some 108, _, _, _, _, _⟩) (v := ?_) rfl (by kernel_rfl) (by decide +kernel) (by decide +kernel) (fun _ _ _ h => h) (Or.inl ⟨by rfl, ?_⟩) (by assumption) ?_
              rotate_left 1
              · (intro w' hSw; go_simp; try with_reducible rfl)
              try simp only [Act.put, List.setIfInBounds_toArray, List.set_cons_zero, List.set_cons_succ]
              clear hHeld
              refine wpAnyH_done (by decide +kernel) ?_ _
              refine NoPanic.normal ?_
              go_wp2_with fail
              go_meet
              case rel => exact ⟨_, HC2.out⟩
            · have k1 : (kd == 1) = false := by simpa using h1
              have k2 : (kd == 2) = false := by simpa using h2
              have k3 : (kd == 3) = false := by simpa using h3
              rcases low_or_none F n H7.out.so.sp.own with hnone | ⟨y, hy, hlow⟩
              · have HP := Lib.hid (so_full w w7 S n F H7.out.so hnone)
                have HRR := Lib.hid (ca_fullR H7.out hnone)
                clear hnone
                go_wp2_with fail
                refine HP.out.mono ?_
                rintro e w8 ⟨rfl, rfl⟩
                clear HP
                go_wp2_with fail
                refine HRR.out.mono ?_
                rintro e w9 ⟨rfl, rfl⟩
                clear HRR
                go_wp2_with fail
                go_meet
                case rel => exact ⟨_, H7.out⟩
              · have hr := H7.out.so.sp.own y hy
                have HP := Lib.hid (ca_takeP y H7.out hy hlow)
                have HRR := Lib.hid (fun (W : World) (h : CA w W S M n (updF F y false) F T ⟨kd, ad, ab, ln, cp, l⟩) => ca_takeR y h hy hr hlow)
                clear hy hlow hr
                go_wp2_with fail
                refine HP.out.mono ?_
                rintro e w8 ⟨rfl, hc8⟩
                have HC1 := Lib.hid hc8
                clear HP hc8
                go_wp2_with fail
                refine (HRR.out _ HC1.out).mono ?_
                rintro e w9 ⟨rfl, hc9⟩
                have HC2 := Lib.hid hc9
                clear HRR hc9
                go_wp2_with fail
                go_meet
                case rel => exact ⟨_, HC2.out⟩
      case rest =>
        obtain ⟨F4, hc⟩ := hcut
        clear H7
        obtain ⟨k, hk⟩ : ∃ k, (tkn F4 n).length = k := ⟨_, rfl⟩
        obtain ⟨z, hz⟩ : ∃ z, cnt F4 n = z := ⟨_, rfl⟩
        have zE : (z : Int) = (n : Int) - 2 - (k : Int) := by
          have := tkn_count F4 (fun y hy => (hc.so.sp.own y hy).1) n (by have := HN.out.1; omega)
          have := HN.out.1
          omega
        have kI : (k : Int) ≤ 4096 := by have := tkn_len F4 n; have := HN.out.2; omega
        have k0 : (0 : Int) ≤ (k : Int) := by omega
        have HK := Lib.hid hk
        have HZ := Lib.hid hz
        have HTR := Lib.hid (ca_takenR k hc hk)
        clear hc hk hz
        go_wp2_with fail
        refine HTR.out.mono ?_
        rintro e w11 ⟨a11, c11, rfl, hu11, hc11, _⟩
        have HU11 := Lib.hid hu11
        have HTP := Lib.hid (ca_takenP k hc11 HK.out)
        clear HTR hu11 hc11
        go_wp2_with fail
        refine HTP.out.mono ?_
        rintro e w12 ⟨a12, c12, rfl, hu12, hc12, hb12⟩
        have HSA := Lib.hid (rsame11_any a12 a11 k k c12 c11 _ _ w12 hu12 (HU11.out.below hb12) (by omega) (by omega))
        rw [decide_eq_true rfl] at HSA
        have HC12 := Lib.hid hc12
        clear HTP hu12 hc12 hb12 HU11
        go_wp2_with fail
        refine HSA.out.mono ?_
        rintro e w13 ⟨rfl, hb13⟩
        have HC13 := Lib.hid (HC12.out.below hb13)
        have HL := Lib.hid (so_left w w13 S n F4 HC13.out.so)
        rw [HZ.out] at HL
        clear HSA hb13 HC12
        go_wp2_with fail
        refine HL.out.mono ?_
        rintro e w14 ⟨rfl, rfl⟩
        clear HL
        have cad := HC13.out.ac.ad
        have ad0 : (0 : Int) ≤ (ad : Int) := by omega
        have adI : (ad : Int) < 4294967296 := by have := HAD.out; omega
        by_cases hadn : ad < n
        · have adn : (ad : Int) < (n : Int) := by omega
          obtain ⟨G, hG, _⟩ := HC13.out.rw
          have cM := hG.at
          have cG := hG.flag ad hadn
          have hbx := index_bool .u32 G n ad hadn
          clear hG hadn
          have HCD := Lib.hid (fun (q : Nat) => HC13.out.below (ybelow_drewN (Below.refl _ _) q))
          have HH := Lib.hid (fun (q : Nat) => ca_hasP ad (HCD.out q))
          go_upto_region 33 with fail
          go_quiet (fail)
          clear cM cG hbx
          go_wp2_with fail
          refine (HH.out _).mono ?_
          rintro e w15 ⟨rfl, hc15⟩
          have HC15 := Lib.hid hc15
          clear HH hc15
          go_wp2_with fail
          go_roundw
          case rel => exact ⟨i + 1, F4, by have := HLT.out; omega, by go_num, HC15.out.cs⟩
          case measure => simp [intOf]; have := HLT.out; omega
        · have adn : (n : Int) ≤ (ad : Int) := by omega
          have htk : takF n F4 ad = false := takF_out F4 (.inr (by omega))
          have hdf : decide ((ad : Int) < (n : Int)) = false := decide_eq_false (by omega)
          have hdf2 : decide (ad < n) = false := decide_eq_false hadn
          clear hadn
          have HCD := Lib.hid (fun (q : Nat) => HC13.out.below (ybelow_drewN (Below.refl _ _) q))
          have HH := Lib.hid (fun (q : Nat) => ca_hasP ad (HCD.out q))
          rw [htk] at HH
          go_upto_region 33 with fail
          go_quiet (fail)
          clear htk hdf hdf2
          go_wp2_with fail
          refine (HH.out _).mono ?_
          rintro e w15 ⟨rfl, hc15⟩
          have HC15 := Lib.hid hc15
          clear HH hc15
          go_wp2_with fail
          go_roundw
          case rel => exact ⟨i + 1, F4, by have := HLT.out; omega, by go_num, HC15.out.cs⟩
          case measure => simp [intOf]; have := HLT.out; omega
    · obtain rfl : i = len1 := by omega
      have HB := Lib.hid hc.so.bel
      clear hi hlt hc
      go_wp2_with fail
      go_ret
      exact ⟨rfl, HB.out⟩
set_option maxRecDepth 100000 in
theorem lifted (os : Os) (started : os.Started) (H : Type) (enc : TypeId × Value → H) :
    ReturnsInHanded {} Tryd.checked os 3 .any (fun w args => (Rows.spaceActsSpec.pre enc Tryd.prog Tryd.f3 [] false w args ∧ laidMetH Tryd.prog [("math/bits.deBruijn64tab", Rows.laid_math_bits_deBruijn64tab)] w) ∧ sizedMet enc Tryd.prog Tryd.f3 (OpenSpec.ofChange Rows.spaceActsSpec) false w args)
      (Rows.spaceActsSpec.post enc Tryd.prog Tryd.f3 false true false false) := by
  refine returnsInHanded_of_change_and (C := Tryd.checked) (X := fun w _ => laidMetH Tryd.prog [("math/bits.deBruijn64tab", Rows.laid_math_bits_deBruijn64tab)] w) (fun _ _ _ hh h => h.of_heap hh) own11 started (by kernel_rfl) Tryd.func3
    (ChangeSpec.witness_shaped (enc := enc) (C := Tryd.checked) (os := os) (X := fun w _ => laidMetH Tryd.prog [("math/bits.deBruijn64tab", Rows.laid_math_bits_deBruijn64tab)] w) false (World.doorLaid Tryd.prog 400 os) #[.int .i64 0, .slice none 0 0] 8 rfl (World.shaped_of_RefB (by kernel_rfl) (by kernel_rfl)) (by kernel_rfl) (by kernel_rfl) (by kernel_rfl) (door_met11 os _)) ?_
  intro W base args ds gs before hval0 hW _ hsz0 hL _
  have hval : ∀ (j : Nat) t v, Tryd.f3.params[j]? = some t → args[j]? = some v → Value.okWide Tryd.prog W .any base t v := hval0
  have hsz : (DataW.weightsEach Tryd.prog (Tryd.f3.params.toList ++ Rows.spaceActsSpec.plain.varTypes Tryd.prog) (ds ++ gs)).all (· ≤ reachBytes) = true := hsz0
  clear hsz0
  have hW' := hW
  obtain ⟨p, q, hA0, hV, rfl, hfz, hnd⟩ := hW
  have hA : DataW.TrodAll enc Tryd.prog W 0 (fun _ => true) true Tryd.f3.params.toList args.toList ds p := hA0
  rw [Tryd.params3] at hA hval hsz
  obtain ⟨v0, vs0, d0, ds0, p0, q0, hargs, rfl, rfl, h0, r0⟩ := trodAll_cons hA
  obtain ⟨v1, vs1, d1, ds1, p1, q1, rfl, rfl, rfl, h1, r1⟩ := trodAll_cons r0
  obtain ⟨rfl, rfl, rfl⟩ := trodAll_nil r1
  obtain rfl : args = #[v0, v1] := by cases args; simp_all
  obtain ⟨rfl, rfl⟩ := trodVars_none hV
  have k0 := h0
  have lt0 : ∀ x ∈ p0, x.block < W.heap.size := by obtain ⟨m, hm⟩ := k0; exact DataW.trod_lt m _ _ _ hm
  have k1 := h1
  have lt1 : ∀ x ∈ p1, x.block < W.heap.size := by obtain ⟨m, hm⟩ := k1; exact DataW.trod_lt m _ _ _ hm
  obtain ⟨z0, rfl, za0, zb0⟩ := par_int (j := 0) .i64 _ _ Tryd.underlying3 wf_i64 (hval 0 3 v0 rfl rfl) h0 hsz rfl rfl
  obtain ⟨x1, a1, len1, cap1, rfl, sl1⟩ := par_slice (j := 1) Tryd.underlying22 opn_acts11 (hval 1 22 v1 rfl rfl) h1 hsz rfl rfl
  have hK := of_laid11 hL
  clear hA0 hval0
  refine (walk W z0 za0 zb0 a1 len1 cap1 x1 sl1 hK).mono fun e W' ⟨he, bel⟩ => ?_
  subst he
  exact ⟨_, rfl, _, _, _, [], _, [], hW', trodAll_mk1 (shut_bool Tryd.underlying4 _), (trodAll_cons_mk (Below.trod laidOut11 (by kernel_rfl) (of_decide_eq_true (by kernel_rfl)) k0 bel lt0) (trodAll_cons_mk (Below.trod laidOut11 (by kernel_rfl) (of_decide_eq_true (by kernel_rfl)) k1 bel lt1) trodAll_mk0)), rfl, bel.frame _, fun h => by cases h⟩

theorem over : Rows.SpaceActsSaid :=
  OpenClaim.holds_of_wide 3 Tryd.f3 rfl rfl rfl rfl rfl rfl rfl ⟨rfl, rfl, rfl, rfl, rfl⟩ rfl rfl rfl rfl rfl (by kernel_rfl) Tryd.func3 (by kernel_rfl)
    (of_decide_eq_true (by kernel_rfl)) (by unfold Func.isWrapper; first | (rw [if_pos (by decide +kernel)]; kernel_rfl) | (rw [if_neg (by decide +kernel)]; exact ⟨rfl, rfl⟩))
    (fun os started H enc _ => lifted os started H enc)

/-- The statement. -/
theorem proved : Rows.SpaceActsCardSaid :=
  Claim7.holds_tied_plain_at .later [] [.data] true (true, "3aca2102f0461fcd0b44e8c06fdc99553a88198ed7149c61c15f7a0c181ac545") false
    over (fun _ h => by cases h) (by kernel_rfl) (fun _ h => by cases h) spaceActs_row_tie rfl ⟨rfl, rfl⟩ (by kernel_rfl) rfl
    (fun f fn hf hfn => by
      obtain rfl : f = 3 := Option.some.inj ((show Tryd.prog.funcNamed "banyan/banyanlaw11.SpaceActs" = some 3 by kernel_rfl).symm.trans hf) |>.symm
      obtain rfl : fn = Tryd.f3 := (Option.some.inj (Tryd.func3.symm.trans hfn)).symm
      exact ⟨by kernel_rfl, fun j t ht => by
        rw [Tryd.params3] at ht
        have hm : t ∈ [3, 22] := by simpa using Array.mem_of_getElem? ht
        have hall : ([3, 22].all fun u => !Tryd.prog.wantsStandIn u) = true := by kernel_rfl
        exact (show Tryd.prog.wantsStandIn t = false by simpa using List.all_eq_true.1 hall t hm)⟩)
    (by kernel_rfl)
#print axioms proved
end Go.Proofs.YtpeemnkhcgapnaaDoor.spaceActs
