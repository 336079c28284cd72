/-
  'ShaApart' returns true at every input, and each argument reads behind the call as it read before. Conditions: the package-level variable that the row lists starts as the program's text lays it (the card ties that).
-/
import Derived.Test.YtinkjoghdajhkaaDoorLaid
import Derived.Test.YtinkjoghdajhkaaDoorCards
import Derived.Test.YtinkjoghdajhkaaDoorTie
import Derived.Test.YtinkjoghdajhkaaDoorTwo
import Derived.Deep.DeepCutAuto
namespace Go.Proofs.YtinkjoghdajhkaaDoor.shaApart
open Go.ChangeShapes Go.WideShapes Go.ChangeAt Go.RowKit
set_option linter.unusedVariables false


set_option maxRecDepth 100000 in
set_option maxHeartbeats 1600000 in
theorem walk (w : World) (a0 : Option Addr) (len0 cap0 : Nat) (l0 : List Int) (e0 : l0.length = len0) (b0 : BS w (.slice a0 len0 cap0) l0) (m0 : len0 ≤ cap0) (n0 : cap0 ≤ 140737488351232) (a1 : Option Addr) (len1 cap1 : Nat) (l1 : List Int) (e1 : l1.length = len1) (b1 : BS w (.slice a1 len1 cap1) l1) (m1 : len1 ≤ cap1) (n1 : cap1 ≤ 140737488351232) (hK : KT w) :
    Calls Tryd.prog 8 #[.slice a0 len0 cap0, .slice a1 len1 cap1] w fun e w' => e = .returned (.bool true) ∧ Below w.heap.size w w' := by
  have HK := Lib.hid hK
  have hpos : 0 < w.heap.size := hK.pos
  have HPOS := Lib.hid hpos
  have HB0 := Lib.hid b0
  have HB1 := Lib.hid b1
  have HE := Lib.hid (And.intro e0 e1)
  have HM := Lib.hid (And.intro m0 (And.intro m1 (And.intro n0 n1)))
  have len0I : (len0 : Int) ≤ 140737488351232 := by omega
  have len1I : (len1 : Int) ≤ 140737488351232 := by omega
  clear hK b0 b1 e0 e1 m0 m1 n0 n1 hpos
  by_cases hbig : (3000 : Int) < (len0 : Int) + (len1 : Int)
  · go_enter Tryd.func8, Tryd.ntmps8
    go_wp2_with fail
    refine (alive2_any w HK.out).mono ?_
    rintro e w1 ⟨rfl, hb1⟩
    go_wp2_with fail
    go_ret
    exact ⟨rfl, hb1⟩
  by_cases hc : len0 < len1
  · have hcI : (len0 : Int) < (len1 : Int) := by omega
    have HMX := Lib.hid (show len0 ≤ len1 ∧ len1 ≤ len1 ∧ (len1 = len0 ∨ len1 = len1) by omega)
    have MI : (len1 : Int) ≤ 3000 := by omega
    go_enter Tryd.func8, Tryd.ntmps8
    go_wp2_with fail
    refine (alive2_any w HK.out).mono ?_
    rintro e w1 ⟨rfl, hb1⟩
    have HBE1 := Lib.hid hb1
    clear hb1
    go_wp2_with fail
    refine (new_any _).mono ?_
    rintro e w2 ⟨g, rfl, hg, hgl, hb2⟩
    have HG := Lib.hid (And.intro hg (And.intro hgl hb2))
    clear hg hgl hb2
    go_wp2_with fail
    refine (new_any _).mono ?_
    rintro e w3 ⟨h, rfl, hh, hhl, hb3⟩
    have hgh : g < w2.heap.size := HG.out.1.lt
    have HT := Lib.hid (show Two w w3 g h [] [] from ⟨(HBE1.out.trans (HG.out.2.2.mono HBE1.out.size)).trans (hb3.mono (Nat.le_trans HBE1.out.size HG.out.2.2.size)), HK.out.below ((HBE1.out.trans (HG.out.2.2.mono HBE1.out.size)).trans (hb3.mono (Nat.le_trans HBE1.out.size HG.out.2.2.size))) HPOS.out, HG.out.1.below hb3 hgh, hh, Nat.le_trans HBE1.out.size HG.out.2.1, Nat.le_trans (Nat.le_trans HBE1.out.size HG.out.2.2.size) hhl, by omega⟩)
    have sumI : (len0 : Int) + (len1 : Int) ≤ 3000 := by omega
    have SUM := Lib.hid (show len0 + len1 ≤ 3000 by omega)
    clear hh hhl hb3 hgh hbig
    go_wp2_with fail
    go_loopw [27] (fun v27 wr => ∃ i : Nat, i ≤ len1 ∧ v27 = .int .i64 (i : Nat) ∧ Two w wr g h (l0.take i) (l1.take i)) (fun v _ => len1 - (intOf v).toNat)
    case atStart => exact ⟨0, by omega, rfl, by simpa using HT.out⟩
    case round =>
      obtain ⟨i, hi, rfl, hT⟩ := hrel
      by_cases hlt : i < len1
      · have hi0 : (0 : Int) ≤ (i : Int) := by omega
        have hiM : (i : Int) < (len1 : Int) := by omega
        have HLT := Lib.hid hlt
        clear hlt hi
        have HT0 := Lib.hid hT
        clear hT
        by_cases hlt0 : i < len0
        · by_cases hlt1 : i < len1
          · obtain ⟨c0, hsA0, _, _, hbs0⟩ := slice_seg w a0 len0 cap0 i (i + 1) l0 HB0.out HE.out.1 (by omega) (by omega) HM.out.1
            rw [Int.natCast_add, show i + 1 - i = 1 by omega] at hsA0
            rw [show i + 1 - i = 1 by omega] at hbs0
            have hs0 : ∀ W', (Instr.slice 22 (.slice a0 len0 cap0) (some (.int .i64 (i : Int))) (some (.int .i64 ((i : Int) + 1))) none).run Tryd.prog W' = .ok (.slice c0 1 (cap0 - i)) W' := hsA0
            clear hsA0
            have HBS0 := Lib.hid hbs0
            clear hbs0
            obtain ⟨c1, hsA1, _, _, hbs1⟩ := slice_seg w a1 len1 cap1 i (i + 1) l1 HB1.out HE.out.2 (by omega) (by omega) HM.out.2.1
            rw [Int.natCast_add, show i + 1 - i = 1 by omega] at hsA1
            rw [show i + 1 - i = 1 by omega] at hbs1
            have hs1 : ∀ W', (Instr.slice 22 (.slice a1 len1 cap1) (some (.int .i64 (i : Int))) (some (.int .i64 ((i : Int) + 1))) none).run Tryd.prog W' = .ok (.slice c1 1 (cap1 - i)) W' := hsA1
            clear hsA1
            have HBS1 := Lib.hid hbs1
            clear hbs1
            have hi0I : (i : Int) < (len0 : Int) := by omega
            have hi1I : (i : Int) < (len1 : Int) := by omega
            have hw5 := write_any g (l0.take i) ((l0.drop i).take 1) _ wr HT0.out.hg HT0.out.kt (HT0.out.pos HPOS.out).1 (HBS0.out.kept HT0.out.bel) (room_of _ _ _ (by have := HM.out.1; omega) (by have := HM.out.2.2.1; omega)) (off_old HBS0.out HT0.out.gl) (by rw [List.length_take, List.length_take, List.length_drop, HE.out.1]; have := SUM.out; omega)
            have HW5 := Lib.hid hw5
            clear hw5
            clear hlt0 hlt1
            go_wp2_with fail
            refine HW5.out.mono ?_
            rintro e v5 ⟨rfl, hr5, hg5⟩
            have e5 : l0.take i ++ (l0.drop i).take 1 = l0.take (i + 1) := by rw [← List.take_add]
            rw [e5] at hr5
            have HT1 := Lib.hid (HT0.out.left HPOS.out hg5 hr5.has)
            clear hr5 hg5 e5
            have hw6 := write_any h (l1.take i) ((l1.drop i).take 1) _ v5 HT1.out.hh HT1.out.kt (HT1.out.pos HPOS.out).2 (HBS1.out.kept HT1.out.bel) (room_of _ _ _ (by have := HM.out.2.1; omega) (by have := HM.out.2.2.2; omega)) (off_old HBS1.out HT1.out.hl) (by rw [List.length_take, List.length_take, List.length_drop, HE.out.2]; have := SUM.out; omega)
            have HW6 := Lib.hid hw6
            clear hw6
            go_wp2_with fail
            refine HW6.out.mono ?_
            rintro e v6 ⟨rfl, hr6, hg6⟩
            have e6 : l1.take i ++ (l1.drop i).take 1 = l1.take (i + 1) := by rw [← List.take_add]
            rw [e6] at hr6
            have HT2 := Lib.hid (HT1.out.right HPOS.out hg6 hr6.has)
            clear hr6 hg6 e6
            go_wp2_with fail
            go_roundw
            case rel => exact ⟨i + 1, by have := HLT.out; omega, by go_num, HT2.out⟩
            case measure => simp [intOf]; omega
          · omega
        · have hlt1 : i < len1 := by have := HMX.out.2.2; have := HLT.out; omega
          obtain ⟨c1, hsA1, _, _, hbs1⟩ := slice_seg w a1 len1 cap1 i (i + 1) l1 HB1.out HE.out.2 (by omega) (by omega) HM.out.2.1
          rw [Int.natCast_add, show i + 1 - i = 1 by omega] at hsA1
          rw [show i + 1 - i = 1 by omega] at hbs1
          have hs1 : ∀ W', (Instr.slice 22 (.slice a1 len1 cap1) (some (.int .i64 (i : Int))) (some (.int .i64 ((i : Int) + 1))) none).run Tryd.prog W' = .ok (.slice c1 1 (cap1 - i)) W' := hsA1
          clear hsA1
          have HBS1 := Lib.hid hbs1
          clear hbs1
          have hi0I : (len0 : Int) ≤ (i : Int) := by omega
          have hi1I : (i : Int) < (len1 : Int) := by omega
          have HTK := Lib.hid (show l0.take i = l0.take (i + 1) by rw [List.take_of_length_le (by rw [HE.out.1]; omega), List.take_of_length_le (by rw [HE.out.1]; omega)])
          have hw5 := write_any h (l1.take i) ((l1.drop i).take 1) _ wr HT0.out.hh HT0.out.kt (HT0.out.pos HPOS.out).2 (HBS1.out.kept HT0.out.bel) (room_of _ _ _ (by have := HM.out.2.1; omega) (by have := HM.out.2.2.2; omega)) (off_old HBS1.out HT0.out.hl) (by rw [List.length_take, List.length_take, List.length_drop, HE.out.2]; have := SUM.out; omega)
          have HW5 := Lib.hid hw5
          clear hw5
          clear hlt0 hlt1
          go_wp2_with fail
          refine HW5.out.mono ?_
          rintro e v5 ⟨rfl, hr5, hg5⟩
          have e5 : l1.take i ++ (l1.drop i).take 1 = l1.take (i + 1) := by rw [← List.take_add]
          rw [e5] at hr5
          have HT1 := Lib.hid (HT0.out.right HPOS.out hg5 hr5.has)
          clear hr5 hg5 e5
          go_wp2_with fail
          go_roundw
          case rel => exact ⟨i + 1, by have := HLT.out; omega, by go_num, by have := HT1.out; rwa [HTK.out] at this⟩
          case measure => simp [intOf]; omega
      · have hge : (len1 : Int) ≤ (i : Int) := by omega
        have htk0 : l0.take i = l0 := List.take_of_length_le (by rw [HE.out.1]; have := HMX.out.1; omega)
        have htk1 : l1.take i = l1 := List.take_of_length_le (by rw [HE.out.2]; have := HMX.out.2.1; omega)
        rw [htk0, htk1] at hT
        have HT2 := Lib.hid hT
        have HS2 := Lib.hid (sum_any g l0 wr hT.hg hT.kt (by rw [HE.out.1]; have := SUM.out; omega))
        clear hT htk0 htk1 hlt hi
        go_wp2_with fail
        refine HS2.out.mono ?_
        rintro e w4 ⟨rfl, hb4⟩
        have HT4 := Lib.hid (HT2.out.below hb4)
        have SH0 := Lib.hid (size_h32 (hashS l0) (hashS_length l0))
        have SH1 := Lib.hid (size_h32 (hashS l1) (hashS_length l1))
        have SE := Lib.hid (show (u8s (List.replicate 32 0)).size = (u8s (hashS l0)).size by rw [u8s_size, u8s_size, hashS_length]; rfl)
        have SE1 := Lib.hid (show (u8s (List.replicate 32 0)).size = (u8s (hashS l1)).size by rw [u8s_size, u8s_size, hashS_length]; rfl)
        clear hb4
        go_wp2_with (first
          | (with_reducible refine wpList_store_row (o := ⟨none, .store _ (.tmp 8) _, _, _, _, _⟩) rfl 24 _ _ rfl w4.heap.size (u8s (hashS l0)) rfl rfl 24 _ (heap_alloc_new w4 _) SH0.out ?c1 (u8s_one _) ?_))
        case c1 => exact SE.out
        generalize hW5 : World.setRow _ w4.heap.size _ = W5
        obtain ⟨r5, z5, b5⟩ := fresh_row w4 (u8s (List.replicate 32 0)) (u8s (hashS l0)) 24 W5 hW5.symm
        clear hW5
        have HT5 := Lib.hid (HT4.out.below b5)
        have HX5 := Lib.hid (show ArrB W5 w4.heap.size 24 (hashS l0) from r5)
        have HS5 := Lib.hid (sum_any h l1 W5 HT5.out.hh HT5.out.kt (by rw [HE.out.2]; have := SUM.out; omega))
        clear r5 z5 b5
        refine HS5.out.mono ?_
        rintro e w6 ⟨rfl, hb6⟩
        have HT6 := Lib.hid (HT5.out.below hb6)
        have HX6 := Lib.hid (HX5.out.below hb6 HX5.out.lt)
        clear hb6
        go_wp2_with (first
          | (with_reducible refine wpList_store_row (o := ⟨none, .store _ (.tmp 10) _, _, _, _, _⟩) rfl 24 _ _ rfl w6.heap.size (u8s (hashS l1)) rfl rfl 24 _ (heap_alloc_new w6 _) SH1.out ?c2 (u8s_one _) ?_))
        case c2 => exact SE1.out
        generalize hW13 : World.setRow _ w6.heap.size _ = W13
        obtain ⟨r13, z13, b13⟩ := fresh_row w6 (u8s (List.replicate 32 0)) (u8s (hashS l1)) 24 W13 hW13.symm
        clear hW13
        have HT13 := Lib.hid (HT6.out.below b13)
        have HX13 := Lib.hid (HX6.out.below b13 HX6.out.lt)
        have HY13 := Lib.hid (show ArrB W13 w6.heap.size 24 (hashS l1) from r13)
        clear r13 z13 b13
        generalize w4.heap.size = bx at *
        generalize w6.heap.size = by' at *
        have hS : ∀ W : World, Below W13.heap.size W13 W → (W.rangeAt bx 0 (u8s (hashS l0)).toList ∧ W.rangeAt by' 0 (u8s (hashS l1)).toList) := fun W hb =>
          ⟨(HX13.out.below hb HX13.out.lt).range, (HY13.out.below hb HY13.out.lt).range⟩
        have HS := Lib.hid hS
        have HSD := Lib.hid (show (W13.drew.rangeAt bx 0 (u8s (hashS l0)).toList ∧ W13.drew.rangeAt by' 0 (u8s (hashS l1)).toList) from hS _ (Below.refl _ W13).drew)
        have hu := Tryd.underlying24
        have hiX : (Tryd.prog.info? 24).map (·.size) = some (u8s (hashS l0)).toList.length := by rw [info_h32, Array.length_toList, u8s_size, hashS_length]
        have hiY : (Tryd.prog.info? 24).map (·.size) = some (u8s (hashS l1)).toList.length := by rw [info_h32, Array.length_toList, u8s_size, hashS_length]
        have heX := eq_hash_same (hashS l0) (hashS_length _) (hashS_byt _)
        have heY := eq_hash_same (hashS l1) (hashS_length _) (hashS_byt _)
        have SUMA := Lib.hid (fun (W : World) (hb : Below W13.heap.size W13 W) => shasum_any l0 (.slice a0 len0 cap0) W (HT13.out.kt.below hb HT13.out.kt.pos) (HB0.out.kept (HT13.out.bel.trans (hb.mono HT13.out.bel.size))) (room_of _ _ _ HM.out.1 (by have := HM.out.2.2.1; omega)) (by rw [HE.out.1]; have := SUM.out; omega))
        have SUMB := Lib.hid (fun (W : World) (hb : Below W13.heap.size W13 W) => shasum_any l1 (.slice a1 len1 cap1) W (HT13.out.kt.below hb HT13.out.kt.pos) (HB1.out.kept (HT13.out.bel.trans (hb.mono HT13.out.bel.size))) (room_of _ _ _ HM.out.2.1 (by have := HM.out.2.2.2; omega)) (by rw [HE.out.2]; have := SUM.out; omega))
        have hlg : ∀ W : World, Below W13.heap.size W13 W → Calls Tryd.prog 20 #[.pointer (some ⟨g, 0, none⟩)] W fun e w' => e = .returned (.int .i64 (len0 : Int)) ∧ w' = W := fun W hb => by
          have := len_any g l0 W (HT13.out.hg.below hb HT13.out.lts.1)
          rwa [HE.out.1] at this
        have hlh : ∀ W : World, Below W13.heap.size W13 W → Calls Tryd.prog 20 #[.pointer (some ⟨h, 0, none⟩)] W fun e w' => e = .returned (.int .i64 (len1 : Int)) ∧ w' = W := fun W hb => by
          have := len_any h l1 W (HT13.out.hh.below hb HT13.out.lts.2)
          rwa [HE.out.2] at this
        have LENG := Lib.hid hlg
        have LENH := Lib.hid hlh
        clear hS hlg hlh
        refine wp_region_noPanic ?_
        refine wp_region_held_drew (S := fun w' => w'.rangeAt bx 0 (u8s (hashS l0)).toList ∧ w'.rangeAt by' 0 (u8s (hashS l1)).toList) (by kernel_rfl) HSD.out (fun hHeld => ?_)
        refine wpAnyH_take (i := 0) (oi := ⟨some 63, _, _, _, _, _⟩) (v := ?_) rfl (by kernel_rfl) (by decide +kernel) (by decide +kernel) (fun _ _ _ h => h) (Or.inl ⟨by rfl, ?_⟩) (by assumption) ?_
        rotate_left 1
        · (intro w' hSw; go_simp; try with_reducible rfl)
        try simp only [Act.put, List.setIfInBounds_toArray, List.set_cons_zero, List.set_cons_succ]
        refine wpAnyH_take (i := 1) (oi := ⟨some 64, _, _, _, _, _⟩) (v := ?_) rfl (by kernel_rfl) (by decide +kernel) (by decide +kernel) (fun _ _ _ h => h) (Or.inl ⟨by rfl, ?_⟩) (by assumption) ?_
        rotate_left 1
        · (intro w' hSw; go_simp; try with_reducible rfl)
        try simp only [Act.put, List.setIfInBounds_toArray, List.set_cons_zero, List.set_cons_succ]
        refine wpAnyH_take (i := 2) (oi := ⟨some 65, _, _, _, _, _⟩) (v := ?_) rfl (by kernel_rfl) (by decide +kernel) (by decide +kernel) (fun _ _ _ h => h) (Or.inl ⟨by rfl, ?_⟩) (by assumption) ?_
        rotate_left 1
        · (intro w' hSw; go_simp; try with_reducible rfl)
        try simp only [Act.put, List.setIfInBounds_toArray, List.set_cons_zero, List.set_cons_succ]
        refine wpAnyH_take (i := 3) (oi := ⟨some 66, _, _, _, _, _⟩) (v := ?_) rfl (by kernel_rfl) (by decide +kernel) (by decide +kernel) (fun _ _ _ h => h) (Or.inl ⟨by rfl, ?_⟩) (by assumption) ?_
        rotate_left 1
        · (intro w' hSw; go_simp; try with_reducible rfl)
        try simp only [Act.put, List.setIfInBounds_toArray, List.set_cons_zero, List.set_cons_succ]
        refine wpAnyH_take (i := 4) (oi := ⟨some 67, _, _, _, _, _⟩) (v := ?_) rfl (by kernel_rfl) (by decide +kernel) (by decide +kernel) (fun _ _ _ h => h) (Or.inl ⟨by rfl, ?_⟩) (by assumption) ?_
        rotate_left 1
        · (intro w' hSw; go_simp; try with_reducible rfl)
        try simp only [Act.put, List.setIfInBounds_toArray, List.set_cons_zero, List.set_cons_succ]
        refine wpAnyH_take (i := 5) (oi := ⟨some 68, _, _, _, _, _⟩) (v := ?_) rfl (by kernel_rfl) (by decide +kernel) (by decide +kernel) (fun _ _ _ h => h) (Or.inl ⟨by rfl, ?_⟩) (by assumption) ?_
        rotate_left 1
        · (intro w' hSw; go_simp; try with_reducible rfl)
        try simp only [Act.put, List.setIfInBounds_toArray, List.set_cons_zero, List.set_cons_succ]
        refine wpAnyH_take (i := 6) (oi := ⟨some 69, _, _, _, _, _⟩) (v := ?_) rfl (by kernel_rfl) (by decide +kernel) (by decide +kernel) (fun _ _ _ h => h) (Or.inl ⟨by rfl, ?_⟩) (by assumption) ?_
        rotate_left 1
        · (intro w' hSw; go_simp; try with_reducible rfl)
        try simp only [Act.put, List.setIfInBounds_toArray, List.set_cons_zero, List.set_cons_succ]
        refine wpAnyH_take (i := 7) (oi := ⟨some 70, _, _, _, _, _⟩) rfl (by kernel_rfl) (by decide +kernel) (by decide +kernel) (fun _ _ _ h => h) (yieldsIf_load_mid (by rfl) _ _ rfl (bx) 0 rfl (u8s (hashS l0)).toList _ (fun w' h => h.1) hu rfl hiX) (by assumption) ?_
        try simp only [Act.put, List.setIfInBounds_toArray, List.set_cons_zero, List.set_cons_succ, Array.toArray_toList]
        refine wpAnyH_take (i := 8) (oi := ⟨some 71, _, _, _, _, _⟩) (v := ?_) rfl (by kernel_rfl) (by decide +kernel) (by decide +kernel) (fun _ _ _ h => h) (Or.inl ⟨by rfl, ?_⟩) (by assumption) ?_
        rotate_left 1
        · (intro w' hSw; go_simp; try with_reducible rfl)
        try simp only [Act.put, List.setIfInBounds_toArray, List.set_cons_zero, List.set_cons_succ]
        refine wpAnyH_ready (rs := [9]) (by decide +kernel) (by simp) ?_
        refine AllReadyH.cons rfl (fun K hK => ?_) AllReadyH.nil
        go_simp
        go_at_call 11
        refine (SUMA.out W13.drew (Below.refl _ W13).drew).mono ?_
        rintro e w14 ⟨rfl, hb14⟩
        have Q14 := Lib.hid ((Below.refl W13.heap.size W13).drew.trans hb14)
        clear hb14
        go_wp2_with fail
        refine hK.out _ _ (HS.out _ Q14.out) (fun hHeld => ?_)
        clear hK K
        try simp only [Act.put, List.setIfInBounds_toArray, List.set_cons_zero, List.set_cons_succ]
        refine wpAnyH_take (i := 10) (oi := ⟨some 73, _, _, _, _, _⟩) (v := ?_) rfl (by kernel_rfl) (by decide +kernel) (by decide +kernel) (fun _ _ _ h => h) (Or.inl ⟨by rfl, ?_⟩) (by assumption) ?_
        rotate_left 1
        · (intro w' hSw; go_simp; try with_reducible rfl)
        try simp only [Act.put, List.setIfInBounds_toArray, List.set_cons_zero, List.set_cons_succ]
        refine wpAnyH_take (i := 11) (oi := ⟨some 74, _, _, _, _, _⟩) (v := ?_) rfl (by kernel_rfl) (by decide +kernel) (by decide +kernel) (fun _ _ _ h => h) (Or.inl ⟨by rfl, ?_⟩) (by assumption) ?_
        rotate_left 1
        · (intro w' hSw; go_simp; try with_reducible rfl)
        try simp only [Act.put, List.setIfInBounds_toArray, List.set_cons_zero, List.set_cons_succ]
        refine wpAnyH_take (i := 12) (oi := ⟨some 75, _, _, _, _, _⟩) (v := ?_) rfl (by kernel_rfl) (by decide +kernel) (by decide +kernel) (fun _ _ _ h => h) (Or.inl ⟨by rfl, ?_⟩) (by assumption) ?_
        rotate_left 1
        · (intro w' hSw; go_simp; try with_reducible rfl)
        try simp only [Act.put, List.setIfInBounds_toArray, List.set_cons_zero, List.set_cons_succ]
        refine wpAnyH_take (i := 13) (oi := ⟨some 76, _, _, _, _, _⟩) rfl (by kernel_rfl) (by decide +kernel) (by decide +kernel) (fun _ _ _ h => h) (yieldsIf_load_mid (by rfl) _ _ rfl (by') 0 rfl (u8s (hashS l1)).toList _ (fun w' h => h.2) hu rfl hiY) (by assumption) ?_
        try simp only [Act.put, List.setIfInBounds_toArray, List.set_cons_zero, List.set_cons_succ, Array.toArray_toList]
        refine wpAnyH_take (i := 14) (oi := ⟨some 77, _, _, _, _, _⟩) (v := ?_) rfl (by kernel_rfl) (by decide +kernel) (by decide +kernel) (fun _ _ _ h => h) (Or.inl ⟨by rfl, ?_⟩) (by assumption) ?_
        rotate_left 1
        · (intro w' hSw; go_simp; try with_reducible rfl)
        try simp only [Act.put, List.setIfInBounds_toArray, List.set_cons_zero, List.set_cons_succ]
        refine wpAnyH_ready (rs := [15]) (by decide +kernel) (by simp) ?_
        refine AllReadyH.cons rfl (fun K hK => ?_) AllReadyH.nil
        go_simp
        go_at_call 11
        refine (SUMB.out w14 Q14.out).mono ?_
        rintro e w16 ⟨rfl, hb16⟩
        have Q16 := Lib.hid (Q14.out.trans (hb16.mono Q14.out.size))
        clear hb16
        go_wp2_with fail
        refine hK.out _ _ (HS.out _ Q16.out) (fun hHeld => ?_)
        clear hK K
        try simp only [Act.put, List.setIfInBounds_toArray, List.set_cons_zero, List.set_cons_succ]
        refine wpAnyH_take (i := 16) (oi := ⟨some 79, _, _, _, _, _⟩) (v := ?_) rfl (by kernel_rfl) (by decide +kernel) (by decide +kernel) (fun _ _ _ h => h) (Or.inl ⟨by rfl, ?_⟩) (by assumption) ?_
        rotate_left 1
        · (intro w' hSw; go_simp; try with_reducible rfl)
        try simp only [Act.put, List.setIfInBounds_toArray, List.set_cons_zero, List.set_cons_succ]
        refine wpAnyH_take (i := 17) (oi := ⟨some 80, _, _, _, _, _⟩) (v := ?_) rfl (by kernel_rfl) (by decide +kernel) (by decide +kernel) (fun _ _ _ h => h) (Or.inl ⟨by rfl, ?_⟩) (by assumption) ?_
        rotate_left 1
        · (intro w' hSw; go_simp; try with_reducible rfl)
        try simp only [Act.put, List.setIfInBounds_toArray, List.set_cons_zero, List.set_cons_succ]
        refine wpAnyH_take (i := 18) (oi := ⟨some 81, _, _, _, _, _⟩) (v := ?_) rfl (by kernel_rfl) (by decide +kernel) (by decide +kernel) (fun _ _ _ h => h) (Or.inl ⟨by rfl, ?_⟩) (by assumption) ?_
        rotate_left 1
        · (intro w' hSw; go_simp; try with_reducible rfl)
        try simp only [Act.put, List.setIfInBounds_toArray, List.set_cons_zero, List.set_cons_succ]
        refine wpAnyH_take (i := 19) (oi := ⟨some 82, _, _, _, _, _⟩) (v := ?_) rfl (by kernel_rfl) (by decide +kernel) (by decide +kernel) (fun _ _ _ h => h) (Or.inl ⟨by rfl, ?_⟩) (by assumption) ?_
        rotate_left 1
        · (intro w' hSw; go_simp; try with_reducible rfl)
        try simp only [Act.put, List.setIfInBounds_toArray, List.set_cons_zero, List.set_cons_succ]
        refine wpAnyH_take (i := 21) (oi := ⟨some 84, _, _, _, _, _⟩) (v := ?_) rfl (by kernel_rfl) (by decide +kernel) (by decide +kernel) (fun _ _ _ h => h) (Or.inl ⟨by rfl, ?_⟩) (by assumption) ?_
        rotate_left 1
        · (intro w' hSw; go_simp; try with_reducible rfl)
        try simp only [Act.put, List.setIfInBounds_toArray, List.set_cons_zero, List.set_cons_succ]
        refine wpAnyH_take (i := 22) (oi := ⟨some 85, _, _, _, _, _⟩) (v := ?_) rfl (by kernel_rfl) (by decide +kernel) (by decide +kernel) (fun _ _ _ h => h) (Or.inl ⟨by rfl, ?_⟩) (by assumption) ?_
        rotate_left 1
        · (intro w' hSw; go_simp; try with_reducible rfl)
        try simp only [Act.put, List.setIfInBounds_toArray, List.set_cons_zero, List.set_cons_succ]
        refine wpAnyH_ready (rs := [20]) (by decide +kernel) (by simp) ?_
        refine AllReadyH.cons rfl (fun K hK => ?_) AllReadyH.nil
        go_simp
        go_at_call 20
        refine (LENG.out _ Q16.out).mono ?_
        rintro e w15 ⟨rfl, rfl⟩
        go_wp2_with fail
        refine hK.out _ _ (HS.out _ Q16.out) (fun hHeld => ?_)
        clear hK K
        try simp only [Act.put, List.setIfInBounds_toArray, List.set_cons_zero, List.set_cons_succ]
        refine wpAnyH_take (i := 23) (oi := ⟨some 86, _, _, _, _, _⟩) (v := ?_) rfl (by kernel_rfl) (by decide +kernel) (by decide +kernel) (fun _ _ _ h => h) (Or.inl ⟨by rfl, ?_⟩) (by assumption) ?_
        rotate_left 1
        · (intro w' hSw; go_simp; try with_reducible rfl)
        try simp only [Act.put, List.setIfInBounds_toArray, List.set_cons_zero, List.set_cons_succ]
        refine wpAnyH_take (i := 24) (oi := ⟨some 87, _, _, _, _, _⟩) (v := ?_) rfl (by kernel_rfl) (by decide +kernel) (by decide +kernel) (fun _ _ _ h => h) (Or.inl ⟨by rfl, ?_⟩) (by assumption) ?_
        rotate_left 1
        · (intro w' hSw; go_simp; try with_reducible rfl)
        try simp only [Act.put, List.setIfInBounds_toArray, List.set_cons_zero, List.set_cons_succ]
        refine wpAnyH_take (i := 25) (oi := ⟨some 88, _, _, _, _, _⟩) (v := ?_) rfl (by kernel_rfl) (by decide +kernel) (by decide +kernel) (fun _ _ _ h => h) (Or.inl ⟨by rfl, ?_⟩) (by assumption) ?_
        rotate_left 1
        · (intro w' hSw; go_simp; try with_reducible rfl)
        try simp only [Act.put, List.setIfInBounds_toArray, List.set_cons_zero, List.set_cons_succ]
        refine wpAnyH_take (i := 26) (oi := ⟨some 89, _, _, _, _, _⟩) (v := ?_) rfl (by kernel_rfl) (by decide +kernel) (by decide +kernel) (fun _ _ _ h => h) (Or.inl ⟨by rfl, ?_⟩) (by assumption) ?_
        rotate_left 1
        · (intro w' hSw; go_simp; try with_reducible rfl)
        try simp only [Act.put, List.setIfInBounds_toArray, List.set_cons_zero, List.set_cons_succ]
        refine wpAnyH_take (i := 28) (oi := ⟨some 91, _, _, _, _, _⟩) (v := ?_) rfl (by kernel_rfl) (by decide +kernel) (by decide +kernel) (fun _ _ _ h => h) (Or.inl ⟨by rfl, ?_⟩) (by assumption) ?_
        rotate_left 1
        · (intro w' hSw; go_simp; try with_reducible rfl)
        try simp only [Act.put, List.setIfInBounds_toArray, List.set_cons_zero, List.set_cons_succ]
        refine wpAnyH_take (i := 29) (oi := ⟨some 92, _, _, _, _, _⟩) (v := ?_) rfl (by kernel_rfl) (by decide +kernel) (by decide +kernel) (fun _ _ _ h => h) (Or.inl ⟨by rfl, ?_⟩) (by assumption) ?_
        rotate_left 1
        · (intro w' hSw; go_simp; try with_reducible rfl)
        try simp only [Act.put, List.setIfInBounds_toArray, List.set_cons_zero, List.set_cons_succ]
        refine wpAnyH_ready (rs := [27]) (by decide +kernel) (by simp) ?_
        refine AllReadyH.cons rfl (fun K hK => ?_) AllReadyH.nil
        go_simp
        go_at_call 20
        refine (LENH.out _ Q16.out).mono ?_
        rintro e w15 ⟨rfl, rfl⟩
        go_wp2_with fail
        refine hK.out _ _ (HS.out _ Q16.out) (fun hHeld => ?_)
        clear hK K
        try simp only [Act.put, List.setIfInBounds_toArray, List.set_cons_zero, List.set_cons_succ]
        refine wpAnyH_take (i := 30) (oi := ⟨some 93, _, _, _, _, _⟩) (v := ?_) rfl (by kernel_rfl) (by decide +kernel) (by decide +kernel) (fun _ _ _ h => h) (Or.inl ⟨by rfl, ?_⟩) (by assumption) ?_
        rotate_left 1
        · (intro w' hSw; go_simp; try with_reducible rfl)
        try simp only [Act.put, List.setIfInBounds_toArray, List.set_cons_zero, List.set_cons_succ]
        refine wpAnyH_take (i := 31) (oi := ⟨some 94, _, _, _, _, _⟩) (v := ?_) rfl (by kernel_rfl) (by decide +kernel) (by decide +kernel) (fun _ _ _ h => h) (Or.inl ⟨by rfl, ?_⟩) (by assumption) ?_
        rotate_left 1
        · (intro w' hSw; go_simp; try with_reducible rfl)
        try simp only [Act.put, List.setIfInBounds_toArray, List.set_cons_zero, List.set_cons_succ]
        refine wpAnyH_take (i := 32) (oi := ⟨some 4, _, _, _, _, _⟩) (v := ?_) rfl (by kernel_rfl) (by decide +kernel) (by decide +kernel) (fun _ _ _ h => h) (Or.inl ⟨by rfl, ?_⟩) (by assumption) ?_
        rotate_left 1
        · (intro w' hSw; go_simp; try with_reducible rfl)
        try simp only [Act.put, List.setIfInBounds_toArray, List.set_cons_zero, List.set_cons_succ]
        refine wpAnyH_done (by decide +kernel) ?_ _
        refine NoPanic.normal ?_
        go_wp2_with fail
        go_ret
        exact ⟨rfl, HT13.out.bel.trans (Q16.out.mono HT13.out.bel.size)⟩
  · have hcI : (len1 : Int) ≤ (len0 : Int) := by omega
    have hcn : len1 ≤ len0 := by omega
    have HMX := Lib.hid (show len0 ≤ len0 ∧ len1 ≤ len0 ∧ (len0 = len0 ∨ len0 = len1) by omega)
    have MI : (len0 : Int) ≤ 3000 := by omega
    go_enter Tryd.func8, Tryd.ntmps8
    go_wp2_with fail
    refine (alive2_any w HK.out).mono ?_
    rintro e w1 ⟨rfl, hb1⟩
    have HBE1 := Lib.hid hb1
    clear hb1
    go_wp2_with fail
    refine (new_any _).mono ?_
    rintro e w2 ⟨g, rfl, hg, hgl, hb2⟩
    have HG := Lib.hid (And.intro hg (And.intro hgl hb2))
    clear hg hgl hb2
    go_wp2_with fail
    refine (new_any _).mono ?_
    rintro e w3 ⟨h, rfl, hh, hhl, hb3⟩
    have hgh : g < w2.heap.size := HG.out.1.lt
    have HT := Lib.hid (show Two w w3 g h [] [] from ⟨(HBE1.out.trans (HG.out.2.2.mono HBE1.out.size)).trans (hb3.mono (Nat.le_trans HBE1.out.size HG.out.2.2.size)), HK.out.below ((HBE1.out.trans (HG.out.2.2.mono HBE1.out.size)).trans (hb3.mono (Nat.le_trans HBE1.out.size HG.out.2.2.size))) HPOS.out, HG.out.1.below hb3 hgh, hh, Nat.le_trans HBE1.out.size HG.out.2.1, Nat.le_trans (Nat.le_trans HBE1.out.size HG.out.2.2.size) hhl, by omega⟩)
    have sumI : (len0 : Int) + (len1 : Int) ≤ 3000 := by omega
    have SUM := Lib.hid (show len0 + len1 ≤ 3000 by omega)
    clear hh hhl hb3 hgh hbig
    go_wp2_with fail
    go_loopw [27] (fun v27 wr => ∃ i : Nat, i ≤ len0 ∧ v27 = .int .i64 (i : Nat) ∧ Two w wr g h (l0.take i) (l1.take i)) (fun v _ => len0 - (intOf v).toNat)
    case atStart => exact ⟨0, by omega, rfl, by simpa using HT.out⟩
    case round =>
      obtain ⟨i, hi, rfl, hT⟩ := hrel
      by_cases hlt : i < len0
      · have hi0 : (0 : Int) ≤ (i : Int) := by omega
        have hiM : (i : Int) < (len0 : Int) := by omega
        have HLT := Lib.hid hlt
        clear hlt hi
        have HT0 := Lib.hid hT
        clear hT
        by_cases hlt0 : i < len0
        · by_cases hlt1 : i < len1
          · obtain ⟨c0, hsA0, _, _, hbs0⟩ := slice_seg w a0 len0 cap0 i (i + 1) l0 HB0.out HE.out.1 (by omega) (by omega) HM.out.1
            rw [Int.natCast_add, show i + 1 - i = 1 by omega] at hsA0
            rw [show i + 1 - i = 1 by omega] at hbs0
            have hs0 : ∀ W', (Instr.slice 22 (.slice a0 len0 cap0) (some (.int .i64 (i : Int))) (some (.int .i64 ((i : Int) + 1))) none).run Tryd.prog W' = .ok (.slice c0 1 (cap0 - i)) W' := hsA0
            clear hsA0
            have HBS0 := Lib.hid hbs0
            clear hbs0
            obtain ⟨c1, hsA1, _, _, hbs1⟩ := slice_seg w a1 len1 cap1 i (i + 1) l1 HB1.out HE.out.2 (by omega) (by omega) HM.out.2.1
            rw [Int.natCast_add, show i + 1 - i = 1 by omega] at hsA1
            rw [show i + 1 - i = 1 by omega] at hbs1
            have hs1 : ∀ W', (Instr.slice 22 (.slice a1 len1 cap1) (some (.int .i64 (i : Int))) (some (.int .i64 ((i : Int) + 1))) none).run Tryd.prog W' = .ok (.slice c1 1 (cap1 - i)) W' := hsA1
            clear hsA1
            have HBS1 := Lib.hid hbs1
            clear hbs1
            have hi0I : (i : Int) < (len0 : Int) := by omega
            have hi1I : (i : Int) < (len1 : Int) := by omega
            have hw5 := write_any g (l0.take i) ((l0.drop i).take 1) _ wr HT0.out.hg HT0.out.kt (HT0.out.pos HPOS.out).1 (HBS0.out.kept HT0.out.bel) (room_of _ _ _ (by have := HM.out.1; omega) (by have := HM.out.2.2.1; omega)) (off_old HBS0.out HT0.out.gl) (by rw [List.length_take, List.length_take, List.length_drop, HE.out.1]; have := SUM.out; omega)
            have HW5 := Lib.hid hw5
            clear hw5
            clear hlt0 hlt1
            go_wp2_with fail
            refine HW5.out.mono ?_
            rintro e v5 ⟨rfl, hr5, hg5⟩
            have e5 : l0.take i ++ (l0.drop i).take 1 = l0.take (i + 1) := by rw [← List.take_add]
            rw [e5] at hr5
            have HT1 := Lib.hid (HT0.out.left HPOS.out hg5 hr5.has)
            clear hr5 hg5 e5
            have hw6 := write_any h (l1.take i) ((l1.drop i).take 1) _ v5 HT1.out.hh HT1.out.kt (HT1.out.pos HPOS.out).2 (HBS1.out.kept HT1.out.bel) (room_of _ _ _ (by have := HM.out.2.1; omega) (by have := HM.out.2.2.2; omega)) (off_old HBS1.out HT1.out.hl) (by rw [List.length_take, List.length_take, List.length_drop, HE.out.2]; have := SUM.out; omega)
            have HW6 := Lib.hid hw6
            clear hw6
            go_wp2_with fail
            refine HW6.out.mono ?_
            rintro e v6 ⟨rfl, hr6, hg6⟩
            have e6 : l1.take i ++ (l1.drop i).take 1 = l1.take (i + 1) := by rw [← List.take_add]
            rw [e6] at hr6
            have HT2 := Lib.hid (HT1.out.right HPOS.out hg6 hr6.has)
            clear hr6 hg6 e6
            go_wp2_with fail
            go_roundw
            case rel => exact ⟨i + 1, by have := HLT.out; omega, by go_num, HT2.out⟩
            case measure => simp [intOf]; omega
          · obtain ⟨c0, hsA0, _, _, hbs0⟩ := slice_seg w a0 len0 cap0 i (i + 1) l0 HB0.out HE.out.1 (by omega) (by omega) HM.out.1
            rw [Int.natCast_add, show i + 1 - i = 1 by omega] at hsA0
            rw [show i + 1 - i = 1 by omega] at hbs0
            have hs0 : ∀ W', (Instr.slice 22 (.slice a0 len0 cap0) (some (.int .i64 (i : Int))) (some (.int .i64 ((i : Int) + 1))) none).run Tryd.prog W' = .ok (.slice c0 1 (cap0 - i)) W' := hsA0
            clear hsA0
            have HBS0 := Lib.hid hbs0
            clear hbs0
            have hi0I : (i : Int) < (len0 : Int) := by omega
            have hi1I : (len1 : Int) ≤ (i : Int) := by omega
            have HTK := Lib.hid (show l1.take i = l1.take (i + 1) by rw [List.take_of_length_le (by rw [HE.out.2]; omega), List.take_of_length_le (by rw [HE.out.2]; omega)])
            have hw5 := write_any g (l0.take i) ((l0.drop i).take 1) _ wr HT0.out.hg HT0.out.kt (HT0.out.pos HPOS.out).1 (HBS0.out.kept HT0.out.bel) (room_of _ _ _ (by have := HM.out.1; omega) (by have := HM.out.2.2.1; omega)) (off_old HBS0.out HT0.out.gl) (by rw [List.length_take, List.length_take, List.length_drop, HE.out.1]; have := SUM.out; omega)
            have HW5 := Lib.hid hw5
            clear hw5
            clear hlt0 hlt1
            go_wp2_with fail
            refine HW5.out.mono ?_
            rintro e v5 ⟨rfl, hr5, hg5⟩
            have e5 : l0.take i ++ (l0.drop i).take 1 = l0.take (i + 1) := by rw [← List.take_add]
            rw [e5] at hr5
            have HT1 := Lib.hid (HT0.out.left HPOS.out hg5 hr5.has)
            clear hr5 hg5 e5
            go_wp2_with fail
            go_roundw
            case rel => exact ⟨i + 1, by have := HLT.out; omega, by go_num, by have := HT1.out; rwa [HTK.out] at this⟩
            case measure => simp [intOf]; omega
        · omega
      · have hge : (len0 : Int) ≤ (i : Int) := by omega
        have htk0 : l0.take i = l0 := List.take_of_length_le (by rw [HE.out.1]; have := HMX.out.1; omega)
        have htk1 : l1.take i = l1 := List.take_of_length_le (by rw [HE.out.2]; have := HMX.out.2.1; omega)
        rw [htk0, htk1] at hT
        have HT2 := Lib.hid hT
        have HS2 := Lib.hid (sum_any g l0 wr hT.hg hT.kt (by rw [HE.out.1]; have := SUM.out; omega))
        clear hT htk0 htk1 hlt hi
        go_wp2_with fail
        refine HS2.out.mono ?_
        rintro e w4 ⟨rfl, hb4⟩
        have HT4 := Lib.hid (HT2.out.below hb4)
        have SH0 := Lib.hid (size_h32 (hashS l0) (hashS_length l0))
        have SH1 := Lib.hid (size_h32 (hashS l1) (hashS_length l1))
        have SE := Lib.hid (show (u8s (List.replicate 32 0)).size = (u8s (hashS l0)).size by rw [u8s_size, u8s_size, hashS_length]; rfl)
        have SE1 := Lib.hid (show (u8s (List.replicate 32 0)).size = (u8s (hashS l1)).size by rw [u8s_size, u8s_size, hashS_length]; rfl)
        clear hb4
        go_wp2_with (first
          | (with_reducible refine wpList_store_row (o := ⟨none, .store _ (.tmp 8) _, _, _, _, _⟩) rfl 24 _ _ rfl w4.heap.size (u8s (hashS l0)) rfl rfl 24 _ (heap_alloc_new w4 _) SH0.out ?c1 (u8s_one _) ?_))
        case c1 => exact SE.out
        generalize hW5 : World.setRow _ w4.heap.size _ = W5
        obtain ⟨r5, z5, b5⟩ := fresh_row w4 (u8s (List.replicate 32 0)) (u8s (hashS l0)) 24 W5 hW5.symm
        clear hW5
        have HT5 := Lib.hid (HT4.out.below b5)
        have HX5 := Lib.hid (show ArrB W5 w4.heap.size 24 (hashS l0) from r5)
        have HS5 := Lib.hid (sum_any h l1 W5 HT5.out.hh HT5.out.kt (by rw [HE.out.2]; have := SUM.out; omega))
        clear r5 z5 b5
        refine HS5.out.mono ?_
        rintro e w6 ⟨rfl, hb6⟩
        have HT6 := Lib.hid (HT5.out.below hb6)
        have HX6 := Lib.hid (HX5.out.below hb6 HX5.out.lt)
        clear hb6
        go_wp2_with (first
          | (with_reducible refine wpList_store_row (o := ⟨none, .store _ (.tmp 10) _, _, _, _, _⟩) rfl 24 _ _ rfl w6.heap.size (u8s (hashS l1)) rfl rfl 24 _ (heap_alloc_new w6 _) SH1.out ?c2 (u8s_one _) ?_))
        case c2 => exact SE1.out
        generalize hW13 : World.setRow _ w6.heap.size _ = W13
        obtain ⟨r13, z13, b13⟩ := fresh_row w6 (u8s (List.replicate 32 0)) (u8s (hashS l1)) 24 W13 hW13.symm
        clear hW13
        have HT13 := Lib.hid (HT6.out.below b13)
        have HX13 := Lib.hid (HX6.out.below b13 HX6.out.lt)
        have HY13 := Lib.hid (show ArrB W13 w6.heap.size 24 (hashS l1) from r13)
        clear r13 z13 b13
        generalize w4.heap.size = bx at *
        generalize w6.heap.size = by' at *
        have hS : ∀ W : World, Below W13.heap.size W13 W → (W.rangeAt bx 0 (u8s (hashS l0)).toList ∧ W.rangeAt by' 0 (u8s (hashS l1)).toList) := fun W hb =>
          ⟨(HX13.out.below hb HX13.out.lt).range, (HY13.out.below hb HY13.out.lt).range⟩
        have HS := Lib.hid hS
        have HSD := Lib.hid (show (W13.drew.rangeAt bx 0 (u8s (hashS l0)).toList ∧ W13.drew.rangeAt by' 0 (u8s (hashS l1)).toList) from hS _ (Below.refl _ W13).drew)
        have hu := Tryd.underlying24
        have hiX : (Tryd.prog.info? 24).map (·.size) = some (u8s (hashS l0)).toList.length := by rw [info_h32, Array.length_toList, u8s_size, hashS_length]
        have hiY : (Tryd.prog.info? 24).map (·.size) = some (u8s (hashS l1)).toList.length := by rw [info_h32, Array.length_toList, u8s_size, hashS_length]
        have heX := eq_hash_same (hashS l0) (hashS_length _) (hashS_byt _)
        have heY := eq_hash_same (hashS l1) (hashS_length _) (hashS_byt _)
        have SUMA := Lib.hid (fun (W : World) (hb : Below W13.heap.size W13 W) => shasum_any l0 (.slice a0 len0 cap0) W (HT13.out.kt.below hb HT13.out.kt.pos) (HB0.out.kept (HT13.out.bel.trans (hb.mono HT13.out.bel.size))) (room_of _ _ _ HM.out.1 (by have := HM.out.2.2.1; omega)) (by rw [HE.out.1]; have := SUM.out; omega))
        have SUMB := Lib.hid (fun (W : World) (hb : Below W13.heap.size W13 W) => shasum_any l1 (.slice a1 len1 cap1) W (HT13.out.kt.below hb HT13.out.kt.pos) (HB1.out.kept (HT13.out.bel.trans (hb.mono HT13.out.bel.size))) (room_of _ _ _ HM.out.2.1 (by have := HM.out.2.2.2; omega)) (by rw [HE.out.2]; have := SUM.out; omega))
        have hlg : ∀ W : World, Below W13.heap.size W13 W → Calls Tryd.prog 20 #[.pointer (some ⟨g, 0, none⟩)] W fun e w' => e = .returned (.int .i64 (len0 : Int)) ∧ w' = W := fun W hb => by
          have := len_any g l0 W (HT13.out.hg.below hb HT13.out.lts.1)
          rwa [HE.out.1] at this
        have hlh : ∀ W : World, Below W13.heap.size W13 W → Calls Tryd.prog 20 #[.pointer (some ⟨h, 0, none⟩)] W fun e w' => e = .returned (.int .i64 (len1 : Int)) ∧ w' = W := fun W hb => by
          have := len_any h l1 W (HT13.out.hh.below hb HT13.out.lts.2)
          rwa [HE.out.2] at this
        have LENG := Lib.hid hlg
        have LENH := Lib.hid hlh
        clear hS hlg hlh
        refine wp_region_noPanic ?_
        refine wp_region_held_drew (S := fun w' => w'.rangeAt bx 0 (u8s (hashS l0)).toList ∧ w'.rangeAt by' 0 (u8s (hashS l1)).toList) (by kernel_rfl) HSD.out (fun hHeld => ?_)
        refine wpAnyH_take (i := 0) (oi := ⟨some 63, _, _, _, _, _⟩) (v := ?_) rfl (by kernel_rfl) (by decide +kernel) (by decide +kernel) (fun _ _ _ h => h) (Or.inl ⟨by rfl, ?_⟩) (by assumption) ?_
        rotate_left 1
        · (intro w' hSw; go_simp; try with_reducible rfl)
        try simp only [Act.put, List.setIfInBounds_toArray, List.set_cons_zero, List.set_cons_succ]
        refine wpAnyH_take (i := 1) (oi := ⟨some 64, _, _, _, _, _⟩) (v := ?_) rfl (by kernel_rfl) (by decide +kernel) (by decide +kernel) (fun _ _ _ h => h) (Or.inl ⟨by rfl, ?_⟩) (by assumption) ?_
        rotate_left 1
        · (intro w' hSw; go_simp; try with_reducible rfl)
        try simp only [Act.put, List.setIfInBounds_toArray, List.set_cons_zero, List.set_cons_succ]
        refine wpAnyH_take (i := 2) (oi := ⟨some 65, _, _, _, _, _⟩) (v := ?_) rfl (by kernel_rfl) (by decide +kernel) (by decide +kernel) (fun _ _ _ h => h) (Or.inl ⟨by rfl, ?_⟩) (by assumption) ?_
        rotate_left 1
        · (intro w' hSw; go_simp; try with_reducible rfl)
        try simp only [Act.put, List.setIfInBounds_toArray, List.set_cons_zero, List.set_cons_succ]
        refine wpAnyH_take (i := 3) (oi := ⟨some 66, _, _, _, _, _⟩) (v := ?_) rfl (by kernel_rfl) (by decide +kernel) (by decide +kernel) (fun _ _ _ h => h) (Or.inl ⟨by rfl, ?_⟩) (by assumption) ?_
        rotate_left 1
        · (intro w' hSw; go_simp; try with_reducible rfl)
        try simp only [Act.put, List.setIfInBounds_toArray, List.set_cons_zero, List.set_cons_succ]
        refine wpAnyH_take (i := 4) (oi := ⟨some 67, _, _, _, _, _⟩) (v := ?_) rfl (by kernel_rfl) (by decide +kernel) (by decide +kernel) (fun _ _ _ h => h) (Or.inl ⟨by rfl, ?_⟩) (by assumption) ?_
        rotate_left 1
        · (intro w' hSw; go_simp; try with_reducible rfl)
        try simp only [Act.put, List.setIfInBounds_toArray, List.set_cons_zero, List.set_cons_succ]
        refine wpAnyH_take (i := 5) (oi := ⟨some 68, _, _, _, _, _⟩) (v := ?_) rfl (by kernel_rfl) (by decide +kernel) (by decide +kernel) (fun _ _ _ h => h) (Or.inl ⟨by rfl, ?_⟩) (by assumption) ?_
        rotate_left 1
        · (intro w' hSw; go_simp; try with_reducible rfl)
        try simp only [Act.put, List.setIfInBounds_toArray, List.set_cons_zero, List.set_cons_succ]
        refine wpAnyH_take (i := 6) (oi := ⟨some 69, _, _, _, _, _⟩) (v := ?_) rfl (by kernel_rfl) (by decide +kernel) (by decide +kernel) (fun _ _ _ h => h) (Or.inl ⟨by rfl, ?_⟩) (by assumption) ?_
        rotate_left 1
        · (intro w' hSw; go_simp; try with_reducible rfl)
        try simp only [Act.put, List.setIfInBounds_toArray, List.set_cons_zero, List.set_cons_succ]
        refine wpAnyH_take (i := 7) (oi := ⟨some 70, _, _, _, _, _⟩) rfl (by kernel_rfl) (by decide +kernel) (by decide +kernel) (fun _ _ _ h => h) (yieldsIf_load_mid (by rfl) _ _ rfl (bx) 0 rfl (u8s (hashS l0)).toList _ (fun w' h => h.1) hu rfl hiX) (by assumption) ?_
        try simp only [Act.put, List.setIfInBounds_toArray, List.set_cons_zero, List.set_cons_succ, Array.toArray_toList]
        refine wpAnyH_take (i := 8) (oi := ⟨some 71, _, _, _, _, _⟩) (v := ?_) rfl (by kernel_rfl) (by decide +kernel) (by decide +kernel) (fun _ _ _ h => h) (Or.inl ⟨by rfl, ?_⟩) (by assumption) ?_
        rotate_left 1
        · (intro w' hSw; go_simp; try with_reducible rfl)
        try simp only [Act.put, List.setIfInBounds_toArray, List.set_cons_zero, List.set_cons_succ]
        refine wpAnyH_ready (rs := [9]) (by decide +kernel) (by simp) ?_
        refine AllReadyH.cons rfl (fun K hK => ?_) AllReadyH.nil
        go_simp
        go_at_call 11
        refine (SUMA.out W13.drew (Below.refl _ W13).drew).mono ?_
        rintro e w14 ⟨rfl, hb14⟩
        have Q14 := Lib.hid ((Below.refl W13.heap.size W13).drew.trans hb14)
        clear hb14
        go_wp2_with fail
        refine hK.out _ _ (HS.out _ Q14.out) (fun hHeld => ?_)
        clear hK K
        try simp only [Act.put, List.setIfInBounds_toArray, List.set_cons_zero, List.set_cons_succ]
        refine wpAnyH_take (i := 10) (oi := ⟨some 73, _, _, _, _, _⟩) (v := ?_) rfl (by kernel_rfl) (by decide +kernel) (by decide +kernel) (fun _ _ _ h => h) (Or.inl ⟨by rfl, ?_⟩) (by assumption) ?_
        rotate_left 1
        · (intro w' hSw; go_simp; try with_reducible rfl)
        try simp only [Act.put, List.setIfInBounds_toArray, List.set_cons_zero, List.set_cons_succ]
        refine wpAnyH_take (i := 11) (oi := ⟨some 74, _, _, _, _, _⟩) (v := ?_) rfl (by kernel_rfl) (by decide +kernel) (by decide +kernel) (fun _ _ _ h => h) (Or.inl ⟨by rfl, ?_⟩) (by assumption) ?_
        rotate_left 1
        · (intro w' hSw; go_simp; try with_reducible rfl)
        try simp only [Act.put, List.setIfInBounds_toArray, List.set_cons_zero, List.set_cons_succ]
        refine wpAnyH_take (i := 12) (oi := ⟨some 75, _, _, _, _, _⟩) (v := ?_) rfl (by kernel_rfl) (by decide +kernel) (by decide +kernel) (fun _ _ _ h => h) (Or.inl ⟨by rfl, ?_⟩) (by assumption) ?_
        rotate_left 1
        · (intro w' hSw; go_simp; try with_reducible rfl)
        try simp only [Act.put, List.setIfInBounds_toArray, List.set_cons_zero, List.set_cons_succ]
        refine wpAnyH_take (i := 13) (oi := ⟨some 76, _, _, _, _, _⟩) rfl (by kernel_rfl) (by decide +kernel) (by decide +kernel) (fun _ _ _ h => h) (yieldsIf_load_mid (by rfl) _ _ rfl (by') 0 rfl (u8s (hashS l1)).toList _ (fun w' h => h.2) hu rfl hiY) (by assumption) ?_
        try simp only [Act.put, List.setIfInBounds_toArray, List.set_cons_zero, List.set_cons_succ, Array.toArray_toList]
        refine wpAnyH_take (i := 14) (oi := ⟨some 77, _, _, _, _, _⟩) (v := ?_) rfl (by kernel_rfl) (by decide +kernel) (by decide +kernel) (fun _ _ _ h => h) (Or.inl ⟨by rfl, ?_⟩) (by assumption) ?_
        rotate_left 1
        · (intro w' hSw; go_simp; try with_reducible rfl)
        try simp only [Act.put, List.setIfInBounds_toArray, List.set_cons_zero, List.set_cons_succ]
        refine wpAnyH_ready (rs := [15]) (by decide +kernel) (by simp) ?_
        refine AllReadyH.cons rfl (fun K hK => ?_) AllReadyH.nil
        go_simp
        go_at_call 11
        refine (SUMB.out w14 Q14.out).mono ?_
        rintro e w16 ⟨rfl, hb16⟩
        have Q16 := Lib.hid (Q14.out.trans (hb16.mono Q14.out.size))
        clear hb16
        go_wp2_with fail
        refine hK.out _ _ (HS.out _ Q16.out) (fun hHeld => ?_)
        clear hK K
        try simp only [Act.put, List.setIfInBounds_toArray, List.set_cons_zero, List.set_cons_succ]
        refine wpAnyH_take (i := 16) (oi := ⟨some 79, _, _, _, _, _⟩) (v := ?_) rfl (by kernel_rfl) (by decide +kernel) (by decide +kernel) (fun _ _ _ h => h) (Or.inl ⟨by rfl, ?_⟩) (by assumption) ?_
        rotate_left 1
        · (intro w' hSw; go_simp; try with_reducible rfl)
        try simp only [Act.put, List.setIfInBounds_toArray, List.set_cons_zero, List.set_cons_succ]
        refine wpAnyH_take (i := 17) (oi := ⟨some 80, _, _, _, _, _⟩) (v := ?_) rfl (by kernel_rfl) (by decide +kernel) (by decide +kernel) (fun _ _ _ h => h) (Or.inl ⟨by rfl, ?_⟩) (by assumption) ?_
        rotate_left 1
        · (intro w' hSw; go_simp; try with_reducible rfl)
        try simp only [Act.put, List.setIfInBounds_toArray, List.set_cons_zero, List.set_cons_succ]
        refine wpAnyH_take (i := 18) (oi := ⟨some 81, _, _, _, _, _⟩) (v := ?_) rfl (by kernel_rfl) (by decide +kernel) (by decide +kernel) (fun _ _ _ h => h) (Or.inl ⟨by rfl, ?_⟩) (by assumption) ?_
        rotate_left 1
        · (intro w' hSw; go_simp; try with_reducible rfl)
        try simp only [Act.put, List.setIfInBounds_toArray, List.set_cons_zero, List.set_cons_succ]
        refine wpAnyH_take (i := 19) (oi := ⟨some 82, _, _, _, _, _⟩) (v := ?_) rfl (by kernel_rfl) (by decide +kernel) (by decide +kernel) (fun _ _ _ h => h) (Or.inl ⟨by rfl, ?_⟩) (by assumption) ?_
        rotate_left 1
        · (intro w' hSw; go_simp; try with_reducible rfl)
        try simp only [Act.put, List.setIfInBounds_toArray, List.set_cons_zero, List.set_cons_succ]
        refine wpAnyH_take (i := 21) (oi := ⟨some 84, _, _, _, _, _⟩) (v := ?_) rfl (by kernel_rfl) (by decide +kernel) (by decide +kernel) (fun _ _ _ h => h) (Or.inl ⟨by rfl, ?_⟩) (by assumption) ?_
        rotate_left 1
        · (intro w' hSw; go_simp; try with_reducible rfl)
        try simp only [Act.put, List.setIfInBounds_toArray, List.set_cons_zero, List.set_cons_succ]
        refine wpAnyH_take (i := 22) (oi := ⟨some 85, _, _, _, _, _⟩) (v := ?_) rfl (by kernel_rfl) (by decide +kernel) (by decide +kernel) (fun _ _ _ h => h) (Or.inl ⟨by rfl, ?_⟩) (by assumption) ?_
        rotate_left 1
        · (intro w' hSw; go_simp; try with_reducible rfl)
        try simp only [Act.put, List.setIfInBounds_toArray, List.set_cons_zero, List.set_cons_succ]
        refine wpAnyH_ready (rs := [20]) (by decide +kernel) (by simp) ?_
        refine AllReadyH.cons rfl (fun K hK => ?_) AllReadyH.nil
        go_simp
        go_at_call 20
        refine (LENG.out _ Q16.out).mono ?_
        rintro e w15 ⟨rfl, rfl⟩
        go_wp2_with fail
        refine hK.out _ _ (HS.out _ Q16.out) (fun hHeld => ?_)
        clear hK K
        try simp only [Act.put, List.setIfInBounds_toArray, List.set_cons_zero, List.set_cons_succ]
        refine wpAnyH_take (i := 23) (oi := ⟨some 86, _, _, _, _, _⟩) (v := ?_) rfl (by kernel_rfl) (by decide +kernel) (by decide +kernel) (fun _ _ _ h => h) (Or.inl ⟨by rfl, ?_⟩) (by assumption) ?_
        rotate_left 1
        · (intro w' hSw; go_simp; try with_reducible rfl)
        try simp only [Act.put, List.setIfInBounds_toArray, List.set_cons_zero, List.set_cons_succ]
        refine wpAnyH_take (i := 24) (oi := ⟨some 87, _, _, _, _, _⟩) (v := ?_) rfl (by kernel_rfl) (by decide +kernel) (by decide +kernel) (fun _ _ _ h => h) (Or.inl ⟨by rfl, ?_⟩) (by assumption) ?_
        rotate_left 1
        · (intro w' hSw; go_simp; try with_reducible rfl)
        try simp only [Act.put, List.setIfInBounds_toArray, List.set_cons_zero, List.set_cons_succ]
        refine wpAnyH_take (i := 25) (oi := ⟨some 88, _, _, _, _, _⟩) (v := ?_) rfl (by kernel_rfl) (by decide +kernel) (by decide +kernel) (fun _ _ _ h => h) (Or.inl ⟨by rfl, ?_⟩) (by assumption) ?_
        rotate_left 1
        · (intro w' hSw; go_simp; try with_reducible rfl)
        try simp only [Act.put, List.setIfInBounds_toArray, List.set_cons_zero, List.set_cons_succ]
        refine wpAnyH_take (i := 26) (oi := ⟨some 89, _, _, _, _, _⟩) (v := ?_) rfl (by kernel_rfl) (by decide +kernel) (by decide +kernel) (fun _ _ _ h => h) (Or.inl ⟨by rfl, ?_⟩) (by assumption) ?_
        rotate_left 1
        · (intro w' hSw; go_simp; try with_reducible rfl)
        try simp only [Act.put, List.setIfInBounds_toArray, List.set_cons_zero, List.set_cons_succ]
        refine wpAnyH_take (i := 28) (oi := ⟨some 91, _, _, _, _, _⟩) (v := ?_) rfl (by kernel_rfl) (by decide +kernel) (by decide +kernel) (fun _ _ _ h => h) (Or.inl ⟨by rfl, ?_⟩) (by assumption) ?_
        rotate_left 1
        · (intro w' hSw; go_simp; try with_reducible rfl)
        try simp only [Act.put, List.setIfInBounds_toArray, List.set_cons_zero, List.set_cons_succ]
        refine wpAnyH_take (i := 29) (oi := ⟨some 92, _, _, _, _, _⟩) (v := ?_) rfl (by kernel_rfl) (by decide +kernel) (by decide +kernel) (fun _ _ _ h => h) (Or.inl ⟨by rfl, ?_⟩) (by assumption) ?_
        rotate_left 1
        · (intro w' hSw; go_simp; try with_reducible rfl)
        try simp only [Act.put, List.setIfInBounds_toArray, List.set_cons_zero, List.set_cons_succ]
        refine wpAnyH_ready (rs := [27]) (by decide +kernel) (by simp) ?_
        refine AllReadyH.cons rfl (fun K hK => ?_) AllReadyH.nil
        go_simp
        go_at_call 20
        refine (LENH.out _ Q16.out).mono ?_
        rintro e w15 ⟨rfl, rfl⟩
        go_wp2_with fail
        refine hK.out _ _ (HS.out _ Q16.out) (fun hHeld => ?_)
        clear hK K
        try simp only [Act.put, List.setIfInBounds_toArray, List.set_cons_zero, List.set_cons_succ]
        refine wpAnyH_take (i := 30) (oi := ⟨some 93, _, _, _, _, _⟩) (v := ?_) rfl (by kernel_rfl) (by decide +kernel) (by decide +kernel) (fun _ _ _ h => h) (Or.inl ⟨by rfl, ?_⟩) (by assumption) ?_
        rotate_left 1
        · (intro w' hSw; go_simp; try with_reducible rfl)
        try simp only [Act.put, List.setIfInBounds_toArray, List.set_cons_zero, List.set_cons_succ]
        refine wpAnyH_take (i := 31) (oi := ⟨some 94, _, _, _, _, _⟩) (v := ?_) rfl (by kernel_rfl) (by decide +kernel) (by decide +kernel) (fun _ _ _ h => h) (Or.inl ⟨by rfl, ?_⟩) (by assumption) ?_
        rotate_left 1
        · (intro w' hSw; go_simp; try with_reducible rfl)
        try simp only [Act.put, List.setIfInBounds_toArray, List.set_cons_zero, List.set_cons_succ]
        refine wpAnyH_take (i := 32) (oi := ⟨some 4, _, _, _, _, _⟩) (v := ?_) rfl (by kernel_rfl) (by decide +kernel) (by decide +kernel) (fun _ _ _ h => h) (Or.inl ⟨by rfl, ?_⟩) (by assumption) ?_
        rotate_left 1
        · (intro w' hSw; go_simp; try with_reducible rfl)
        try simp only [Act.put, List.setIfInBounds_toArray, List.set_cons_zero, List.set_cons_succ]
        refine wpAnyH_done (by decide +kernel) ?_ _
        refine NoPanic.normal ?_
        go_wp2_with fail
        go_ret
        exact ⟨rfl, HT13.out.bel.trans (Q16.out.mono HT13.out.bel.size)⟩
set_option maxRecDepth 100000 in
theorem lifted (os : Os) (started : os.Started) (H : Type) (enc : TypeId × Value → H) :
    ReturnsInHanded {} Tryd.checked os 8 .any (fun w args => (Rows.shaApartSpec.pre enc Tryd.prog Tryd.f8 [] false w args ∧ laidMetH Tryd.prog [("banyan/sha.roundNumbers", Rows.laid_banyan_sha_roundNumbers)] w) ∧ sizedMet enc Tryd.prog Tryd.f8 (OpenSpec.ofChange Rows.shaApartSpec) false w args)
      (Rows.shaApartSpec.post enc Tryd.prog Tryd.f8 false true false false) := by
  refine returnsInHanded_of_change_and (C := Tryd.checked) (X := fun w _ => laidMetH Tryd.prog [("banyan/sha.roundNumbers", Rows.laid_banyan_sha_roundNumbers)] w) (fun _ _ _ hh h => h.of_heap hh) own started (by kernel_rfl) Tryd.func8
    (ChangeSpec.witness_shaped (enc := enc) (C := Tryd.checked) (os := os) (X := fun w _ => laidMetH Tryd.prog [("banyan/sha.roundNumbers", Rows.laid_banyan_sha_roundNumbers)] w) false (World.doorLaid Tryd.prog 400 os) #[.slice none 0 0, .slice none 0 0] 8 rfl (World.shaped_of_RefB (by kernel_rfl) (by kernel_rfl)) (by kernel_rfl) (by kernel_rfl) (by kernel_rfl) (door_met os _)) ?_
  intro W base args ds gs before hval0 hW _ hsz0 hL _
  have hval : ∀ (j : Nat) t v, Tryd.f8.params[j]? = some t → args[j]? = some v → Value.okWide Tryd.prog W .any base t v := hval0
  have hsz : (DataW.weightsEach Tryd.prog (Tryd.f8.params.toList ++ Rows.shaApartSpec.plain.varTypes Tryd.prog) (ds ++ gs)).all (· ≤ reachBytes) = true := hsz0
  clear hsz0
  have hW' := hW
  obtain ⟨p, q, hA0, hV, rfl, hfz, hnd⟩ := hW
  have hA : DataW.TrodAll enc Tryd.prog W 0 (fun _ => true) true Tryd.f8.params.toList args.toList ds p := hA0
  rw [Tryd.params8] at hA hval hsz
  obtain ⟨v0, vs0, d0, ds0, p0, q0, hargs, rfl, rfl, h0, r0⟩ := trodAll_cons hA
  obtain ⟨v1, vs1, d1, ds1, p1, q1, rfl, rfl, rfl, h1, r1⟩ := trodAll_cons r0
  obtain ⟨rfl, rfl, rfl⟩ := trodAll_nil r1
  obtain rfl : args = #[v0, v1] := by cases args; simp_all
  obtain ⟨rfl, rfl⟩ := trodVars_none hV
  have k0 := h0
  have lt0 : ∀ x ∈ p0, x.block < W.heap.size := by obtain ⟨m, hm⟩ := k0; exact DataW.trod_lt m _ _ _ hm
  have k1 := h1
  have lt1 : ∀ x ∈ p1, x.block < W.heap.size := by obtain ⟨m, hm⟩ := k1; exact DataW.trod_lt m _ _ _ hm
  obtain ⟨a0, len0, cap0, l0, rfl, e0, b0, m0, n0⟩ := open_bs (hval 0 22 v0 rfl rfl) h0 (fun elems spare hd => sized_slice hsz (j := 0) (t := 22) (e := 5) rfl (by rw [hd]; rfl) Tryd.underlying22)
  obtain ⟨a1, len1, cap1, l1, rfl, e1, b1, m1, n1⟩ := open_bs (hval 1 22 v1 rfl rfl) h1 (fun elems spare hd => sized_slice hsz (j := 1) (t := 22) (e := 5) rfl (by rw [hd]; rfl) Tryd.underlying22)
  have hK := of_laid hL
  clear hA0 hval0
  refine (walk W a0 len0 cap0 l0 e0 b0 m0 n0 a1 len1 cap1 l1 e1 b1 m1 n1 hK).mono fun e W' ⟨he, bel⟩ => ?_
  subst he
  exact ⟨_, rfl, _, _, _, [], _, [], hW', trodAll_mk1 (shut_bool Tryd.underlying4 _), (trodAll_cons_mk (Below.trod laidOut (by kernel_rfl) (of_decide_eq_true (by kernel_rfl)) k0 bel lt0) (trodAll_cons_mk (Below.trod laidOut (by kernel_rfl) (of_decide_eq_true (by kernel_rfl)) k1 bel lt1) trodAll_mk0)), rfl, bel.frame _, fun h => by cases h⟩

theorem over : Rows.ShaApartSaid :=
  OpenClaim.holds_of_wide 8 Tryd.f8 rfl rfl rfl rfl rfl rfl rfl ⟨rfl, rfl, rfl, rfl, rfl⟩ rfl rfl rfl rfl rfl (by kernel_rfl) Tryd.func8 (by kernel_rfl)
    (of_decide_eq_true (by kernel_rfl)) (by unfold Func.isWrapper; first | (rw [if_pos (by decide +kernel)]; kernel_rfl) | (rw [if_neg (by decide +kernel)]; exact ⟨rfl, rfl⟩))
    (fun os started H enc _ => lifted os started H enc)

/-- The statement. -/
theorem proved : Rows.ShaApartCardSaid :=
  Claim7.holds_tied_plain_at .later [] [.data] true (true, "698d5c1e6826afa017c479af1af08b78f97d30d96166054830822b4b50163390") false
    over (fun _ h => by cases h) (by kernel_rfl) (fun _ h => by cases h) shaApart_row_tie rfl ⟨rfl, rfl⟩ (by kernel_rfl) rfl
    (fun f fn hf hfn => by
      obtain rfl : f = 8 := Option.some.inj ((show Tryd.prog.funcNamed "banyan/banyanlaw02.ShaApart" = some 8 by kernel_rfl).symm.trans hf) |>.symm
      obtain rfl : fn = Tryd.f8 := (Option.some.inj (Tryd.func8.symm.trans hfn)).symm
      exact ⟨by kernel_rfl, fun j t ht => by
        rw [Tryd.params8] at ht
        have hm : t ∈ [22, 22] := by simpa using Array.mem_of_getElem? ht
        have hall : ([22, 22].all fun u => !Tryd.prog.wantsStandIn u) = true := by kernel_rfl
        exact (show Tryd.prog.wantsStandIn t = false by simpa using List.all_eq_true.1 hall t hm)⟩)
    (by kernel_rfl)
#print axioms proved
end Go.Proofs.YtinkjoghdajhkaaDoor.shaApart
