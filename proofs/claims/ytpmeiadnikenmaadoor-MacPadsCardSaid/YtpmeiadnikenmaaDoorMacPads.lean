/-
  'MacPads' returns true at every input, and each argument reads behind the call as it read before. Conditions: the package-level variable that the row lists starts as the program's text lays it (the card ties that).
-/
import Derived.Test.YtpmeiadnikenmaaDoorLaid
import Derived.Test.YtpmeiadnikenmaaDoorCards
import Derived.Test.YtpmeiadnikenmaaDoorTie
import Derived.Test.YtpmeiadnikenmaaDoorZeros
import Derived.Deep.DeepCutAuto
namespace Go.Proofs.YtpmeiadnikenmaaDoor.macPads
open Go.ChangeShapes Go.WideShapes Go.ChangeAt Go.RowKit
set_option linter.unusedVariables false


set_option maxRecDepth 100000 in
set_option maxHeartbeats 1600000 in
theorem walk (w : World) (a0 : Option Addr) (len0 cap0 : Nat) (l0 : List Int) (e0 : l0.length = len0) (b0 : BS w (.slice a0 len0 cap0) l0) (m0 : len0 ≤ cap0) (n0 : cap0 ≤ 140737488351232) (a1 : Option Addr) (len1 cap1 : Nat) (l1 : List Int) (e1 : l1.length = len1) (b1 : BS w (.slice a1 len1 cap1) l1) (m1 : len1 ≤ cap1) (n1 : cap1 ≤ 140737488351232) (a2 : Int) (h20 : 0 ≤ a2) (h21 : a2 ≤ 255) (hK : KT w) :
    Calls Tryd.prog 8 #[.slice a0 len0 cap0, .slice a1 len1 cap1, .int .u8 a2] w fun e w' => e = .returned (.bool true) ∧ Below w.heap.size w w' := by
  have HK := Lib.hid hK
  have HPOS := Lib.hid hK.pos
  have HB0 := Lib.hid b0
  have HB1 := Lib.hid b1
  have HE := Lib.hid (And.intro e0 e1)
  have HM := Lib.hid (And.intro m0 (And.intro m1 (And.intro n0 n1)))
  have len0I : (len0 : Int) ≤ 140737488351232 := by omega
  have len1I : (len1 : Int) ≤ 140737488351232 := by omega
  clear hK b0 b1 e0 e1 m0 m1 n0 n1
  by_cases hbig : (500 : Int) < (len0 : Int)
  · go_enter Tryd.func8, Tryd.ntmps8
    go_wp2_with fail
    refine (alive3_any w HK.out).mono ?_
    rintro e w1 ⟨rfl, hb1⟩
    go_wp2_with fail
    go_ret
    exact ⟨rfl, hb1⟩
  have hle : (len0 : Int) ≤ 500 := by omega
  clear hbig
  by_cases hbig : (2000 : Int) < (len1 : Int)
  · go_enter Tryd.func8, Tryd.ntmps8
    go_wp2_with fail
    refine (alive3_any w HK.out).mono ?_
    rintro e w1 ⟨rfl, hb1⟩
    go_wp2_with fail
    go_ret
    exact ⟨rfl, hb1⟩
  have hle1 : (len1 : Int) ≤ 2000 := by omega
  clear hbig
  go_enter Tryd.func8, Tryd.ntmps8
  go_wp2_with fail
  refine (alive3_any w HK.out).mono ?_
  rintro e w1 ⟨rfl, hb1⟩
  have HBE1 := Lib.hid hb1
  have MACV := Lib.hid (fun (W : World) (hb : Below w.heap.size w W) => mac_any l0 l1 (.slice a0 len0 cap0) (.slice a1 len1 cap1) W (HK.out.below hb HPOS.out) (HB0.out.kept hb) (room_of _ _ _ HM.out.1 (by have := HM.out.2.2.1; omega)) (HB1.out.kept hb) (room_of _ _ _ HM.out.2.1 (by have := HM.out.2.2.2; omega)) (by rw [HE.out.1]; omega) (by rw [HE.out.2]; omega))
  clear hb1
  go_wp2_with fail
  refine (MACV.out _ HBE1.out).mono ?_
  rintro e w2 ⟨rfl, hb2⟩
  have HBE2 := Lib.hid (HBE1.out.trans (hb2.mono HBE1.out.size))
  have hXl := macS_length l0 l1
  have hXy := macS_byt l0 l1
  have SH := Lib.hid (size_h32 (macS l0 l1) hXl)
  have SE := Lib.hid (show (u8s (List.replicate 32 0)).size = (u8s (macS l0 l1)).size by rw [u8s_size, u8s_size, hXl]; rfl)
  have HX := Lib.hid (And.intro hXl hXy)
  clear hb2 hXl hXy
  go_upto_region 6 with (first
    | (with_reducible refine wpList_store_row (o := ⟨none, .store _ (.tmp 7) _, _, _, _, _⟩) rfl 24 _ _ rfl w2.heap.size (u8s (macS l0 l1)) rfl rfl 24 _ (heap_alloc_new w2 _) SH.out ?c1 (u8s_one _) ?_))
  case c1 => exact SE.out
  generalize hW3 : World.setRow _ w2.heap.size _ = W3
  obtain ⟨r3, z3, b3⟩ := fresh_row w2 (u8s (List.replicate 32 0)) (u8s (macS l0 l1)) 24 W3 hW3.symm
  clear hW3
  have HX3 := Lib.hid (show ArrB W3 w2.heap.size 24 (macS l0 l1) from r3)
  have HBE3 := Lib.hid (HBE2.out.trans (b3.mono HBE2.out.size))
  clear r3 z3 b3
  generalize w2.heap.size = bx at *
  by_cases h64 : (64 : Int) < (len0 : Int)
  · have HL := Lib.hid (show 64 < l0.length by rw [HE.out.1]; omega)
    have HK3 := Lib.hid (HK.out.below HBE3.out HPOS.out)
    go_wp2_with fail
    refine (shasum_any l0 _ W3 HK3.out (HB0.out.kept HBE3.out) (room_of _ _ _ HM.out.1 (by have := HM.out.2.2.1; omega)) (by rw [HE.out.1]; omega)).mono ?_
    rintro e w4 ⟨rfl, hb4⟩
    have hS := Lib.hid (hashS_length l0)
    have SH4 := Lib.hid (size_h32 (hashS l0) (hashS_length l0))
    have SE4 := Lib.hid (show (u8s (List.replicate 32 0)).size = (u8s (hashS l0)).size by rw [u8s_size, u8s_size, hashS_length]; rfl)
    have HX4 := Lib.hid (HX3.out.below hb4 HX3.out.lt)
    have HBE4 := Lib.hid (HBE3.out.trans (hb4.mono HBE3.out.size))
    clear hb4
    go_upto_region 8 with (first
      | (with_reducible refine wpList_store_row (o := ⟨none, .store _ (.tmp 8) _, _, _, _, _⟩) rfl 24 _ _ rfl w4.heap.size (u8s (hashS l0)) rfl rfl 24 _ (heap_alloc_new w4 _) SH4.out ?c2 (u8s_one _) ?_))
    case c2 => exact SE4.out
    generalize hW5 : World.setRow _ w4.heap.size _ = W5
    obtain ⟨r5, z5, b5⟩ := fresh_row w4 (u8s (List.replicate 32 0)) (u8s (hashS l0)) 24 W5 hW5.symm
    clear hW5
    have hbs := BS.of_arr (show ArrB W5 w4.heap.size 24 (hashS l0) from r5) (hashS_byt l0)
    rw [hashS_length] at hbs
    have HX5 := Lib.hid (HX4.out.below b5 HX4.out.lt)
    have HBE5 := Lib.hid (HBE4.out.trans (b5.mono HBE4.out.size))
    have he : macS (hashS l0) l1 = macS l0 l1 := by
      have h1 : keyS l0 = hashS l0 := if_pos HL.out
      have h2 : keyS (hashS l0) = hashS l0 := if_neg (by rw [hashS_length]; omega)
      unfold macS keyB
      rw [h1, h2]
    have hmv := fun (W : World) (hb : Below W5.heap.size W5 W) => mac_any (hashS l0) l1 _ (.slice a1 len1 cap1) W ((HK.out.below HBE5.out HPOS.out).below hb (Nat.lt_of_lt_of_le HPOS.out HBE5.out.size)) (hbs.kept hb) (room_of _ _ _ (by omega) (by omega)) (HB1.out.kept (HBE5.out.trans (hb.mono HBE5.out.size))) (room_of _ _ _ HM.out.2.1 (by have := HM.out.2.2.2; omega)) (by rw [hashS_length]; omega) (by rw [HE.out.2]; omega)
    rw [he] at hmv
    have HMV := Lib.hid hmv
    clear r5 z5 b5 hbs he hmv
    generalize w4.heap.size = bh at *
    have heX := eq_hash_same (macS l0 l1) HX.out.1 HX.out.2
    have hiX : (Tryd.prog.info? 24).map (·.size) = some (u8s (macS l0 l1)).toList.length := by rw [info_h32, Array.length_toList, u8s_size, HX.out.1]
    have hu := Tryd.underlying24
    have sa := slice_all32
    refine wp_region_noPanic ?_
    refine wp_region_held_drew (S := fun w' => w'.rangeAt bx 0 (u8s (macS l0 l1)).toList) (by kernel_rfl) HX5.out.range (fun hHeld => ?_)
    refine wpAnyH_take (i := 0) (oi := ⟨some 28, _, _, _, _, _⟩) (v := ?_) rfl (by kernel_rfl) (by decide +kernel) (by decide +kernel) (fun _ _ _ h => h) (Or.inl ⟨by rfl, ?_⟩) (by assumption) ?_
    rotate_left 1
    · (intro w' hSw; go_simp; try with_reducible rfl)
    try simp only [Act.put, List.setIfInBounds_toArray, List.set_cons_zero, List.set_cons_succ]
    refine wpAnyH_take (i := 1) (oi := ⟨some 29, _, _, _, _, _⟩) (v := ?_) rfl (by kernel_rfl) (by decide +kernel) (by decide +kernel) (fun _ _ _ h => h) (Or.inl ⟨by rfl, ?_⟩) (by assumption) ?_
    rotate_left 1
    · (intro w' hSw; go_simp; try with_reducible rfl)
    try simp only [Act.put, List.setIfInBounds_toArray, List.set_cons_zero, List.set_cons_succ]
    refine wpAnyH_take (i := 3) (oi := ⟨some 31, _, _, _, _, _⟩) rfl (by kernel_rfl) (by decide +kernel) (by decide +kernel) (fun _ _ _ h => h) (yieldsIf_load_mid (by rfl) _ _ rfl (bx) 0 rfl (u8s (macS l0 l1)).toList _ (fun w' h => h) hu rfl hiX) (by assumption) ?_
    try simp only [Act.put, List.setIfInBounds_toArray, List.set_cons_zero, List.set_cons_succ, Array.toArray_toList]
    refine wpAnyH_ready (rs := [2]) (by decide +kernel) (by simp) ?_
    refine AllReadyH.cons rfl (fun K hK => ?_) AllReadyH.nil
    go_simp
    go_at_call 25
    refine (HMV.out W5.drew (Below.refl _ W5).drew).mono ?_
    rintro e w6 ⟨rfl, hb6⟩
    have Q6 := Lib.hid ((Below.refl W5.heap.size W5).drew.trans hb6)
    clear hb6
    go_wp2_with fail
    refine hK.out _ _ ((HX5.out.below Q6.out HX5.out.lt).range) (fun hHeld => ?_)
    clear hK K
    try simp only [Act.put, List.setIfInBounds_toArray, List.set_cons_zero, List.set_cons_succ]
    refine wpAnyH_take (i := 4) (oi := ⟨some 32, _, _, _, _, _⟩) (v := ?_) rfl (by kernel_rfl) (by decide +kernel) (by decide +kernel) (fun _ _ _ h => h) (Or.inl ⟨by rfl, ?_⟩) (by assumption) ?_
    rotate_left 1
    · (intro w' hSw; go_simp; try with_reducible rfl)
    try simp only [Act.put, List.setIfInBounds_toArray, List.set_cons_zero, List.set_cons_succ]
    refine wpAnyH_take (i := 5) (oi := ⟨some 6, _, _, _, _, _⟩) (v := ?_) rfl (by kernel_rfl) (by decide +kernel) (by decide +kernel) (fun _ _ _ h => h) (Or.inl ⟨by rfl, ?_⟩) (by assumption) ?_
    rotate_left 1
    · (intro w' hSw; go_simp; try with_reducible rfl)
    try simp only [Act.put, List.setIfInBounds_toArray, List.set_cons_zero, List.set_cons_succ]
    refine wpAnyH_done (by decide +kernel) ?_ _
    refine NoPanic.normal ?_
    go_wp2_with fail
    go_ret
    exact ⟨rfl, HBE5.out.trans (Q6.out.mono HBE5.out.size)⟩
  · have hle64 : (len0 : Int) ≤ 64 := by omega
    clear h64
    obtain ⟨z, hz, hzz⟩ : ∃ z : Nat, a2.tmod (65 - (len0 : Int)) = (z : Int) ∧ len0 + z ≤ 64 := by
      have h1 : a2.tmod (65 - (len0 : Int)) = a2 % (65 - (len0 : Int)) := Int.tmod_eq_emod_of_nonneg h20
      have h2 := Int.emod_nonneg a2 (show (65 - (len0 : Int)) ≠ 0 by omega)
      have h3 := Int.emod_lt_of_pos a2 (show (0 : Int) < 65 - (len0 : Int) by omega)
      exact ⟨(a2 % (65 - (len0 : Int))).toNat, by rw [h1]; omega, by omega⟩
    have HZ := Lib.hid hzz
    have hw1 : IntKind.i64.wrap (65 - (len0 : Int)) = 65 - (len0 : Int) := IntWalk.i64_in _ (by omega)
    have hne : ¬ (65 - (len0 : Int) = 0) := by omega
    have hz2 : a2 % (65 - (len0 : Int)) = (z : Int) := by rw [← hz]; exact (Int.tmod_eq_emod_of_nonneg h20).symm
    have hneB : ((65 - (len0 : Int)) == 0) = false := by simp; omega
    have hwa : IntKind.i64.wrap a2 = a2 := IntWalk.i64_in _ (by omega)
    have hW4 := (Below.refl W3.heap.size W3).alloc (Nat.le_refl _) (.cells #[] 5)
    obtain ⟨v35, w35, hr35, ho35, hg35⟩ := run_append_BS (W3.alloc (.cells #[] 5)).drew W3.heap.size 0 (.slice (some ⟨W3.heap.size, 0, none⟩) 0 0) (.slice a0 len0 cap0) [] l0 (own_empty W3) (HB0.out.kept (HBE3.out.trans (hW4.mono HBE3.out.size)).drew) (by rw [HE.out.1]; omega) hW4.size
    rw [Nat.zero_add, HE.out.1, List.nil_append] at ho35
    obtain ⟨a35, c35, rfl, _⟩ := own_shape ho35
    have hb35 : Below W3.heap.size W3 w35 := hW4.drew.grown hg35 hW4.size (fun k hk => by have h : W3.heap.size = k := Option.some.inj hk; omega)
    obtain ⟨v42, w42, hr42, ho42, hg42⟩ := run_append_zeros w35 W3.heap.size len0 z (.slice a35 len0 c35) _ 22 ho35 (by omega) hb35.size
    have hb42 : Below W3.heap.size W3 w42 := hb35.grown hg42 hb35.size (fun k hk => (ho35.lt k hk).1)
    obtain ⟨a42, c42, rfl, _⟩ := own_shape ho42
    have hrm := room_of_own ho42
    have hl42 : (l0 ++ List.replicate z 0).length = len0 + z := by rw [List.length_append, HE.out.1, List.length_replicate]
    have hbs42 : BS w42 (.slice a42 (len0 + z) c42) (l0 ++ List.replicate z 0) := BS.of_own (by rw [List.map_append, List.map_replicate]; exact ho42) hl42 (byt_app HB0.out.byt (byt_zeros z))
    have HBE42 := Lib.hid (HBE3.out.trans (hb42.mono HBE3.out.size))
    have HX42 := Lib.hid (HX3.out.below hb42 HX3.out.lt)
    have he : macS (l0 ++ List.replicate z 0) l1 = macS l0 l1 := by
      have h1 : keyS l0 = l0 := if_neg (by rw [HE.out.1]; omega)
      have h2 : keyS (l0 ++ List.replicate z 0) = l0 ++ List.replicate z 0 := if_neg (by rw [hl42]; omega)
      have h3 : keyB (l0 ++ List.replicate z 0) = keyB l0 := by
        unfold keyB
        rw [h1, h2, hl42, List.append_assoc, List.replicate_append_replicate, HE.out.1]
        congr 2
        omega
      unfold macS
      rw [h3]
    have hmv := fun (W : World) (hb : Below w42.heap.size w42 W) => mac_any (l0 ++ List.replicate z 0) l1 (.slice a42 (len0 + z) c42) (.slice a1 len1 cap1) W ((HK.out.below HBE42.out HPOS.out).below hb (Nat.lt_of_lt_of_le HPOS.out HBE42.out.size)) (hbs42.kept hb) hrm (HB1.out.kept (HBE42.out.trans (hb.mono HBE42.out.size))) (room_of _ _ _ HM.out.2.1 (by have := HM.out.2.2.2; omega)) (by rw [hl42]; omega) (by rw [HE.out.2]; omega)
    have hfv := fun (W : World) (hb : Below w42.heap.size w42 W) => fits_any (l0 ++ List.replicate z 0) l1 (macS l0 l1) (.slice a42 (len0 + z) c42) (.slice a1 len1 cap1) W ((HK.out.below HBE42.out HPOS.out).below hb (Nat.lt_of_lt_of_le HPOS.out HBE42.out.size)) (hbs42.kept hb) hrm (HB1.out.kept (HBE42.out.trans (hb.mono HBE42.out.size))) (room_of _ _ _ HM.out.2.1 (by have := HM.out.2.2.2; omega)) (by rw [hl42]; omega) (by rw [HE.out.2]; omega) HX.out.1 HX.out.2
    rw [he] at hmv
    simp only [he, decide_true] at hfv
    have HMV := Lib.hid hmv
    have HFV := Lib.hid hfv
    clear hzz hW4 ho35 hg35 hb35 ho42 hg42 hb42 hrm hl42 hbs42 he hmv hfv
    go_wp2_with fail
    refine wp_region_noPanic ?_
    refine wp_region_held_drew (S := fun _ => True) (by kernel_rfl) trivial (fun hHeld => ?_)
    refine wpAnyH_take (i := 1) (oi := ⟨some 34, _, _, _, _, _⟩) (v := ?_) rfl (by kernel_rfl) (by decide +kernel) (by decide +kernel) (fun _ _ _ h => h) (Or.inl ⟨by rfl, ?_⟩) (by assumption) ?_
    rotate_left 1
    · (intro w' hSw; go_simp; try with_reducible rfl)
    try simp only [Act.put, List.setIfInBounds_toArray, List.set_cons_zero, List.set_cons_succ]
    refine wpAnyH_take (i := 3) (oi := ⟨some 36, _, _, _, _, _⟩) (v := ?_) rfl (by kernel_rfl) (by decide +kernel) (by decide +kernel) (fun _ _ _ h => h) (Or.inl ⟨by rfl, ?_⟩) (by assumption) ?_
    rotate_left 1
    · (intro w' hSw; go_simp; try with_reducible rfl)
    try simp only [Act.put, List.setIfInBounds_toArray, List.set_cons_zero, List.set_cons_succ]
    refine wpAnyH_take (i := 4) (oi := ⟨some 37, _, _, _, _, _⟩) (v := ?_) rfl (by kernel_rfl) (by decide +kernel) (by decide +kernel) (fun _ _ _ h => h) (Or.inl ⟨by rfl, ?_⟩) (by assumption) ?_
    rotate_left 1
    · (intro w' hSw; go_simp; try with_reducible rfl)
    try simp only [Act.put, List.setIfInBounds_toArray, List.set_cons_zero, List.set_cons_succ]
    refine wpAnyH_take (i := 5) (oi := ⟨some 38, _, _, _, _, _⟩) (v := ?_) rfl (by kernel_rfl) (by decide +kernel) (by decide +kernel) (fun _ _ _ h => h) (Or.inl ⟨by rfl, ?_⟩) (by assumption) ?_
    rotate_left 1
    · (intro w' hSw; go_simp; try with_reducible rfl)
    try simp only [Act.put, List.setIfInBounds_toArray, List.set_cons_zero, List.set_cons_succ]
    refine wpAnyH_take (i := 6) (oi := ⟨some 39, _, _, _, _, _⟩) (v := ?_) rfl (by kernel_rfl) (by decide +kernel) (by decide +kernel) (fun _ _ _ h => h) (Or.inl ⟨by rfl, ?_⟩) (by assumption) ?_
    rotate_left 1
    · (intro w' hSw; go_simp; try with_reducible rfl)
    try simp only [Act.put, List.setIfInBounds_toArray, List.set_cons_zero, List.set_cons_succ]
    refine wpAnyH_take (i := 7) (oi := ⟨some 40, _, _, _, _, _⟩) (v := ?_) rfl (by kernel_rfl) (by decide +kernel) (by decide +kernel) (fun _ _ _ h => h) (Or.inl ⟨by rfl, ?_⟩) (by assumption) ?_
    rotate_left 1
    · (intro w' hSw; go_simp; try with_reducible rfl)
    try simp only [Act.put, List.setIfInBounds_toArray, List.set_cons_zero, List.set_cons_succ]
    refine wpAnyH_take (i := 8) (oi := ⟨some 41, _, _, _, _, _⟩) (v := ?_) rfl (by kernel_rfl) (by decide +kernel) (by decide +kernel) (fun _ _ _ h => h) (Or.inl ⟨by rfl, ?_⟩) (by assumption) ?_
    rotate_left 1
    · (intro w' hSw; go_simp; try with_reducible rfl)
    try simp only [Act.put, List.setIfInBounds_toArray, List.set_cons_zero, List.set_cons_succ]
    refine wpAnyH_ready (rs := [0]) (by decide +kernel) (by simp) ?_
    refine AllReadyH.cons rfl (fun K hK => ?_) AllReadyH.nil
    go_simp
    refine hK.out _ _ (trivial) (fun hHeld => ?_)
    clear hK K
    try simp only [Act.put, List.setIfInBounds_toArray, List.set_cons_zero, List.set_cons_succ]
    refine wpAnyH_ready (rs := [2]) (by decide +kernel) (by simp) ?_
    refine AllReadyH.cons rfl (fun K hK => ?_) AllReadyH.nil
    rw [if_pos (by kernel_rfl)]
    refine wp_append_run (o := ⟨some 35, _, _, _, _, _⟩) (.tmp 33) (.tmp 34) 22 22 rfl _ _ _ _ rfl rfl hr35 ?_
    refine hK.out _ _ trivial (fun hHeld => ?_)
    clear hK K
    try simp only [Act.put, List.setIfInBounds_toArray, List.set_cons_zero, List.set_cons_succ]
    refine wpAnyH_ready (rs := [9]) (by decide +kernel) (by simp) ?_
    refine AllReadyH.cons rfl (fun K hK => ?_) AllReadyH.nil
    rw [if_pos (by kernel_rfl)]
    refine wp_append_run (o := ⟨some 42, _, _, _, _, _⟩) (.tmp 35) (.tmp 41) 22 3 rfl _ _ _ _ rfl rfl hr42 ?_
    refine hK.out _ _ trivial (fun hHeld => ?_)
    clear hK K
    try simp only [Act.put, List.setIfInBounds_toArray, List.set_cons_zero, List.set_cons_succ]
    refine wpAnyH_take (i := 10) (oi := ⟨some 9, _, _, _, _, _⟩) (v := ?_) rfl (by kernel_rfl) (by decide +kernel) (by decide +kernel) (fun _ _ _ h => h) (Or.inl ⟨by rfl, ?_⟩) (by assumption) ?_
    rotate_left 1
    · (intro w' hSw; go_simp; try with_reducible rfl)
    try simp only [Act.put, List.setIfInBounds_toArray, List.set_cons_zero, List.set_cons_succ]
    refine wpAnyH_done (by decide +kernel) ?_ _
    refine NoPanic.normal ?_
    clear hr35 hr42 hz hz2 hneB hne hw1 hwa
    go_wp2_with fail
    have heX := eq_hash_same (macS l0 l1) HX.out.1 HX.out.2
    have hiX : (Tryd.prog.info? 24).map (·.size) = some (u8s (macS l0 l1)).toList.length := by rw [info_h32, Array.length_toList, u8s_size, HX.out.1]
    have hu := Tryd.underlying24
    refine wp_region_noPanic ?_
    refine wp_region_held_drew (S := fun w' => w'.rangeAt bx 0 (u8s (macS l0 l1)).toList) (by kernel_rfl) HX42.out.range (fun hHeld => ?_)
    refine wpAnyH_take (i := 0) (oi := ⟨some 43, _, _, _, _, _⟩) (v := ?_) rfl (by kernel_rfl) (by decide +kernel) (by decide +kernel) (fun _ _ _ h => h) (Or.inl ⟨by rfl, ?_⟩) (by assumption) ?_
    rotate_left 1
    · (intro w' hSw; go_simp; try with_reducible rfl)
    try simp only [Act.put, List.setIfInBounds_toArray, List.set_cons_zero, List.set_cons_succ]
    refine wpAnyH_take (i := 1) (oi := ⟨some 44, _, _, _, _, _⟩) (v := ?_) rfl (by kernel_rfl) (by decide +kernel) (by decide +kernel) (fun _ _ _ h => h) (Or.inl ⟨by rfl, ?_⟩) (by assumption) ?_
    rotate_left 1
    · (intro w' hSw; go_simp; try with_reducible rfl)
    try simp only [Act.put, List.setIfInBounds_toArray, List.set_cons_zero, List.set_cons_succ]
    refine wpAnyH_take (i := 3) (oi := ⟨some 46, _, _, _, _, _⟩) rfl (by kernel_rfl) (by decide +kernel) (by decide +kernel) (fun _ _ _ h => h) (yieldsIf_load_mid (by rfl) _ _ rfl (bx) 0 rfl (u8s (macS l0 l1)).toList _ (fun w' h => h) hu rfl hiX) (by assumption) ?_
    try simp only [Act.put, List.setIfInBounds_toArray, List.set_cons_zero, List.set_cons_succ, Array.toArray_toList]
    refine wpAnyH_ready (rs := [2]) (by decide +kernel) (by simp) ?_
    refine AllReadyH.cons rfl (fun K hK => ?_) AllReadyH.nil
    go_simp
    go_at_call 25
    refine (HMV.out w42.drew (Below.refl _ w42).drew).mono ?_
    rintro e w6 ⟨rfl, hb6⟩
    have Q6 := Lib.hid ((Below.refl w42.heap.size w42).drew.trans hb6)
    clear hb6
    go_wp2_with fail
    refine hK.out _ _ ((HX42.out.below Q6.out HX42.out.lt).range) (fun hHeld => ?_)
    clear hK K
    try simp only [Act.put, List.setIfInBounds_toArray, List.set_cons_zero, List.set_cons_succ]
    refine wpAnyH_take (i := 4) (oi := ⟨some 47, _, _, _, _, _⟩) (v := ?_) rfl (by kernel_rfl) (by decide +kernel) (by decide +kernel) (fun _ _ _ h => h) (Or.inl ⟨by rfl, ?_⟩) (by assumption) ?_
    rotate_left 1
    · (intro w' hSw; go_simp; try with_reducible rfl)
    try simp only [Act.put, List.setIfInBounds_toArray, List.set_cons_zero, List.set_cons_succ]
    refine wpAnyH_take (i := 5) (oi := ⟨some 48, _, _, _, _, _⟩) (v := ?_) rfl (by kernel_rfl) (by decide +kernel) (by decide +kernel) (fun _ _ _ h => h) (Or.inl ⟨by rfl, ?_⟩) (by assumption) ?_
    rotate_left 1
    · (intro w' hSw; go_simp; try with_reducible rfl)
    try simp only [Act.put, List.setIfInBounds_toArray, List.set_cons_zero, List.set_cons_succ]
    refine wpAnyH_take (i := 6) (oi := ⟨some 49, _, _, _, _, _⟩) (v := ?_) rfl (by kernel_rfl) (by decide +kernel) (by decide +kernel) (fun _ _ _ h => h) (Or.inl ⟨by rfl, ?_⟩) (by assumption) ?_
    rotate_left 1
    · (intro w' hSw; go_simp; try with_reducible rfl)
    try simp only [Act.put, List.setIfInBounds_toArray, List.set_cons_zero, List.set_cons_succ]
    refine wpAnyH_take (i := 7) (oi := ⟨some 50, _, _, _, _, _⟩) (v := ?_) rfl (by kernel_rfl) (by decide +kernel) (by decide +kernel) (fun _ _ _ h => h) (Or.inl ⟨by rfl, ?_⟩) (by assumption) ?_
    rotate_left 1
    · (intro w' hSw; go_simp; try with_reducible rfl)
    try simp only [Act.put, List.setIfInBounds_toArray, List.set_cons_zero, List.set_cons_succ]
    refine wpAnyH_take (i := 8) (oi := ⟨some 51, _, _, _, _, _⟩) rfl (by kernel_rfl) (by decide +kernel) (by decide +kernel) (fun _ _ _ h => h) (yieldsIf_load_mid (by rfl) _ _ rfl (bx) 0 rfl (u8s (macS l0 l1)).toList _ (fun w' h => h) hu rfl hiX) (by assumption) ?_
    try simp only [Act.put, List.setIfInBounds_toArray, List.set_cons_zero, List.set_cons_succ, Array.toArray_toList]
    refine wpAnyH_ready (rs := [9]) (by decide +kernel) (by simp) ?_
    refine AllReadyH.cons rfl (fun K hK => ?_) AllReadyH.nil
    go_simp
    go_at_call 26
    refine (HFV.out w6 Q6.out).mono ?_
    rintro e w7 ⟨rfl, hb7⟩
    have Q7 := Lib.hid (Q6.out.trans (hb7.mono Q6.out.size))
    clear hb7
    go_wp2_with fail
    refine hK.out _ _ ((HX42.out.below Q7.out HX42.out.lt).range) (fun hHeld => ?_)
    clear hK K
    try simp only [Act.put, List.setIfInBounds_toArray, List.set_cons_zero, List.set_cons_succ]
    refine wpAnyH_take (i := 10) (oi := ⟨some 53, _, _, _, _, _⟩) (v := ?_) rfl (by kernel_rfl) (by decide +kernel) (by decide +kernel) (fun _ _ _ h => h) (Or.inl ⟨by rfl, ?_⟩) (by assumption) ?_
    rotate_left 1
    · (intro w' hSw; go_simp; try with_reducible rfl)
    try simp only [Act.put, List.setIfInBounds_toArray, List.set_cons_zero, List.set_cons_succ]
    refine wpAnyH_take (i := 11) (oi := ⟨some 6, _, _, _, _, _⟩) (v := ?_) rfl (by kernel_rfl) (by decide +kernel) (by decide +kernel) (fun _ _ _ h => h) (Or.inl ⟨by rfl, ?_⟩) (by assumption) ?_
    rotate_left 1
    · (intro w' hSw; go_simp; try with_reducible rfl)
    try simp only [Act.put, List.setIfInBounds_toArray, List.set_cons_zero, List.set_cons_succ]
    refine wpAnyH_done (by decide +kernel) ?_ _
    refine NoPanic.normal ?_
    go_wp2_with fail
    go_ret
    exact ⟨rfl, HBE42.out.trans (Q7.out.mono HBE42.out.size)⟩
set_option maxRecDepth 100000 in
theorem lifted (os : Os) (started : os.Started) (H : Type) (enc : TypeId × Value → H) :
    ReturnsInHanded {} Tryd.checked os 8 .any (fun w args => (Rows.macPadsSpec.pre enc Tryd.prog Tryd.f8 [] false w args ∧ laidMetH Tryd.prog [("banyan/sha.roundNumbers", Rows.laid_banyan_sha_roundNumbers)] w) ∧ sizedMet enc Tryd.prog Tryd.f8 (OpenSpec.ofChange Rows.macPadsSpec) false w args)
      (Rows.macPadsSpec.post enc Tryd.prog Tryd.f8 false true false false) := by
  refine returnsInHanded_of_change_and (C := Tryd.checked) (X := fun w _ => laidMetH Tryd.prog [("banyan/sha.roundNumbers", Rows.laid_banyan_sha_roundNumbers)] w) (fun _ _ _ hh h => h.of_heap hh) own started (by kernel_rfl) Tryd.func8
    (ChangeSpec.witness_shaped (enc := enc) (C := Tryd.checked) (os := os) (X := fun w _ => laidMetH Tryd.prog [("banyan/sha.roundNumbers", Rows.laid_banyan_sha_roundNumbers)] w) false (World.doorLaid Tryd.prog 400 os) #[.slice none 0 0, .slice none 0 0, .int .u8 0] 8 rfl (World.shaped_of_RefB (by kernel_rfl) (by kernel_rfl)) (by kernel_rfl) (by kernel_rfl) (by kernel_rfl) (door_met os _)) ?_
  intro W base args ds gs before hval0 hW _ hsz0 hL _
  have hval : ∀ (j : Nat) t v, Tryd.f8.params[j]? = some t → args[j]? = some v → Value.okWide Tryd.prog W .any base t v := hval0
  have hsz : (DataW.weightsEach Tryd.prog (Tryd.f8.params.toList ++ Rows.macPadsSpec.plain.varTypes Tryd.prog) (ds ++ gs)).all (· ≤ reachBytes) = true := hsz0
  clear hsz0
  have hW' := hW
  obtain ⟨p, q, hA0, hV, rfl, hfz, hnd⟩ := hW
  have hA : DataW.TrodAll enc Tryd.prog W 0 (fun _ => true) true Tryd.f8.params.toList args.toList ds p := hA0
  rw [Tryd.params8] at hA hval hsz
  obtain ⟨v0, vs0, d0, ds0, p0, q0, hargs, rfl, rfl, h0, r0⟩ := trodAll_cons hA
  obtain ⟨v1, vs1, d1, ds1, p1, q1, rfl, rfl, rfl, h1, r1⟩ := trodAll_cons r0
  obtain ⟨v2, vs2, d2, ds2, p2, q2, rfl, rfl, rfl, h2, r2⟩ := trodAll_cons r1
  obtain ⟨rfl, rfl, rfl⟩ := trodAll_nil r2
  obtain rfl : args = #[v0, v1, v2] := by cases args; simp_all
  obtain ⟨rfl, rfl⟩ := trodVars_none hV
  have k0 := h0
  have lt0 : ∀ x ∈ p0, x.block < W.heap.size := by obtain ⟨m, hm⟩ := k0; exact DataW.trod_lt m _ _ _ hm
  have k1 := h1
  have lt1 : ∀ x ∈ p1, x.block < W.heap.size := by obtain ⟨m, hm⟩ := k1; exact DataW.trod_lt m _ _ _ hm
  obtain ⟨a0, len0, cap0, l0, rfl, e0, b0, m0, n0⟩ := open_bs (hval 0 22 v0 rfl rfl) h0 (fun elems spare hd => sized_slice hsz (j := 0) (t := 22) (e := 5) rfl (by rw [hd]; rfl) Tryd.underlying22)
  obtain ⟨a1, len1, cap1, l1, rfl, e1, b1, m1, n1⟩ := open_bs (hval 1 22 v1 rfl rfl) h1 (fun elems spare hd => sized_slice hsz (j := 1) (t := 22) (e := 5) rfl (by rw [hd]; rfl) Tryd.underlying22)
  obtain ⟨a2, rfl, rfl, rfl, w2⟩ := open_int Tryd.underlying5 (hval 2 5 v2 rfl rfl) h2
  obtain ⟨h20, h21⟩ : 0 ≤ a2 ∧ a2 ≤ 255 := by
    have := w2
    simp [Lit.wf, IntKind.min, IntKind.max, IntKind.signed, IntKind.bits] at this
    omega
  have hK := of_laid hL
  clear hA0 hval0
  refine (walk W a0 len0 cap0 l0 e0 b0 m0 n0 a1 len1 cap1 l1 e1 b1 m1 n1 a2 h20 h21 hK).mono fun e W' ⟨he, bel⟩ => ?_
  subst he
  exact ⟨_, rfl, _, _, _, [], _, [], hW', trodAll_mk1 (shut_bool Tryd.underlying4 _), (trodAll_cons_mk (Below.trod laidOut (by kernel_rfl) (of_decide_eq_true (by kernel_rfl)) k0 bel lt0) (trodAll_cons_mk (Below.trod laidOut (by kernel_rfl) (of_decide_eq_true (by kernel_rfl)) k1 bel lt1) (trodAll_cons_mk (shut_int Tryd.underlying5 w2) trodAll_mk0))), rfl, bel.frame _, fun h => by cases h⟩

theorem over : Rows.MacPadsSaid :=
  OpenClaim.holds_of_wide 8 Tryd.f8 rfl rfl rfl rfl rfl rfl rfl ⟨rfl, rfl, rfl, rfl, rfl⟩ rfl rfl rfl rfl rfl (by kernel_rfl) Tryd.func8 (by kernel_rfl)
    (of_decide_eq_true (by kernel_rfl)) (by unfold Func.isWrapper; first | (rw [if_pos (by decide +kernel)]; kernel_rfl) | (rw [if_neg (by decide +kernel)]; exact ⟨rfl, rfl⟩))
    (fun os started H enc _ => lifted os started H enc)

/-- The statement. -/
theorem proved : Rows.MacPadsCardSaid :=
  Claim7.holds_tied_plain_at .later [] [.data] true (true, "e0374d2ffff8b996aa7eb96177f9d43dd083ddb5548ca805c513efc6b04d9a8e") false
    over (fun _ h => by cases h) (by kernel_rfl) (fun _ h => by cases h) macPads_row_tie rfl ⟨rfl, rfl⟩ (by kernel_rfl) rfl
    (fun f fn hf hfn => by
      obtain rfl : f = 8 := Option.some.inj ((show Tryd.prog.funcNamed "banyan/banyanlaw03.MacPads" = some 8 by kernel_rfl).symm.trans hf) |>.symm
      obtain rfl : fn = Tryd.f8 := (Option.some.inj (Tryd.func8.symm.trans hfn)).symm
      exact ⟨by kernel_rfl, fun j t ht => by
        rw [Tryd.params8] at ht
        have hm : t ∈ [22, 22, 5] := by simpa using Array.mem_of_getElem? ht
        have hall : ([22, 22, 5].all fun u => !Tryd.prog.wantsStandIn u) = true := by kernel_rfl
        exact (show Tryd.prog.wantsStandIn t = false by simpa using List.all_eq_true.1 hall t hm)⟩)
    (by kernel_rfl)
#print axioms proved
end Go.Proofs.YtpmeiadnikenmaaDoor.macPads
