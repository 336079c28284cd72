/-
  'MacInner' returns true at every input, and each argument reads behind the call as it read before. Conditions: the package-level variable that the row lists starts as the program's text lays it (the card ties that).
-/
import Derived.Test.YtpmeiadnikenmaaDoorLaid
import Derived.Test.YtpmeiadnikenmaaDoorCards
import Derived.Test.YtpmeiadnikenmaaDoorTie
import Derived.Test.YtpmeiadnikenmaaDoorZeros
import Derived.Deep.DeepCutAuto
namespace Go.Proofs.YtpmeiadnikenmaaDoor.macInner
open Go.ChangeShapes Go.WideShapes Go.ChangeAt Go.RowKit
set_option linter.unusedVariables false

theorem slice_key (g : Nat) (W : World) : (Instr.sliceAt 23 (.pointer (some ⟨g, 0, none⟩)) none none none).run Tryd.prog W = .ok (.slice (some ⟨g, 0, none⟩) 32 32) W := by
  obtain ⟨i0, hi, _⟩ := Option.map_eq_some_iff.1 one_u8
  simp [Instr.sliceAt, run_underlying Tryd.underlying23, Instr.sureAddr, Instr.sliceBounds, sizeOf, typeInfo, hi, Addr.add_mid]

set_option maxRecDepth 100000 in
set_option maxHeartbeats 1600000 in
theorem walk (w : World) (x0 : List Int) (hx0 : x0.length = 32) (hy0 : Byt x0) (a1 : Option Addr) (len1 cap1 : Nat) (l1 : List Int) (e1 : l1.length = len1) (b1 : BS w (.slice a1 len1 cap1) l1) (m1 : len1 ≤ cap1) (n1 : cap1 ≤ 140737488351232) (hK : KT w) :
    Calls Tryd.prog 9 #[.agg (u8s x0), .slice a1 len1 cap1] w fun e w' => e = .returned (.bool true) ∧ Below w.heap.size w w' := by
  have HK := Lib.hid hK
  have HPOS := Lib.hid hK.pos
  have HB1 := Lib.hid b1
  have HE := Lib.hid (And.intro hx0 (And.intro hy0 e1))
  have HM := Lib.hid (And.intro m1 n1)
  have len1I : (len1 : Int) ≤ 140737488351232 := by omega
  have S32 := Lib.hid (show (Tryd.prog.info? 23).map (·.size) = some (u8s x0).size by rw [show (Tryd.prog.info? 23).map (·.size) = some 32 by kernel_rfl, u8s_size, hx0])
  clear hK b1 e1 m1 n1
  by_cases hbig : (3000 : Int) < (len1 : Int)
  · go_enter Tryd.func9, Tryd.ntmps9
    go_wp2_with fail
    have hb0 := (Below.refl w.heap.size w).alloc (Nat.le_refl _) (.cells (u8s x0) 23)
    refine (alive3_any _ (HK.out.below hb0 HPOS.out)).mono ?_
    rintro e w1 ⟨rfl, hb1⟩
    go_wp2_with fail
    go_ret
    exact ⟨rfl, hb0.trans (hb1.mono hb0.size)⟩
  have hle1 : (len1 : Int) ≤ 3000 := by omega
  clear hbig
  go_enter Tryd.func9, Tryd.ntmps9
  go_wp2_with fail
  have hb0 := (Below.refl w.heap.size w).alloc (Nat.le_refl _) (.cells (u8s x0) 23)
  have hA0 : ArrB (w.alloc (.cells (u8s x0) 23)) w.heap.size 23 x0 := heap_alloc_new w _
  refine (alive3_any _ (HK.out.below hb0 HPOS.out)).mono ?_
  rintro e w1 ⟨rfl, hb1⟩
  have HBE1 := Lib.hid (hb0.trans (hb1.mono hb0.size))
  have HA1 := Lib.hid (hA0.below hb1 hA0.lt)
  clear hb0 hA0 hb1
  generalize hb0e : w.heap.size = b0 at *
  have HB0E := Lib.hid hb0e
  clear hb0e
  go_upto_region 6 with (fail)
  have h2 : ((w1.alloc (.cells (u8s (List.replicate 64 0)) 58)).alloc (.cells (u8s (List.replicate 64 0)) 58)).heap[w1.heap.size]? = some (.cells (u8s (List.replicate 64 0)) 58 (0, 0)) := heap_alloc2_old w1 _ _
  have h3 : ((w1.alloc (.cells (u8s (List.replicate 64 0)) 58)).alloc (.cells (u8s (List.replicate 64 0)) 58)).heap[w1.heap.size + 1]? = some (.cells (u8s (List.replicate 64 0)) 58 (0, 0)) := heap_alloc2_new w1 _ _
  have hb2 : Below w1.heap.size w1 ((w1.alloc (.cells (u8s (List.replicate 64 0)) 58)).alloc (.cells (u8s (List.replicate 64 0)) 58)) := ((Below.refl w1.heap.size w1).alloc (Nat.le_refl _) _).alloc (by simp) _
  refine (show ∀ W2 : World, W2 = ((w1.alloc (.cells (u8s (List.replicate 64 0)) 58)).alloc (.cells (u8s (List.replicate 64 0)) 58)) → _ from ?_) _ rfl
  intro W2 e2
  rw [← e2] at h2 h3 hb2
  have HA2 := Lib.hid (HA1.out.below hb2 HA1.out.lt)
  have HBE2 := Lib.hid (HBE1.out.trans (hb2.mono (Nat.le_of_lt HA1.out.lt)))
  have HI2 := Lib.hid h2
  have HO2 := Lib.hid h3
  have HC := Lib.hid (show b0 < w1.heap.size from HA1.out.lt)
  have HCW := Lib.hid (show b0 ≤ w1.heap.size from Nat.le_of_lt HA1.out.lt)
  clear e2 h2 h3 hb2
  generalize w1.heap.size = c at *
  have sk := slice_key
  have sb := slice_all64
  have hkb : keyB x0 = x0 ++ List.replicate 32 0 := by
    have h1 : keyS x0 = x0 := if_neg (by rw [HE.out.1]; omega)
    unfold keyB
    rw [h1, HE.out.1]
  have hsp : splice (u8s (List.replicate 64 0)).toList 0 (u8s x0).toList = (u8s (keyB x0)).toList := by rw [splice_front, HE.out.1, hkb]
  have HSP := Lib.hid hsp
  have hsrc : ∀ j v, (u8s x0).toList[j]? = some v → W2.cell? ((⟨b0, 0, none⟩ : Addr).add j) = some v := by
    intro j v hv
    rw [Addr.add_mid, Nat.zero_add, cell_of_row _ _ _ _ _ _ HA2.out, ← Array.getElem?_toList]
    exact hv
  have HSRC := Lib.hid hsrc
  have HL := Lib.hid (show (u8s x0).toList.length = Nat.min 32 64 by rw [Array.length_toList, u8s_size, HE.out.1]; rfl)
  have HF := Lib.hid (show 0 + (u8s x0).toList.length ≤ (u8s (List.replicate 64 0)).toList.length by rw [Array.length_toList, u8s_size, HE.out.1, Array.length_toList, u8s_size, List.length_replicate]; omega)
  have HI2' := Lib.hid (show W2.drew.heap[c]? = some (.cells (u8s (List.replicate 64 0)).toList.toArray 58 (0, 0)) by rw [Array.toArray_toList]; exact HI2.out)
  have HKL := Lib.hid (And.intro (keyB_length x0) (keyB_byt x0 HE.out.2.1))
  clear hkb hsp hsrc
  go_wp2_with fail
  refine wp_region_noPanic ?_
  refine wp_region_held_drew (S := fun _ => True) (by kernel_rfl) trivial (fun hHeld => ?_)
  refine wpAnyH_take (i := 0) (oi := ⟨some 14, _, _, _, _, _⟩) (v := ?_) rfl (by kernel_rfl) (by decide +kernel) (by decide +kernel) (fun _ _ _ h => h) (Or.inl ⟨by rfl, ?_⟩) (by assumption) ?_
  rotate_left 1
  · (intro w' hSw; go_simp; try with_reducible rfl)
  try simp only [Act.put, List.setIfInBounds_toArray, List.set_cons_zero, List.set_cons_succ]
  refine wpAnyH_take (i := 1) (oi := ⟨some 15, _, _, _, _, _⟩) (v := ?_) rfl (by kernel_rfl) (by decide +kernel) (by decide +kernel) (fun _ _ _ h => h) (Or.inl ⟨by rfl, ?_⟩) (by assumption) ?_
  rotate_left 1
  · (intro w' hSw; go_simp; try with_reducible rfl)
  try simp only [Act.put, List.setIfInBounds_toArray, List.set_cons_zero, List.set_cons_succ]
  refine wpAnyH_ready (rs := [2]) (by decide +kernel) (by simp) ?_
  refine AllReadyH.cons rfl (fun K hK => ?_) AllReadyH.nil
  refine step_copy_row (o := ⟨some 16, _, _, _, _, _⟩) rfl (.tmp 14) (.tmp 15) 22 22 (by rfl) 5 Tryd.underlying22 one_u8 c 0 64 64 ⟨b0, 0, none⟩ 32 32 (by rfl) (by rfl) (u8s (List.replicate 64 0)).toList 58 HI2'.out (u8s x0).toList HL.out HSRC.out HF.out (u8s_one' _) ?_
  refine hK.out _ _ trivial (fun hHeld => ?_)
  clear hK K
  try simp only [Act.put, List.setIfInBounds_toArray, List.set_cons_zero, List.set_cons_succ]
  refine wpAnyH_done (by decide +kernel) ?_ _
  refine NoPanic.normal ?_
  rw [HSP.out, Array.toArray_toList]
  generalize hW3 : World.setRow _ c _ = W3
  have r3 : ArrB W3 c 58 (keyB x0) := by
    rw [← hW3]
    exact setRow_heap _ c _ _ _ (0, 0) HI2.out
  have b3 : Below c W2 W3 := by
    rw [← hW3]
    exact (Below.refl c W2).drew.trans ⟨rfl, rfl, rfl, by simp, fun k hk => setRow_other _ _ k _ (by omega)⟩
  have o3 : W3.heap[c + 1]? = some (.cells (u8s (List.replicate 64 0)) 58 (0, 0)) := by
    rw [← hW3, setRow_other _ _ _ _ (by omega)]
    exact HO2.out
  clear hW3
  have HA3 := Lib.hid (HA2.out.below b3 HC.out)
  have HBE3 := Lib.hid (HBE2.out.trans (b3.mono HCW.out))
  have HI3 := Lib.hid (show W3.heap[c]? = some (.cells (u8s (keyB x0)) 58 (0, 0)) from r3)
  have HO3 := Lib.hid o3
  have S64 := Lib.hid (size_b64 (keyB x0) HKL.out.1)
  clear r3 b3 o3 sk sb
  go_wp2_with (first
    | (with_reducible refine wpList_load_row (o := ⟨some 17, _, _, _, _, _⟩) rfl 58 _ rfl c rfl 58 (u8s (keyB x0)) (0, 0) _ HI3.out Tryd.underlying58 rfl S64.out ?_)
    | (with_reducible refine wpList_store_row (o := ⟨none, .store _ (.tmp 6) _, _, _, _, _⟩) rfl 58 _ _ rfl (c + 1) (u8s (keyB x0)) rfl rfl 58 (u8s (List.replicate 64 0)) HO3.out S64.out ?c1 (u8s_one _) ?_))
  case c1 => rw [u8s_size, u8s_size, HKL.out.1, List.length_replicate]
  generalize hW4 : World.setRow W3 (c + 1) _ = W4
  have r4 : ArrB W4 (c + 1) 58 (keyB x0) := by
    rw [← hW4]
    exact setRow_heap _ (c + 1) _ _ _ (0, 0) HO3.out
  have b4 : Below (c + 1) W3 W4 := by
    rw [← hW4]
    exact ⟨rfl, rfl, rfl, by simp, fun k hk => setRow_other _ _ k _ (by omega)⟩
  clear hW4
  have HA4 := Lib.hid (HA3.out.below b4 (Nat.lt_succ_of_lt HC.out))
  have HBE4 := Lib.hid (HBE3.out.trans (b4.mono (Nat.le_succ_of_le HCW.out)))
  have HI4 := Lib.hid (show ArrB W4 c 58 (keyB x0) from (b4.block c (Nat.lt_succ_self _)).trans HI3.out)
  have HO4 := Lib.hid r4
  clear r4 b4
  go_loopw [18] (fun v18 wr => ∃ i : Nat, i ≤ 64 ∧ v18 = .int .i64 (i : Nat) ∧ ArrB wr c 58 (padP (keyB x0) 54 i) ∧ ArrB wr (c + 1) 58 (padP (keyB x0) 92 i) ∧ Below c W4 wr) (fun v _ => 64 - (intOf v).toNat)
  case atStart => exact ⟨0, by omega, rfl, by rw [padP_zero]; exact HI4.out, by rw [padP_zero]; exact HO4.out, Below.refl _ _⟩
  case round =>
    obtain ⟨i, hi, rfl, hA, hO, hbe⟩ := hrel
    by_cases h64 : i < 64
    · have hiI : (i : Int) < 64 := by omega
      have hi0 : (0 : Int) ≤ (i : Int) := by omega
      have hk64 := HKL.out.1
      have c1 := hA.cell (k := i) (by rw [padP_length, hk64]; exact h64)
      rw [padP_at _ 54 i (by omega)] at c1
      have c2 := hO.cell (k := i) (by rw [padP_length, hk64]; exact h64)
      rw [padP_at _ 92 i (by omega)] at c2
      have f1 := hA.free i
      have f2 := hO.free i
      have hs1 := padP_set (keyB x0) 54 i
      have hs2 := padP_set (keyB x0) 92 i
      unfold xb at hs1 hs2
      have HS := Lib.hid (And.intro hs1 hs2)
      have HA := Lib.hid hA
      have HO := Lib.hid hO
      generalize (keyB x0).getD i 0 = q at *
      have c2' : ∀ v, (wr.setCell ⟨c, i, none⟩ v).cell? ⟨c + 1, i, none⟩ = some (.int .u8 q) := fun v => (World.cell?_setCell_other _ _ _ _ (by intro h; injection h; omega)).trans c2
      clear hs1 hs2 hA hO hk64
      go_wp2_with fail
      go_roundw
      case rel =>
        refine ⟨i + 1, by omega, by go_num, ?_, ?_, (hbe.setCell (p := ⟨c, i, none⟩) (Nat.le_refl _) _).setCell (p := ⟨c + 1, i, none⟩) (Nat.le_succ _) _⟩
        · rw [← HS.out.1]; refine (Below.heap_setCell _ _ _ _ ?_).trans (HA.out.set i _); show c ≠ c + 1; omega
        · rw [← HS.out.2]; refine ArrB.set ((Below.heap_setCell _ _ _ _ ?_).trans HO.out) i _; show c + 1 ≠ c; omega
      case measure => simp [intOf]; omega
    · obtain rfl : i = 64 := by omega
      have hAf : ArrB wr c 58 (padS (keyB x0) 54) := by
        have := padP_full (keyB x0) 54
        rw [HKL.out.1] at this
        rw [← this]; exact hA
      have hOf : ArrB wr (c + 1) 58 (padS (keyB x0) 92) := by
        have := padP_full (keyB x0) 92
        rw [HKL.out.1] at this
        rw [← this]; exact hO
      have HAf := Lib.hid hAf
      have HOf := Lib.hid hOf
      have HBEr := Lib.hid (HBE4.out.trans (hbe.mono HCW.out))
      have HA5 := Lib.hid (HA4.out.below hbe HC.out)
      have hIl : (padS (keyB x0) 54).length = 64 := by rw [padS_length, HKL.out.1]
      have hOl : (padS (keyB x0) 92).length = 64 := by rw [padS_length, HKL.out.1]
      have hIy := padS_byt (keyB x0) 54 HKL.out.2 (by omega) (by omega)
      have hOy := padS_byt (keyB x0) 92 HKL.out.2 (by omega) (by omega)
      have hmac : macS x0 l1 = hashS (padS (keyB x0) 92 ++ hashS (padS (keyB x0) 54 ++ l1)) := rfl
      have HMAC := Lib.hid hmac
      clear hA hO hbe hAf hOf hi h64 hmac HA1 HA2 HA3 HA4 HI2 HO2 HI3 HO3 HI4 HO4 HSP HSRC HL HF HI2'
      generalize padS (keyB x0) 54 = kI at *
      generalize padS (keyB x0) 92 = kO at *
      have HI := Lib.hid (And.intro hIl hIy)
      have HO := Lib.hid (And.intro hOl hOy)
      clear hIl hOl hIy hOy
      have hne := own_empty wr
      have hb5 := (Below.refl wr.heap.size wr).alloc (Nat.le_refl _) (.cells #[] 5)
      have hsI := BS.of_arr HAf.out HI.out.2
      rw [HI.out.1] at hsI
      have HNE := Lib.hid hne
      have HSI := Lib.hid (hsI.kept hb5)
      have HB5 := Lib.hid hb5
      have sb := slice_all64
      have HL4 := Lib.hid ((HB1.out.kept (by rw [HB0E.out]; exact HBEr.out)).kept hb5)
      have HOB := Lib.hid (And.intro (HOf.out.below hb5 HOf.out.lt) (And.intro HOf.out.lt (HA5.out.below hb5 HA5.out.lt)))
      clear hne hb5 hsI
      go_wp2_with (first
        | (at_builtin; (with_reducible refine wpList_append_BS (o := ⟨some 34, _, _, _, _, _⟩) rfl _ _ rfl wr.heap.size (.slice (some ⟨wr.heap.size, 0, none⟩) 0 0) 0 [] rfl HNE.out (.slice (some ⟨c, 0, none⟩) 64 64) kI rfl HSI.out (by rw [HI.out.1]; omega) (by simp) ?_); intro v5 w5 ho5 hg5; (rw [Nat.zero_add, HI.out.1, List.nil_append] at ho5); obtain ⟨a5, c5, rfl, _⟩ := own_shape ho5; have HO5 := Lib.hid ho5; have HB6 := Lib.hid (HB5.out.grown hg5 (by simp) (fun k hk => by have h : wr.heap.size = k := Option.some.inj hk; omega)); have HL5 := Lib.hid ((HB1.out.kept (by rw [HB0E.out]; exact HBEr.out)).kept HB6.out); clear ho5 hg5)
        | (at_builtin; (with_reducible refine wpList_append_BS (o := ⟨some 36, _, _, _, _, _⟩) rfl _ _ rfl wr.heap.size (.slice a5 64 c5) 64 (kI.map (.int .u8)) rfl HO5.out (.slice a1 len1 cap1) l1 rfl HL5.out (by rw [HE.out.2.2]; omega) HB6.out.size ?_); intro v6 w6 ho6 hg6; (rw [HE.out.2.2] at ho6); obtain ⟨a6, c6, rfl, _⟩ := own_shape ho6; have HO6 := Lib.hid ho6; have HB7 := Lib.hid (HB6.out.grown hg6 HB6.out.size (fun k hk => (HO5.out.lt k hk).1)); clear ho6 hg6))
      have hl6 : (kI ++ l1).length = 64 + len1 := by rw [List.length_append, HI.out.1, HE.out.2.2]
      have hbs6 : BS w6 (.slice a6 (64 + len1) c6) (kI ++ l1) := BS.of_own (by rw [List.map_append]; exact HO6.out) hl6 (byt_app HI.out.2 HB1.out.byt)
      have hrm := room_of_own HO6.out
      have HBE6 := Lib.hid (HBEr.out.trans (HB7.out.mono (by have := HBEr.out.size; rw [HB0E.out] at this; exact this)))
      have HSUM := Lib.hid (shasum_any (kI ++ l1) _ w6 (HK.out.below HBE6.out HPOS.out) hbs6 hrm (by rw [hl6]; omega))
      clear hl6 hbs6 hrm
      refine HSUM.out.mono ?_
      rintro e w7 ⟨rfl, hb7⟩
      have hXl := hashS_length (kI ++ l1)
      have hXy := hashS_byt (kI ++ l1)
      have HOE := Lib.hid (HOf.out.below HB7.out HOf.out.lt)
      have HAE := Lib.hid (HA5.out.below HB7.out HA5.out.lt)
      have HOE7 := Lib.hid (HOE.out.below hb7 HOE.out.lt)
      have HAE7 := Lib.hid (HAE.out.below hb7 HAE.out.lt)
      have HBE7 := Lib.hid (HBE6.out.trans (hb7.mono (by have := HBE6.out.size; rw [HB0E.out] at this; exact this)))
      clear hb7 HO5 HO6 HB5 HB6 HB7 HL4 HL5 HNE HSI HSUM HBE6 HOE HAE HOB
      generalize hashS (kI ++ l1) = H at *
      have HH := Lib.hid (And.intro hXl hXy)
      have SH := Lib.hid (size_h32 H hXl)
      have SE := Lib.hid (show (u8s (List.replicate 32 0)).size = (u8s H).size by rw [u8s_size, u8s_size, hXl]; rfl)
      clear hXl hXy
      go_upto_region 15 with (first
        | (with_reducible refine wpList_store_row (o := ⟨none, .store _ (.tmp 8) _, _, _, _, _⟩) rfl 24 _ _ rfl w7.heap.size (u8s H) rfl rfl 24 _ (heap_alloc_new w7 _) SH.out ?c2 (u8s_one _) ?_))
      case c2 => exact SE.out
      generalize hW8 : World.setRow _ w7.heap.size _ = W8
      obtain ⟨r8, z8, b8⟩ := fresh_row w7 (u8s (List.replicate 32 0)) (u8s H) 24 W8 hW8.symm
      clear hW8
      have HH8 := Lib.hid (show ArrB W8 w7.heap.size 24 H from r8)
      have HO8 := Lib.hid (HOE7.out.below b8 HOE7.out.lt)
      have HA8 := Lib.hid (HAE7.out.below b8 HAE7.out.lt)
      have HBE8 := Lib.hid (HBE7.out.trans (b8.mono (by have := HBE7.out.size; rw [HB0E.out] at this; exact this)))
      clear r8 z8 b8
      generalize w7.heap.size = bh at *
      have hbk := BS.of_arr HA8.out HE.out.2.1
      rw [HE.out.1] at hbk
      have hbO := BS.of_arr HO8.out HO.out.2
      rw [HO.out.1] at hbO
      have hbH := BS.of_arr HH8.out HH.out.2
      rw [HH.out.1] at hbH
      have HK8 := Lib.hid (HK.out.below HBE8.out HPOS.out)
      have HBW8 := Lib.hid (show Below w.heap.size w W8 by rw [HB0E.out]; exact HBE8.out)
      have hmv := fun (W : World) (hb : Below W8.heap.size W8 W) => mac_any x0 l1 (.slice (some ⟨b0, 0, none⟩) 32 32) (.slice a1 len1 cap1) W (HK8.out.below hb HK8.out.pos) (hbk.kept hb) (room_of _ _ _ (by omega) (by omega)) (HB1.out.kept (HBW8.out.trans (hb.mono HBW8.out.size))) (room_of _ _ _ HM.out.1 (by have := HM.out.2; omega)) (by rw [HE.out.1]; omega) (by rw [HE.out.2.2]; omega)
      have heX := eq_hash_same (macS x0 l1) (macS_length _ _) (macS_byt _ _)
      have HMV := Lib.hid hmv
      have HBO := Lib.hid hbO
      have HBH := Lib.hid hbH
      have sk := slice_key
      have sa := slice_all32
      have sb := slice_all64
      clear hbk hbO hbH hmv
      refine wp_region_noPanic ?_
      refine wp_region_held_drew (S := fun _ => True) (by kernel_rfl) trivial (fun hHeld => ?_)
      refine wpAnyH_take (i := 0) (oi := ⟨some 38, _, _, _, _, _⟩) (v := ?_) rfl (by kernel_rfl) (by decide +kernel) (by decide +kernel) (fun _ _ _ h => h) (Or.inl ⟨by rfl, ?_⟩) (by assumption) ?_
      rotate_left 1
      · (intro w' hSw; go_simp; try with_reducible rfl)
      try simp only [Act.put, List.setIfInBounds_toArray, List.set_cons_zero, List.set_cons_succ]
      refine wpAnyH_take (i := 1) (oi := ⟨some 39, _, _, _, _, _⟩) (v := ?_) rfl (by kernel_rfl) (by decide +kernel) (by decide +kernel) (fun _ _ _ h => h) (Or.inl ⟨by rfl, ?_⟩) (by assumption) ?_
      rotate_left 1
      · (intro w' hSw; go_simp; try with_reducible rfl)
      try simp only [Act.put, List.setIfInBounds_toArray, List.set_cons_zero, List.set_cons_succ]
      refine wpAnyH_take (i := 4) (oi := ⟨some 42, _, _, _, _, _⟩) (v := ?_) rfl (by kernel_rfl) (by decide +kernel) (by decide +kernel) (fun _ _ _ h => h) (Or.inl ⟨by rfl, ?_⟩) (by assumption) ?_
      rotate_left 1
      · (intro w' hSw; go_simp; try with_reducible rfl)
      try simp only [Act.put, List.setIfInBounds_toArray, List.set_cons_zero, List.set_cons_succ]
      refine wpAnyH_take (i := 6) (oi := ⟨some 44, _, _, _, _, _⟩) (v := ?_) rfl (by kernel_rfl) (by decide +kernel) (by decide +kernel) (fun _ _ _ h => h) (Or.inl ⟨by rfl, ?_⟩) (by assumption) ?_
      rotate_left 1
      · (intro w' hSw; go_simp; try with_reducible rfl)
      try simp only [Act.put, List.setIfInBounds_toArray, List.set_cons_zero, List.set_cons_succ]
      refine wpAnyH_ready (rs := [2, 3]) (by decide +kernel) (by simp) ?_
      refine AllReadyH.cons rfl (fun K hK => ?_) (AllReadyH.cons rfl (fun K hK => ?_) AllReadyH.nil)
      · go_simp
        go_at_call 25
        refine (HMV.out W8.drew (Below.refl _ W8).drew).mono ?_
        rintro e w9 ⟨rfl, hb9⟩
        have Q9 := Lib.hid ((Below.refl W8.heap.size W8).drew.trans hb9)
        clear hb9
        go_wp2_with fail
        refine hK.out _ _ trivial (fun hHeld => ?_)
        clear hK K
        try simp only [Act.put, List.setIfInBounds_toArray, List.set_cons_zero, List.set_cons_succ]
        refine wpAnyH_ready (rs := [3]) (by decide +kernel) (by simp) ?_
        refine AllReadyH.cons rfl (fun K hK => ?_) AllReadyH.nil
        go_simp
        refine hK.out _ _ trivial (fun hHeld => ?_)
        clear hK K
        try simp only [Act.put, List.setIfInBounds_toArray, List.set_cons_zero, List.set_cons_succ]
        have HBX := Lib.hid (Q9.out.alloc Q9.out.size (.cells #[] 5))
        have HEM := Lib.hid (own_mono (own_empty w9) Q9.out.size)
        obtain ⟨v43, w43, hr43, ho43, hg43⟩ := run_append_BS (w9.alloc (.cells #[] 5)) W8.heap.size 0 (.slice (some ⟨w9.heap.size, 0, none⟩) 0 0) (.slice (some ⟨c + 1, 0, none⟩) 64 64) [] kO HEM.out (HBO.out.kept HBX.out) (by rw [HO.out.1]; omega) HBX.out.size
        rw [Nat.zero_add, HO.out.1, List.nil_append] at ho43
        obtain ⟨a43, c43, rfl, _⟩ := own_shape ho43
        have hb43 : Below W8.heap.size W8 w43 := HBX.out.grown hg43 HBX.out.size (fun k hk => (HEM.out.lt k hk).1)
        obtain ⟨v45, w45, hr45, ho45, hg45⟩ := run_append_BS w43 W8.heap.size 64 (.slice a43 64 c43) (.slice (some ⟨bh, 0, none⟩) 32 32) _ H ho43 (HBH.out.kept hb43) (by rw [HH.out.1]; omega) hb43.size
        rw [HH.out.1, ← List.map_append] at ho45
        obtain ⟨a45, c45, rfl, _⟩ := own_shape ho45
        have hb45 : Below W8.heap.size W8 w45 := hb43.grown hg45 hb43.size (fun k hk => (ho43.lt k hk).1)
        have hl45 : (kO ++ H).length = 64 + 32 := by rw [List.length_append, HO.out.1, HH.out.1]
        have hbs45 : BS w45 (.slice a45 (64 + 32) c45) (kO ++ H) := BS.of_own ho45 hl45 (byt_app HO.out.2 HH.out.2)
        have hsum := shasum_any (kO ++ H) _ w45 (HK8.out.below hb45 HK8.out.pos) hbs45 (room_of_own ho45) (by rw [hl45]; omega)
        rw [← HMAC.out] at hsum
        have HSUM := Lib.hid hsum
        have HB45 := Lib.hid hb45
        clear ho43 hg43 hb43 ho45 hg45 hb45 hl45 hbs45 hsum
        refine wpAnyH_ready (rs := [5]) (by decide +kernel) (by simp) ?_
        refine AllReadyH.cons rfl (fun K hK => ?_) AllReadyH.nil
        rw [if_pos (by kernel_rfl)]
        refine wp_append_run (o := ⟨some 43, _, _, _, _, _⟩) (.tmp 41) (.tmp 42) 22 22 rfl _ _ _ _ rfl rfl hr43 ?_
        refine hK.out _ _ trivial (fun hHeld => ?_)
        clear hK K
        try simp only [Act.put, List.setIfInBounds_toArray, List.set_cons_zero, List.set_cons_succ]
        refine wpAnyH_ready (rs := [7]) (by decide +kernel) (by simp) ?_
        refine AllReadyH.cons rfl (fun K hK => ?_) AllReadyH.nil
        rw [if_pos (by kernel_rfl)]
        refine wp_append_run (o := ⟨some 45, _, _, _, _, _⟩) (.tmp 43) (.tmp 44) 22 22 rfl _ _ _ _ rfl rfl hr45 ?_
        refine hK.out _ _ trivial (fun hHeld => ?_)
        clear hK K
        try simp only [Act.put, List.setIfInBounds_toArray, List.set_cons_zero, List.set_cons_succ]
        refine wpAnyH_ready (rs := [8]) (by decide +kernel) (by simp) ?_
        refine AllReadyH.cons rfl (fun K hK => ?_) AllReadyH.nil
        go_simp
        clear hr43 hr45
        go_at_call 13
        refine HSUM.out.mono ?_
        rintro e w46 ⟨rfl, hb46⟩
        have HB46 := Lib.hid (HB45.out.trans (hb46.mono HB45.out.size))
        clear hb46
        go_wp2_with fail
        refine hK.out _ _ (trivial) (fun hHeld => ?_)
        clear hK K
        try simp only [Act.put, List.setIfInBounds_toArray, List.set_cons_zero, List.set_cons_succ]
        refine wpAnyH_take (i := 9) (oi := ⟨some 47, _, _, _, _, _⟩) (v := ?_) rfl (by kernel_rfl) (by decide +kernel) (by decide +kernel) (fun _ _ _ h => h) (Or.inl ⟨by rfl, ?_⟩) (by assumption) ?_
        rotate_left 1
        · (intro w' hSw; go_simp; try with_reducible rfl)
        try simp only [Act.put, List.setIfInBounds_toArray, List.set_cons_zero, List.set_cons_succ]
        refine wpAnyH_take (i := 10) (oi := ⟨some 4, _, _, _, _, _⟩) (v := ?_) rfl (by kernel_rfl) (by decide +kernel) (by decide +kernel) (fun _ _ _ h => h) (Or.inl ⟨by rfl, ?_⟩) (by assumption) ?_
        rotate_left 1
        · (intro w' hSw; go_simp; try with_reducible rfl)
        try simp only [Act.put, List.setIfInBounds_toArray, List.set_cons_zero, List.set_cons_succ]
        refine wpAnyH_done (by decide +kernel) ?_ _
        refine NoPanic.normal ?_
        go_wp2_with fail
        go_ret
        exact ⟨rfl, HBW8.out.trans (HB46.out.mono HBW8.out.size)⟩
      · go_simp
        refine hK.out _ _ trivial (fun hHeld => ?_)
        clear hK K
        try simp only [Act.put, List.setIfInBounds_toArray, List.set_cons_zero, List.set_cons_succ]
        have hq8 := ((Below.refl W8.heap.size W8).alloc (Nat.le_refl _) (.cells #[] 5)).drew
        have HQ8 := Lib.hid hq8
        clear hq8
        refine wpAnyH_ready (rs := [2]) (by decide +kernel) (by simp) ?_
        refine AllReadyH.cons rfl (fun K hK => ?_) AllReadyH.nil
        go_simp
        go_at_call 25
        refine (HMV.out _ HQ8.out).mono ?_
        rintro e w9 ⟨rfl, hb9⟩
        have HEM := Lib.hid (own_below (show World.ownsRow (World.drew (W8.alloc (.cells #[] 5))) W8.heap.size 5 1 (.slice (some ⟨W8.heap.size, 0, none⟩) 0 0) 0 [] from own_empty W8) hb9)
        have HBX := Lib.hid (HQ8.out.trans (hb9.mono HQ8.out.size))
        clear hb9
        go_wp2_with fail
        refine hK.out _ _ (trivial) (fun hHeld => ?_)
        clear hK K
        try simp only [Act.put, List.setIfInBounds_toArray, List.set_cons_zero, List.set_cons_succ]
        obtain ⟨v43, w43, hr43, ho43, hg43⟩ := run_append_BS w9 W8.heap.size 0 (.slice (some ⟨W8.heap.size, 0, none⟩) 0 0) (.slice (some ⟨c + 1, 0, none⟩) 64 64) [] kO HEM.out (HBO.out.kept HBX.out) (by rw [HO.out.1]; omega) HBX.out.size
        rw [Nat.zero_add, HO.out.1, List.nil_append] at ho43
        obtain ⟨a43, c43, rfl, _⟩ := own_shape ho43
        have hb43 : Below W8.heap.size W8 w43 := HBX.out.grown hg43 HBX.out.size (fun k hk => (HEM.out.lt k hk).1)
        obtain ⟨v45, w45, hr45, ho45, hg45⟩ := run_append_BS w43 W8.heap.size 64 (.slice a43 64 c43) (.slice (some ⟨bh, 0, none⟩) 32 32) _ H ho43 (HBH.out.kept hb43) (by rw [HH.out.1]; omega) hb43.size
        rw [HH.out.1, ← List.map_append] at ho45
        obtain ⟨a45, c45, rfl, _⟩ := own_shape ho45
        have hb45 : Below W8.heap.size W8 w45 := hb43.grown hg45 hb43.size (fun k hk => (ho43.lt k hk).1)
        have hl45 : (kO ++ H).length = 64 + 32 := by rw [List.length_append, HO.out.1, HH.out.1]
        have hbs45 : BS w45 (.slice a45 (64 + 32) c45) (kO ++ H) := BS.of_own ho45 hl45 (byt_app HO.out.2 HH.out.2)
        have hsum := shasum_any (kO ++ H) _ w45 (HK8.out.below hb45 HK8.out.pos) hbs45 (room_of_own ho45) (by rw [hl45]; omega)
        rw [← HMAC.out] at hsum
        have HSUM := Lib.hid hsum
        have HB45 := Lib.hid hb45
        clear ho43 hg43 hb43 ho45 hg45 hb45 hl45 hbs45 hsum
        refine wpAnyH_ready (rs := [5]) (by decide +kernel) (by simp) ?_
        refine AllReadyH.cons rfl (fun K hK => ?_) AllReadyH.nil
        rw [if_pos (by kernel_rfl)]
        refine wp_append_run (o := ⟨some 43, _, _, _, _, _⟩) (.tmp 41) (.tmp 42) 22 22 rfl _ _ _ _ rfl rfl hr43 ?_
        refine hK.out _ _ trivial (fun hHeld => ?_)
        clear hK K
        try simp only [Act.put, List.setIfInBounds_toArray, List.set_cons_zero, List.set_cons_succ]
        refine wpAnyH_ready (rs := [7]) (by decide +kernel) (by simp) ?_
        refine AllReadyH.cons rfl (fun K hK => ?_) AllReadyH.nil
        rw [if_pos (by kernel_rfl)]
        refine wp_append_run (o := ⟨some 45, _, _, _, _, _⟩) (.tmp 43) (.tmp 44) 22 22 rfl _ _ _ _ rfl rfl hr45 ?_
        refine hK.out _ _ trivial (fun hHeld => ?_)
        clear hK K
        try simp only [Act.put, List.setIfInBounds_toArray, List.set_cons_zero, List.set_cons_succ]
        refine wpAnyH_ready (rs := [8]) (by decide +kernel) (by simp) ?_
        refine AllReadyH.cons rfl (fun K hK => ?_) AllReadyH.nil
        go_simp
        clear hr43 hr45
        go_at_call 13
        refine HSUM.out.mono ?_
        rintro e w46 ⟨rfl, hb46⟩
        have HB46 := Lib.hid (HB45.out.trans (hb46.mono HB45.out.size))
        clear hb46
        go_wp2_with fail
        refine hK.out _ _ (trivial) (fun hHeld => ?_)
        clear hK K
        try simp only [Act.put, List.setIfInBounds_toArray, List.set_cons_zero, List.set_cons_succ]
        refine wpAnyH_take (i := 9) (oi := ⟨some 47, _, _, _, _, _⟩) (v := ?_) rfl (by kernel_rfl) (by decide +kernel) (by decide +kernel) (fun _ _ _ h => h) (Or.inl ⟨by rfl, ?_⟩) (by assumption) ?_
        rotate_left 1
        · (intro w' hSw; go_simp; try with_reducible rfl)
        try simp only [Act.put, List.setIfInBounds_toArray, List.set_cons_zero, List.set_cons_succ]
        refine wpAnyH_take (i := 10) (oi := ⟨some 4, _, _, _, _, _⟩) (v := ?_) rfl (by kernel_rfl) (by decide +kernel) (by decide +kernel) (fun _ _ _ h => h) (Or.inl ⟨by rfl, ?_⟩) (by assumption) ?_
        rotate_left 1
        · (intro w' hSw; go_simp; try with_reducible rfl)
        try simp only [Act.put, List.setIfInBounds_toArray, List.set_cons_zero, List.set_cons_succ]
        refine wpAnyH_done (by decide +kernel) ?_ _
        refine NoPanic.normal ?_
        go_wp2_with fail
        go_ret
        exact ⟨rfl, HBW8.out.trans (HB46.out.mono HBW8.out.size)⟩
set_option maxRecDepth 100000 in
theorem lifted (os : Os) (started : os.Started) (H : Type) (enc : TypeId × Value → H) :
    ReturnsInHanded {} Tryd.checked os 9 .any (fun w args => (Rows.macInnerSpec.pre enc Tryd.prog Tryd.f9 [] false w args ∧ laidMetH Tryd.prog [("banyan/sha.roundNumbers", Rows.laid_banyan_sha_roundNumbers)] w) ∧ sizedMet enc Tryd.prog Tryd.f9 (OpenSpec.ofChange Rows.macInnerSpec) false w args)
      (Rows.macInnerSpec.post enc Tryd.prog Tryd.f9 false true false false) := by
  refine returnsInHanded_of_change_and (C := Tryd.checked) (X := fun w _ => laidMetH Tryd.prog [("banyan/sha.roundNumbers", Rows.laid_banyan_sha_roundNumbers)] w) (fun _ _ _ hh h => h.of_heap hh) own started (by kernel_rfl) Tryd.func9
    (ChangeSpec.witness_shaped (enc := enc) (C := Tryd.checked) (os := os) (X := fun w _ => laidMetH Tryd.prog [("banyan/sha.roundNumbers", Rows.laid_banyan_sha_roundNumbers)] w) false (World.doorLaid Tryd.prog 400 os) #[.agg (Array.replicate 32 (.int .u8 0)), .slice none 0 0] 8 rfl (World.shaped_of_RefB (by kernel_rfl) (by kernel_rfl)) (by kernel_rfl) (by kernel_rfl) (by kernel_rfl) (door_met os _)) ?_
  intro W base args ds gs before hval0 hW _ hsz0 hL _
  have hval : ∀ (j : Nat) t v, Tryd.f9.params[j]? = some t → args[j]? = some v → Value.okWide Tryd.prog W .any base t v := hval0
  have hsz : (DataW.weightsEach Tryd.prog (Tryd.f9.params.toList ++ Rows.macInnerSpec.plain.varTypes Tryd.prog) (ds ++ gs)).all (· ≤ reachBytes) = true := hsz0
  clear hsz0
  have hW' := hW
  obtain ⟨p, q, hA0, hV, rfl, hfz, hnd⟩ := hW
  have hA : DataW.TrodAll enc Tryd.prog W 0 (fun _ => true) true Tryd.f9.params.toList args.toList ds p := hA0
  rw [Tryd.params9] at hA hval hsz
  obtain ⟨v0, vs0, d0, ds0, p0, q0, hargs, rfl, rfl, h0, r0⟩ := trodAll_cons hA
  obtain ⟨v1, vs1, d1, ds1, p1, q1, rfl, rfl, rfl, h1, r1⟩ := trodAll_cons r0
  obtain ⟨rfl, rfl, rfl⟩ := trodAll_nil r1
  obtain rfl : args = #[v0, v1] := by cases args; simp_all
  obtain ⟨rfl, rfl⟩ := trodVars_none hV
  have k0 := h0
  have lt0 : ∀ x ∈ p0, x.block < W.heap.size := by obtain ⟨m, hm⟩ := k0; exact DataW.trod_lt m _ _ _ hm
  have k1 := h1
  have lt1 : ∀ x ∈ p1, x.block < W.heap.size := by obtain ⟨m, hm⟩ := k1; exact DataW.trod_lt m _ _ _ hm
  obtain ⟨x0, rfl, hx0, hy0⟩ := open_row Tryd.underlying23 (by kernel_rfl) (by decide) h0
  obtain ⟨a1, len1, cap1, l1, rfl, e1, b1, m1, n1⟩ := open_bs (hval 1 22 v1 rfl rfl) h1 (fun elems spare hd => sized_slice hsz (j := 1) (t := 22) (e := 5) rfl (by rw [hd]; rfl) Tryd.underlying22)
  have hK := of_laid hL
  clear hA0 hval0
  refine (walk W x0 hx0 hy0 a1 len1 cap1 l1 e1 b1 m1 n1 hK).mono fun e W' ⟨he, bel⟩ => ?_
  subst he
  exact ⟨_, rfl, _, _, _, [], _, [], hW', trodAll_mk1 (shut_bool Tryd.underlying4 _), (trodAll_cons_mk (Below.trod laidOut (by kernel_rfl) (of_decide_eq_true (by kernel_rfl)) k0 bel lt0) (trodAll_cons_mk (Below.trod laidOut (by kernel_rfl) (of_decide_eq_true (by kernel_rfl)) k1 bel lt1) trodAll_mk0)), rfl, bel.frame _, fun h => by cases h⟩

theorem over : Rows.MacInnerSaid :=
  OpenClaim.holds_of_wide 9 Tryd.f9 rfl rfl rfl rfl rfl rfl rfl ⟨rfl, rfl, rfl, rfl, rfl⟩ rfl rfl rfl rfl rfl (by kernel_rfl) Tryd.func9 (by kernel_rfl)
    (of_decide_eq_true (by kernel_rfl)) (by unfold Func.isWrapper; first | (rw [if_pos (by decide +kernel)]; kernel_rfl) | (rw [if_neg (by decide +kernel)]; exact ⟨rfl, rfl⟩))
    (fun os started H enc _ => lifted os started H enc)

/-- The statement. -/
theorem proved : Rows.MacInnerCardSaid :=
  Claim7.holds_tied_plain_at .later [] [.data] true (true, "e0374d2ffff8b996aa7eb96177f9d43dd083ddb5548ca805c513efc6b04d9a8e") false
    over (fun _ h => by cases h) (by kernel_rfl) (fun _ h => by cases h) macInner_row_tie rfl ⟨rfl, rfl⟩ (by kernel_rfl) rfl
    (fun f fn hf hfn => by
      obtain rfl : f = 9 := Option.some.inj ((show Tryd.prog.funcNamed "banyan/banyanlaw03.MacInner" = some 9 by kernel_rfl).symm.trans hf) |>.symm
      obtain rfl : fn = Tryd.f9 := (Option.some.inj (Tryd.func9.symm.trans hfn)).symm
      exact ⟨by kernel_rfl, fun j t ht => by
        rw [Tryd.params9] at ht
        have hm : t ∈ [23, 22] := by simpa using Array.mem_of_getElem? ht
        have hall : ([23, 22].all fun u => !Tryd.prog.wantsStandIn u) = true := by kernel_rfl
        exact (show Tryd.prog.wantsStandIn t = false by simpa using List.all_eq_true.1 hall t hm)⟩)
    (by kernel_rfl)
#print axioms proved
end Go.Proofs.YtpmeiadnikenmaaDoor.macInner
