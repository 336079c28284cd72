/-
  'SpaceMany' returns true at every input, and each argument reads behind the call as it read before. Conditions: the package-level variable that the row lists starts as the program's text lays it (the card ties that).
-/
import Derived.Test.YtpeemnkhcgapnaaDoorVf
import Derived.Test.YtpeemnkhcgapnaaDoorCards
import Derived.Test.YtpeemnkhcgapnaaDoorTie
import Derived.Test.YtpeemnkhcgapnaaDoorVh
namespace Go.Proofs.YtpeemnkhcgapnaaDoor.spaceMany
open Go.ChangeShapes Go.WideShapes Go.ChangeAt Go.RowKit
set_option linter.unusedVariables false


set_option maxRecDepth 100000 in
set_option maxHeartbeats 1600000 in
theorem walk (w : World) (l0 : List Nat) (a0 : Option Addr) (len0 cap0 : Nat) (us0 : US w a0 len0 cap0 l0) (cp0 : len0 ≤ cap0) (bg0 : len0 ≤ 140737488351232) (a1 : Nat) (sm1 : a1 < 256) (hK : TZ w) :
    Calls Tryd.prog 9 #[.slice a0 len0 cap0, .int .u8 (a1 : Int)] w fun e w' => e = .returned (.bool true) ∧ Below w.heap.size w w' := by
  have HA := Lib.hid (alive11_any w hK)
  have HU := Lib.hid us0
  have lI : (len0 : Int) ≤ 140737488351232 := by omega
  by_cases hbig : 300 < len0
  · have hbI : (300 : Int) < (len0 : Int) := by omega
    have HT := Lib.hid hK
    clear hbig us0 cp0 bg0 hK
    go_enter Tryd.func9, Tryd.ntmps9
    go_wp2_with fail
    refine HA.out.mono ?_
    rintro e w1 ⟨rfl, hb1⟩
    have HN := Lib.hid (so_new w w1 64 HT.out hb1 (by decide) (by decide))
    clear hb1 HA
    go_wp2_with fail
    refine HN.out.mono ?_
    rintro e w2 ⟨rfl, hs2, _⟩
    have HS := Lib.hid hs2
    clear hs2 HN
    go_wp2_with fail
    go_ret
    exact ⟨rfl, HS.out.bel⟩
  have hsm : (len0 : Int) ≤ 300 := by omega
  have HT := Lib.hid hK
  clear hbig us0 cp0 bg0 hK
  go_enter Tryd.func9, Tryd.ntmps9
  go_wp2_with fail
  refine HA.out.mono ?_
  rintro e w1 ⟨rfl, hb1⟩
  have HN := Lib.hid (so_new w w1 64 HT.out hb1 (by decide) (by decide))
  clear hb1 HA
  go_wp2_with fail
  refine HN.out.mono ?_
  rintro e w2 ⟨rfl, hs2, _⟩
  generalize w1.heap.size = S at *
  have HS2 := Lib.hid hs2
  clear hs2 HN
  obtain ⟨i0, hi0, hz0, hz1, hz2⟩ := info_parts info_u32n
  have HI := Lib.hid hi0
  have HZ := Lib.hid (And.intro hz0 (And.intro hz1 hz2))
  clear hi0 hz0 hz1 hz2
  obtain ⟨B, hB⟩ : ∃ B, w2.heap.size = B := ⟨_, rfl⟩
  have HSB := Lib.hid (show S < B by rw [← hB]; exact HS2.out.lt)
  have HB2 := Lib.hid (show B ≤ w2.heap.size by omega)
  clear hB
  go_wp2_with fail
  go_loopw [7, 9, 30] (fun v7 _ v30 wr => ∃ (i : Nat) (F : Nat → Bool) (L : List Nat), i ≤ len0 ∧ v30 = .int .i64 (i : Int) ∧ SO w wr S 64 F ∧ OU wr B v7 L ∧ MK F L ∧ S < B ∧ B ≤ wr.heap.size) (fun _ _ v _ => len0 - (intOf v).toNat)
  case atStart => exact ⟨0, _, [], by omega, rfl, HS2.out, OU.nil _ _, mk_none, HSB.out, HB2.out⟩
  case round =>
    clear HS2 HSB HB2
    obtain ⟨i, F, L, hi, rfl, hs, ho, hM, hSB, hB⟩ := hrel
    by_cases hlt : i < len0
    · obtain ⟨b, off, rfl, hx⟩ := (HU.out.below hs.bel).at hlt
      have hix := index_u32 b off len0 cap0 i hlt
      have iI : (i : Int) < (len0 : Int) := by omega
      have i0' : (0 : Int) ≤ (i : Int) := by omega
      have HLT := Lib.hid hlt
      generalize l0.getD i 0 = x at *
      have hm := so_mark w _ S 64 x F hs
      have hlen : L.length ≤ 62 := by have := hM.2.2; omega
      have HO := Lib.hid ho
      have HM := Lib.hid hM
      have HBB := Lib.hid (And.intro hSB hB)
      clear hi hlt hs ho hM hSB hB
      rcases mark_cases 64 F x with ⟨v, rfl | rfl, hc⟩ | ⟨x0, x1, xF, hc⟩
      · rw [hc] at hm
        have HMK := Lib.hid hm
        clear hc hm
        go_wp2_with fail
        refine HMK.out.mono ?_
        rintro e w3 ⟨rfl, hs3, ht3⟩
        have HS3 := Lib.hid hs3
        have HO3 := Lib.hid (HO.out.touch ht3 (fun g hg hk => by simp at hk; subst hk; have := own_ge11 HO.out _ hg; have := HBB.out.1; omega))
        have HB3 := Lib.hid (Nat.le_trans HBB.out.2 ht3.size)
        clear HMK hs3 ht3 HO hx hix
        go_wp2_with fail
        go_roundw
        case rel => exact ⟨i + 1, _, _, by have := HLT.out; omega, by go_num, HS3.out, HO3.out, HM.out, HBB.out.1, HB3.out⟩
        case measure => simp [intOf]; have := HLT.out; omega
      · rw [hc] at hm
        have HMK := Lib.hid hm
        clear hc hm
        go_wp2_with fail
        refine HMK.out.mono ?_
        rintro e w3 ⟨rfl, hs3, ht3⟩
        have HS3 := Lib.hid hs3
        have HO3 := Lib.hid (HO.out.touch ht3 (fun g hg hk => by simp at hk; subst hk; have := own_ge11 HO.out _ hg; have := HBB.out.1; omega))
        have HB3 := Lib.hid (Nat.le_trans HBB.out.2 ht3.size)
        clear HMK hs3 ht3 HO hx hix
        go_wp2_with fail
        go_roundw
        case rel => exact ⟨i + 1, _, _, by have := HLT.out; omega, by go_num, HS3.out, HO3.out, HM.out, HBB.out.1, HB3.out⟩
        case measure => simp [intOf]; have := HLT.out; omega
      · rw [hc] at hm
        have HMK := Lib.hid hm
        have HNX := Lib.hid (mk_add HM.out x0 x1 xF)
        clear hc hm x0 x1 xF HM
        go_wp2_with fail
        refine HMK.out.mono ?_
        rintro e w3 ⟨rfl, hs3, ht3⟩
        have HS3 := Lib.hid hs3
        have ho3 : w3.ownsRow B 31 1 _ L.length (u32n L) := HO.out.touch ht3 (fun g hg hk => by simp at hk; subst hk; have := own_ge11 HO.out _ hg; have := HBB.out.1; omega)
        obtain ⟨u, cap, hv, _⟩ := own_sl ho3
        subst hv
        have hB3 : B ≤ w3.heap.size := Nat.le_trans HBB.out.2 ht3.size
        have HO3 := Lib.hid (ho3.alloc (.cells #[Value.int .u32 (x : Int)] 31))
        have HB3 := Lib.hid hB3
        clear HMK hs3 ht3 ho3 HO hB3 hx hix
        go_wp2_with (at_builtin; go_must (with_reducible refine wpList_append_own _ rfl _ _ 32 rfl B 31 i0 (.int .u32 0) 1 4 Tryd.underlying32 HI.out HZ.out.1 HZ.out.2.1 HZ.out.2.2 rfl (by decide) (.slice u L.length cap) L.length (u32n L) rfl HO3.out ⟨w3.heap.size, 0, none⟩ 1 1 [.int .u32 (x : Int)] rfl rfl ?c1 ?c2 ?c3 ?c4 ?c5 ?_))
        case c1 => exact cell_one_new _ _ _
        case c2 => intro u hu; simp only [List.mem_cons, List.not_mem_nil, or_false] at hu; subst hu; rfl
        case c3 => unfold maxLen; omega
        case c4 => omega
        case c5 => have := HB3.out; simp; omega
        intro v' w4 hown' hgrow _
        have hba := (Below.refl w3.heap.size w3).alloc (Nat.le_refl _) (.cells #[Value.int .u32 (x : Int)] 31)
        have HW := Lib.hid (show OU w4 B v' (L ++ [x]) from by unfold OU; rw [List.length_append, u32n_append]; exact hown')
        have HS4 := Lib.hid ((HS3.out.below hba).touch (Touch.grown hgrow) (fun hk => by have := own_ge11 HO3.out S (by simpa using hk); have := HBB.out.1; omega) (fun k hk => by have := own_ge11 HO3.out k (by simpa using hk); have := HBB.out.1; have := HS3.out.new; omega))
        have HB4 := Lib.hid (show B ≤ w4.heap.size by have := hgrow.size; have := hba.size; have := HB3.out; omega)
        clear hown' hgrow hba HO3 HS3
        go_wp2_with fail
        go_roundw
        case rel => exact ⟨i + 1, _, _, by have := HLT.out; omega, by go_num, HS4.out, HW.out, HNX.out, HBB.out.1, HB4.out⟩
        case measure => simp [intOf]; have := HLT.out; omega
    · obtain rfl : i = len0 := by omega
      obtain ⟨v7x, cap7, hv7, _⟩ := own_sl ho
      subst hv7
      obtain ⟨n, hn⟩ : ∃ n, L.length = n := ⟨_, rfl⟩
      rw [hn] at ho
      have hmn := hM.2.2
      obtain ⟨z, hz⟩ : ∃ z, cnt F 64 = z := ⟨_, rfl⟩
      have HL := Lib.hid (so_left w _ S 64 F hs)
      rw [hz] at HL
      have hkn : (tkn F 64).length = n := by
        have := tkn_count F (fun x hx => (hs.sp.own x hx).1) 64 (by decide)
        omega
      have HTA := Lib.hid (so_takenU w _ S 64 n F hs hkn)
      have HO := Lib.hid ho
      have HS := Lib.hid hs
      have HM := Lib.hid hM
      have HN := Lib.hid hn
      have HBB := Lib.hid (And.intro hSB hB)
      have zn : (z : Int) = 62 - (n : Int) := by omega
      have nI : (n : Int) ≤ 62 := by omega
      clear hz hkn hmn hM hs ho hn hi hlt hSB hB HU
      rw [HN.out]
      go_wp2_with fail
      refine HL.out.mono ?_
      rintro e w6 ⟨rfl, rfl⟩
      clear HL
      go_wp2_with fail
      refine HTA.out.mono ?_
      rintro e w7 ⟨a7, c7, rfl, _, hs7, hb7⟩
      have HS7 := Lib.hid hs7
      have hO7 : OU w7 B (.slice v7x n cap7) L := HO.out.below hb7
      have HO7 := Lib.hid hO7
      have hB7 := Nat.le_trans HBB.out.2 hb7.size
      obtain ⟨q, hq⟩ : ∃ q : Nat, a1 % (n + 1) = q := ⟨_, rfl⟩
      have hqn : q ≤ n := by have := Nat.mod_lt a1 (show 0 < n + 1 by omega); omega
      have HQ := Lib.hid (show ((a1 : Int)).tmod ((n : Int) + 1) = (q : Int) by rw [Int.tmod_eq_emod_of_nonneg (by omega), ← hq]; simp)
      have HQ2 := Lib.hid (show ((a1 : Int)) % ((n : Int) + 1) = (q : Int) by rw [← hq]; simp)
      obtain ⟨x1, c1', _, u1, d1, _⟩ := us_cut w7 B n cap7 q n v7x L hO7 HN.out (fun x hx => by have := HM.out.1 x hx; omega) hqn (Nat.le_refl _)
      have c1 := c1' rfl
      clear c1'
      rw [List.take_of_length_le (by rw [List.length_drop, HN.out]; exact Nat.le_refl _)] at u1
      obtain ⟨x2, _, c2', u2, d2, _⟩ := us_cut w7 B n cap7 0 q v7x L hO7 HN.out (fun x hx => by have := HM.out.1 x hx; omega) (Nat.zero_le _) hqn
      have c2 := c2' rfl
      clear c2'
      rw [List.drop_zero, Nat.sub_zero, Nat.sub_zero] at u2
      rw [Nat.sub_zero, Nat.sub_zero] at c2
      rw [Nat.sub_zero] at d2
      obtain ⟨dn, hdn⟩ : ∃ dn, n - q = dn := ⟨_, rfl⟩
      obtain ⟨dc, hdc⟩ : ∃ dc, cap7 - q = dc := ⟨_, rfl⟩
      rw [hdn, hdc] at c1 u1
      rw [hdc] at d1
      have hWl := ((Below.refl w7.heap.size w7).drew).alloc (Nat.le_refl _) (.cells #[] 31)
      obtain ⟨v8, w8, r1, o1, g1, _⟩ := run_append_US (w7.drew.alloc (.cells #[] 31)) w7.heap.size 0 dn dc _ x1 [] (L.drop q) (own_lit0d w7 w7.heap.size (Nat.le_refl _)) (u1.below hWl) d1 (by omega) (by simp)
      rw [Nat.zero_add] at o1
      obtain ⟨y8, k8, hv8, _⟩ := own_sl o1
      subst hv8
      have hb8 := hWl.grown g1 (by simp) (fun k hk => by simp [Value.ownBlock] at hk; omega)
      obtain ⟨v9, w9, r2, o2, g2, _⟩ := run_append_US w8 w7.heap.size dn q cap7 _ x2 ([] ++ L.drop q) (L.take q) o1 (u2.below hb8) d2 (by omega) hb8.size
      have hlen : dn + q = n := by omega
      rw [hlen] at o2
      obtain ⟨y9, k9, hv9, _⟩ := own_sl o2
      subst hv9
      have hb9 := hb8.grown g2 hb8.size (fun k hk => by simp [Value.ownBlock] at hk; exact own_ge11 o1 k (by simp [Value.ownBlock, hk]))
      have HMM := Lib.hid (show MG F (L.drop q ++ L.take q) ∧ (L.drop q ++ L.take q).length = n from ⟨mg_turn HM.out q, by rw [List.length_append, List.length_drop, List.length_take, HN.out]; omega⟩)
      have HTU := Lib.hid (show TU w9 w7.heap.size y9 n k9 (L.drop q ++ L.take q) from tu_own (by unfold OU; rw [HMM.out.2]; rw [List.nil_append] at o2; exact o2) (fun x hx => by have := HMM.out.1.1 x hx; omega) HMM.out.2.symm)
      have HS9 := Lib.hid (hs7.below hb9)
      have HR1 := Lib.hid r1
      have HR2 := Lib.hid r2
      have HC1 := Lib.hid c1
      have HC2 := Lib.hid c2
      have HSL := Lib.hid hs7.lt
      have HZZ := Lib.hid (show cnt F 64 + n = 62 by have := HM.out.2.2; have := HN.out; omega)
      generalize L.drop q ++ L.take q = M at *
      clear hdn hdc HTA hs7 hb7 hO7 hB7 r1 r2 o1 o2 g1 g2 c1 c2 u1 u2 d1 d2 hWl hb8 hb9 hlen HO7 HO HM HN HBB HS
      have hq1 := HQ.out
      have hq2 := HQ2.out
      have qI : (q : Int) ≤ (n : Int) := by omega
      have q0 : (0 : Int) ≤ (q : Int) := by omega
      clear hq hqn
      go_upto_region 16 with fail
      try simp only [Act.put]
      refine wp_region_noPanic ?_
      refine wp_region_held_drew (S := fun _ => True) (by kernel_rfl) trivial (fun hHeld => ?_)
      have c1 := HC1.out
      have c2 := HC2.out
      refine wpAnyH_take (i := 1) (oi := ⟨some 64, _, _, _, _, _⟩) (v := ?_) rfl (by kernel_rfl) (by decide +kernel) (by decide +kernel) (fun _ _ _ h => h) (Or.inl ⟨by rfl, ?_⟩) (by assumption) ?_
      rotate_left 1
      · (intro w' hSw; go_simp; try with_reducible rfl)
      try simp only [Act.put, List.setIfInBounds_toArray, List.set_cons_zero, List.set_cons_succ]
      refine wpAnyH_take (i := 2) (oi := ⟨some 65, _, _, _, _, _⟩) (v := ?_) rfl (by kernel_rfl) (by decide +kernel) (by decide +kernel) (fun _ _ _ h => h) (Or.inl ⟨by rfl, ?_⟩) (by assumption) ?_
      rotate_left 1
      · (intro w' hSw; go_simp; try with_reducible rfl)
      try simp only [Act.put, List.setIfInBounds_toArray, List.set_cons_zero, List.set_cons_succ]
      refine wpAnyH_take (i := 3) (oi := ⟨some 66, _, _, _, _, _⟩) (v := ?_) rfl (by kernel_rfl) (by decide +kernel) (by decide +kernel) (fun _ _ _ h => h) (Or.inl ⟨by rfl, ?_⟩) (by assumption) ?_
      rotate_left 1
      · (intro w' hSw; go_simp; try with_reducible rfl)
      try simp only [Act.put, List.setIfInBounds_toArray, List.set_cons_zero, List.set_cons_succ]
      refine wpAnyH_take (i := 5) (oi := ⟨some 68, _, _, _, _, _⟩) (v := ?_) rfl (by kernel_rfl) (by decide +kernel) (by decide +kernel) (fun _ _ _ h => h) (Or.inl ⟨by rfl, ?_⟩) (by assumption) ?_
      rotate_left 1
      · (intro w' hSw; go_simp; try with_reducible rfl)
      try simp only [Act.put, List.setIfInBounds_toArray, List.set_cons_zero, List.set_cons_succ]
      refine wpAnyH_take (i := 6) (oi := ⟨some 69, _, _, _, _, _⟩) (v := ?_) rfl (by kernel_rfl) (by decide +kernel) (by decide +kernel) (fun _ _ _ h => h) (Or.inl ⟨by rfl, ?_⟩) (by assumption) ?_
      rotate_left 1
      · (intro w' hSw; go_simp; try with_reducible rfl)
      try simp only [Act.put, List.setIfInBounds_toArray, List.set_cons_zero, List.set_cons_succ]
      refine wpAnyH_take (i := 7) (oi := ⟨some 70, _, _, _, _, _⟩) (v := ?_) rfl (by kernel_rfl) (by decide +kernel) (by decide +kernel) (fun _ _ _ h => h) (Or.inl ⟨by rfl, ?_⟩) (by assumption) ?_
      rotate_left 1
      · (intro w' hSw; go_simp; try with_reducible rfl)
      try simp only [Act.put, List.setIfInBounds_toArray, List.set_cons_zero, List.set_cons_succ]
      refine wpAnyH_take (i := 10) (oi := ⟨some 73, _, _, _, _, _⟩) (v := ?_) rfl (by kernel_rfl) (by decide +kernel) (by decide +kernel) (fun _ _ _ h => h) (Or.inl ⟨by rfl, ?_⟩) (by assumption) ?_
      rotate_left 1
      · (intro w' hSw; go_simp; try with_reducible rfl)
      try simp only [Act.put, List.setIfInBounds_toArray, List.set_cons_zero, List.set_cons_succ]
      clear c1 c2
      refine wpAnyH_ready (rs := [0]) (by decide +kernel) (by simp) ?_
      refine AllReadyH.cons rfl (fun K hK => ?_) AllReadyH.nil
      refine wp_lit_at (o := ⟨some 63, _, _, _, _, _⟩) 32 0 #[] rfl #[] (by simp) _ _ (run_lit0d _) ?_
      refine hK.out _ _ trivial (fun hHeld => ?_)
      clear hK K
      try simp only [Act.put, List.setIfInBounds_toArray, List.set_cons_zero, List.set_cons_succ]
      refine wpAnyH_ready (rs := [4]) (by decide +kernel) (by simp) ?_
      refine AllReadyH.cons rfl (fun K hK => ?_) AllReadyH.nil
      refine wp_append_at (o := ⟨some 67, _, _, _, _, _⟩) (.tmp 63) (.tmp 66) 32 rfl _ _ rfl rfl _ _ HR1.out ?_
      refine hK.out _ _ trivial (fun hHeld => ?_)
      clear hK K
      try simp only [Act.put, List.setIfInBounds_toArray, List.set_cons_zero, List.set_cons_succ]
      refine wpAnyH_ready (rs := [8]) (by decide +kernel) (by simp) ?_
      refine AllReadyH.cons rfl (fun K hK => ?_) AllReadyH.nil
      refine wp_append_at (o := ⟨some 71, _, _, _, _, _⟩) (.tmp 67) (.tmp 70) 32 rfl _ _ rfl rfl _ _ HR2.out ?_
      refine hK.out _ _ trivial (fun hHeld => ?_)
      clear hK K
      try simp only [Act.put, List.setIfInBounds_toArray, List.set_cons_zero, List.set_cons_succ]
      refine wpAnyH_take (i := 9) (oi := ⟨some 72, _, _, _, _, _⟩) (v := ?_) rfl (by kernel_rfl) (by decide +kernel) (by decide +kernel) (fun _ _ _ h => h) (Or.inl ⟨by rfl, ?_⟩) (by assumption) ?_
      rotate_left 1
      · (intro w' hSw; go_simp; try with_reducible rfl)
      try simp only [Act.put, List.setIfInBounds_toArray, List.set_cons_zero, List.set_cons_succ]
      clear hHeld
      refine wpAnyH_done (by decide +kernel) ?_ _
      refine NoPanic.normal ?_
      go_wp2_with fail
      go_loopw [12, 73] (fun _ v73 wr => ∃ (j : Nat) (G : Nat → Bool), j ≤ n ∧ v73 = .int .i64 (j : Int) ∧ SO w wr S 64 G ∧ TU wr w7.heap.size y9 n k9 M ∧ MG G (M.drop j) ∧ cnt G 64 + (n - j) = 62) (fun _ v _ => n - (intOf v).toNat)
      case atStart => exact ⟨0, F, by omega, rfl, HS9.out, HTU.out, by rw [List.drop_zero]; exact HMM.out.1, by have := HZZ.out; omega⟩
      case round =>
        clear HS9 HTU
        obtain ⟨j, G, hj, rfl, hs, ht, hg, hc⟩ := hrel
        by_cases hjl : j < n
        · obtain ⟨b2, o2, rfl, hx⟩ := ht.us.at hjl
          have hix := index_u32 b2 o2 n k9 j hjl
          obtain ⟨gx, gr, gc⟩ := mg_next hg (by rw [HMM.out.2]; exact hjl)
          generalize M.getD j 0 = x at *
          have hf := so_free w _ S 64 x G hs
          rw [free_ok gx.2.1 gx.2.2 gx.1] at hf
          have HF := Lib.hid hf
          have HG := Lib.hid (And.intro gr (gc 64 gx.2.2))
          have HC := Lib.hid hc
          have HT := Lib.hid ht
          have HLT := Lib.hid hjl
          have jI : (j : Int) < (n : Int) := by omega
          have j0 : (0 : Int) ≤ (j : Int) := by omega
          clear hs ht hg hc gx gr gc hf hj hjl
          go_wp2_with fail
          refine HF.out.mono ?_
          rintro e w11 ⟨rfl, hs11, ht11⟩
          have HS11 := Lib.hid hs11
          have HT11 := Lib.hid (HT.out.touch ht11 (by intro k hk; simp at hk; subst hk; exact HSL.out))
          clear HF hs11 ht11 hx hix
          go_wp2_with fail
          go_roundw
          case rel => exact ⟨j + 1, _, by have := HLT.out; omega, by go_num, HS11.out, HT11.out, HG.out.1, by have := HG.out.2; have := HC.out; have := HLT.out; omega⟩
          case measure => simp [intOf]; have := HLT.out; omega
        · obtain rfl : j = n := by omega
          rw [Nat.sub_self, Nat.add_zero] at hc
          have HL := Lib.hid (so_left w _ S 64 G hs)
          rw [hc] at HL
          have hkn : (tkn G 64).length = 0 := by
            have := tkn_count G (fun x hx => (hs.sp.own x hx).1) 64 (by decide)
            omega
          have HTA := Lib.hid (so_takenU w _ S 64 0 G hs hkn)
          clear hs ht hg hc hkn hj hjl
          go_wp2_with fail
          refine HL.out.mono ?_
          rintro e w12 ⟨rfl, rfl⟩
          clear HL
          go_wp2_with fail
          refine HTA.out.mono ?_
          rintro e w13 ⟨a13, c13, rfl, _, hs13, _⟩
          have HS13 := Lib.hid hs13
          clear HTA hs13
          go_wp2_with fail
          go_ret
          exact ⟨rfl, HS13.out.bel⟩
set_option maxRecDepth 100000 in
theorem lifted (os : Os) (started : os.Started) (H : Type) (enc : TypeId × Value → H) :
    ReturnsInHanded {} Tryd.checked os 9 .any (fun w args => (Rows.spaceManySpec.pre enc Tryd.prog Tryd.f9 [] false w args ∧ laidMetH Tryd.prog [("math/bits.deBruijn64tab", Rows.laid_math_bits_deBruijn64tab)] w) ∧ sizedMet enc Tryd.prog Tryd.f9 (OpenSpec.ofChange Rows.spaceManySpec) false w args)
      (Rows.spaceManySpec.post enc Tryd.prog Tryd.f9 false true false false) := by
  refine returnsInHanded_of_change_and (C := Tryd.checked) (X := fun w _ => laidMetH Tryd.prog [("math/bits.deBruijn64tab", Rows.laid_math_bits_deBruijn64tab)] w) (fun _ _ _ hh h => h.of_heap hh) own11 started (by kernel_rfl) Tryd.func9
    (ChangeSpec.witness_shaped (enc := enc) (C := Tryd.checked) (os := os) (X := fun w _ => laidMetH Tryd.prog [("math/bits.deBruijn64tab", Rows.laid_math_bits_deBruijn64tab)] w) false (World.doorLaid Tryd.prog 400 os) #[.slice none 0 0, .int .u8 0] 8 rfl (World.shaped_of_RefB (by kernel_rfl) (by kernel_rfl)) (by kernel_rfl) (by kernel_rfl) (by kernel_rfl) (door_met11 os _)) ?_
  intro W base args ds gs before hval0 hW _ hsz0 hL _
  have hval : ∀ (j : Nat) t v, Tryd.f9.params[j]? = some t → args[j]? = some v → Value.okWide Tryd.prog W .any base t v := hval0
  have hsz : (DataW.weightsEach Tryd.prog (Tryd.f9.params.toList ++ Rows.spaceManySpec.plain.varTypes Tryd.prog) (ds ++ gs)).all (· ≤ reachBytes) = true := hsz0
  clear hsz0
  have hW' := hW
  obtain ⟨p, q, hA0, hV, rfl, hfz, hnd⟩ := hW
  have hA : DataW.TrodAll enc Tryd.prog W 0 (fun _ => true) true Tryd.f9.params.toList args.toList ds p := hA0
  rw [Tryd.params9] at hA hval hsz
  obtain ⟨v0, vs0, d0, ds0, p0, q0, hargs, rfl, rfl, h0, r0⟩ := trodAll_cons hA
  obtain ⟨v1, vs1, d1, ds1, p1, q1, rfl, rfl, rfl, h1, r1⟩ := trodAll_cons r0
  obtain ⟨rfl, rfl, rfl⟩ := trodAll_nil r1
  obtain rfl : args = #[v0, v1] := by cases args; simp_all
  obtain ⟨rfl, rfl⟩ := trodVars_none hV
  have k0 := h0
  have lt0 : ∀ x ∈ p0, x.block < W.heap.size := by obtain ⟨m, hm⟩ := k0; exact DataW.trod_lt m _ _ _ hm
  have k1 := h1
  have lt1 : ∀ x ∈ p1, x.block < W.heap.size := by obtain ⟨m, hm⟩ := k1; exact DataW.trod_lt m _ _ _ hm
  obtain ⟨l0, a0, len0, cap0, rfl, us0, cp0, bg0⟩ := par_u32s (j := 0) (hval 0 32 v0 rfl rfl) h0 hsz rfl rfl
  obtain ⟨a1, rfl, sm1⟩ := par_nat8 (j := 1) (hval 1 5 v1 rfl rfl) h1 hsz rfl rfl
  have hK := of_laid11 hL
  clear hA0 hval0
  refine (walk W l0 a0 len0 cap0 us0 cp0 bg0 a1 sm1 hK).mono fun e W' ⟨he, bel⟩ => ?_
  subst he
  exact ⟨_, rfl, _, _, _, [], _, [], hW', trodAll_mk1 (shut_bool Tryd.underlying4 _), (trodAll_cons_mk (Below.trod laidOut11 (by kernel_rfl) (of_decide_eq_true (by kernel_rfl)) k0 bel lt0) (trodAll_cons_mk (Below.trod laidOut11 (by kernel_rfl) (of_decide_eq_true (by kernel_rfl)) k1 bel lt1) trodAll_mk0)), rfl, bel.frame _, fun h => by cases h⟩

theorem over : Rows.SpaceManySaid :=
  OpenClaim.holds_of_wide 9 Tryd.f9 rfl rfl rfl rfl rfl rfl rfl ⟨rfl, rfl, rfl, rfl, rfl⟩ rfl rfl rfl rfl rfl (by kernel_rfl) Tryd.func9 (by kernel_rfl)
    (of_decide_eq_true (by kernel_rfl)) (by unfold Func.isWrapper; first | (rw [if_pos (by decide +kernel)]; kernel_rfl) | (rw [if_neg (by decide +kernel)]; exact ⟨rfl, rfl⟩))
    (fun os started H enc _ => lifted os started H enc)

/-- The statement. -/
theorem proved : Rows.SpaceManyCardSaid :=
  Claim7.holds_tied_plain_at .later [] [.data] true (true, "3aca2102f0461fcd0b44e8c06fdc99553a88198ed7149c61c15f7a0c181ac545") false
    over (fun _ h => by cases h) (by kernel_rfl) (fun _ h => by cases h) spaceMany_row_tie rfl ⟨rfl, rfl⟩ (by kernel_rfl) rfl
    (fun f fn hf hfn => by
      obtain rfl : f = 9 := Option.some.inj ((show Tryd.prog.funcNamed "banyan/banyanlaw11.SpaceMany" = some 9 by kernel_rfl).symm.trans hf) |>.symm
      obtain rfl : fn = Tryd.f9 := (Option.some.inj (Tryd.func9.symm.trans hfn)).symm
      exact ⟨by kernel_rfl, fun j t ht => by
        rw [Tryd.params9] at ht
        have hm : t ∈ [32, 5] := by simpa using Array.mem_of_getElem? ht
        have hall : ([32, 5].all fun u => !Tryd.prog.wantsStandIn u) = true := by kernel_rfl
        exact (show Tryd.prog.wantsStandIn t = false by simpa using List.all_eq_true.1 hall t hm)⟩)
    (by kernel_rfl)
#print axioms proved
end Go.Proofs.YtpeemnkhcgapnaaDoor.spaceMany
