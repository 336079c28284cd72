/-
  'PtrAlike' returns true at every input, and each argument reads behind the call as it read before. Conditions: none.
-/
import Derived.Test.YtbnclmlbennhaaaRows
import Derived.Test.YtbnclmlbennhaaaYLaid
import Derived.Test.YtbnclmlbennhaaaAb
namespace Go.Proofs.Ytbnclmlbennhaaa.ptrAlike
open Go.ChangeShapes Go.WideShapes Go.ChangeAt Go.RowKit
set_option linter.unusedVariables false

theorem allL_short (L : List PtrV) : (allL L).length ≤ L.length := by
  have h1 : ∀ (q : PtrV) (l : List PtrV), (ins8 q l).length ≤ l.length + 1 := by
    intro q l
    induction l with
    | nil => simp [ins8]
    | cons p r ih =>
      unfold ins8
      split
      · simp only [List.length_cons]; omega
      · split <;> simp
  have h2 : ∀ (L out : List PtrV), (L.foldl (fun out q => ins8 q out) out).length ≤ out.length + L.length := by
    intro L
    induction L with
    | nil => intro out; simp
    | cons q L ih =>
      intro out
      have := ih (ins8 q out)
      have := h1 q out
      simp only [List.foldl_cons, List.length_cons]
      omega
  have h3 := h2 L []
  simpa [allL] using h3
theorem allL_same {L M : List PtrV} (h : ∀ q, L.count q = M.count q) : allL L = allL M :=
  rise_eq (allL_rise L) (allL_rise M) (fun x => by rw [mem_allL, mem_allL, ← List.count_pos_iff, ← List.count_pos_iff, h])
theorem empty_counts {L : List PtrV} (h : ∀ q, L.count q = 0) : L = [] := by
  cases L with
  | nil => rfl
  | cons p r => have := h p; simp at this
theorem ptrs_later {w w' : World} {x : List PtrV} {a : Option Addr} {n c : Nat} (h : Ptrs w x a n c) (hb : Below w.heap.size w w') : Ptrs w' x a n c :=
  ⟨h.len, h.cap, h.big, fun j hj => by
    obtain ⟨b, off, cs, h1, h2, h3, h4⟩ := h.here j hj
    exact ⟨b, off, cs, h1, h2, h3, range_below h4 hb⟩⟩

set_option maxRecDepth 100000 in
set_option maxHeartbeats 3200000 in
theorem walk (w : World) (a0 : Option Addr) (len0 cap0 : Nat) (x0 : List PtrV) (sl0 : SlR RPtrV 34 w x0 a0 len0 cap0) (z1 : Int) (za1 : 0 ≤ z1) (zb1 : z1 ≤ 255) :
    Calls Try.prog 9 #[.slice a0 len0 cap0, .int .u8 z1] w fun e w' => e = .returned (.bool true) ∧ Below w.heap.size w w' := by
  obtain ⟨z, rfl⟩ : ∃ z : Nat, z1 = (z : Int) := ⟨z1.toNat, by omega⟩
  have lI : (len0 : Int) ≤ 140737488351232 := by have := sl0.big; have := sl0.cap; omega
  have l0 : (0 : Int) ≤ (len0 : Int) := by omega
  have HSL := Lib.hid sl0
  have HA := Lib.hid (alive8_any w)
  have HZ := Lib.hid zb1
  clear sl0 za1 zb1
  by_cases hbig : 100 < len0
  · have hbI : (100 : Int) < (len0 : Int) := by omega
    clear hbig
    go_enter Try.func9, Try.ntmps9
    go_wp2_with fail
    refine HA.out.mono ?_
    rintro e w1 ⟨rfl, hb1⟩
    have HB1 := Lib.hid hb1
    clear hb1 HA
    go_wp2_with fail
    go_ret
    exact ⟨rfl, HB1.out⟩
  have hsm : (len0 : Int) ≤ 100 := by omega
  have HS0 := Lib.hid (show len0 ≤ 100 by omega)
  have HLN := Lib.hid HSL.out.len
  have xz : IntKind.i64.wrap (z : Int) = (z : Int) := IntWalk.i64_in _ (by have := HZ.out; omega)
  obtain ⟨k, hk⟩ : ∃ k : Nat, (z : Int).tmod ((len0 : Int) + 1) = (k : Int) := ⟨((z : Int) % ((len0 : Int) + 1)).toNat, by rw [Int.tmod_eq_emod_of_nonneg (by omega), Int.toNat_of_nonneg (Int.emod_nonneg _ (by omega))]⟩
  have hk2 : (z : Int) % ((len0 : Int) + 1) = (k : Int) := by rw [← hk, Int.tmod_eq_emod_of_nonneg (by omega)]
  have HKL := Lib.hid (show k ≤ len0 by have := Int.emod_lt_of_pos (z : Int) (show (0 : Int) < (len0 : Int) + 1 by omega); omega)
  have HHK := Lib.hid hk
  have HHK2 := Lib.hid hk2
  clear hbig hk hk2 lI
  have hzp := zero_ptr
  have HZL := Lib.hid (fun q : PtrV => show (ptrRow zeroPtr).toArray.size = (ptrRow q).toArray.size by simp [ptrRow_length])
  obtain ⟨ZA, hZA⟩ : ∃ ZA, (ptrRow zeroPtr).toArray = ZA := ⟨_, rfl⟩
  rw [hZA] at hzp HZL
  have HZA := Lib.hid hZA
  clear hZA
  go_enter Try.func9, Try.ntmps9
  go_wp2_with fail
  refine HA.out.mono ?_
  rintro e w1 ⟨rfl, hb1⟩
  have HN1 := Lib.hid (pnew8 w w1 hb1)
  clear hb1 HA
  go_wp2_with fail
  refine HN1.out.mono ?_
  rintro e w2 ⟨rfl, hc2, hb2⟩
  have HC2 := Lib.hid hc2
  have HN2 := Lib.hid (pnew8 w w2 hc2.bel)
  clear hb2 hc2 HN1
  go_wp2_with fail
  refine HN2.out.mono ?_
  rintro e w3 ⟨rfl, hd3, hb3⟩
  have H3 := Lib.hid (show C2 w w3 w1.heap.size w2.heap.size (.map none) (.map none) [] [] 0 from
    ⟨HC2.out.below hb3, hd3, fun g hg hm => by
      have := HC2.out.lt
      simp only [mbl, List.mem_singleton] at hg hm
      omega⟩)
  clear hb3 hd3 HN2 HC2
  generalize w1.heap.size = C at *
  generalize w2.heap.size = D at *
  have hk := HHK.out
  have hk2 := HHK2.out
  go_upto_region 7 with fail
  go_wp2_with fail
  clear hk hk2 xz
  go_loopw [9, 33] (fun _ v33 wr => ∃ (i : Nat) (mv : Value), i ≤ len0 ∧ v33 = .int .i64 (i : Int) ∧ C2 w wr C D mv (.map none) (x0.take i) [] i) (fun _ v _ => len0 - (intOf v).toNat)
  case atStart => exact ⟨0, _, by omega, rfl, H3.out⟩
  case round =>
    obtain ⟨i, mv, hi, rfl, hW⟩ := hrel
    by_cases hlt : i < len0
    · obtain ⟨b, off, q, rfl, hxi, hrg⟩ := ptrs_at HSL.out hW.c.bel hlt
      have hix := index_ptr b off len0 cap0 i hlt
      have SWC := Lib.hid (size_ptr q)
      have SWR := Lib.hid (size_ptrA q)
      have EW := Lib.hid (HZL.out q)
      have WO := Lib.hid (ptrRow_one q)
      have HRG := Lib.hid hrg
      have HLT := Lib.hid hlt
      have iI : (i : Int) < (len0 : Int) := by omega
      have i0 : (0 : Int) ≤ (i : Int) := by omega
      have HW := Lib.hid hW
      have HNX := Lib.hid (show x0.take (i + 1) = x0.take i ++ [q] by rw [List.take_add_one, hxi]; rfl)
      clear hi hlt hrg hxi hW
      go_upto_region 10 with (first
        | (with_reducible refine wpList_load_mid (op := ⟨some 36, _, _, _, _, _⟩) rfl 27 _ rfl b (off + i * 34) rfl (ptrRow q) _ HRG.out Try.underlying27 rfl SWC.out ?_)
        | (with_reducible refine wpList_store_row (o := ⟨none, .store _ (.tmp 9) _, _, _, _, _⟩) rfl 27 _ _ rfl wr.heap.size (ptrRow q).toArray rfl rfl 27 ZA (heap_alloc_new wr _) SWR.out EW.out WO.out ?_))
      clear hix
      obtain ⟨h7, hb7⟩ := new_row8 wr ZA (ptrRow q).toArray
      generalize World.setRow _ wr.heap.size _ = w7 at *
      have H7 := Lib.hid h7
      have HW7 := Lib.hid (HW.out.below hb7)
      have HAD := Lib.hid (padd8 w w7 C i mv _ q HW7.out.c (by have := HLT.out; have := HS0.out; omega) (by rw [List.length_take]; have := HS0.out; omega))
      clear h7 hb7 HRG SWC EW WO HW
      generalize (ptrRow q).toArray = AR at *
      go_wp2_with (first
        | (with_reducible refine wpList_load_row (o := ⟨some 38, _, _, _, _, _⟩) rfl 27 _ rfl wr.heap.size rfl 27 AR (0, 0) _ H7.out Try.underlying27 rfl SWR.out ?_))
      refine HAD.out.mono ?_
      rintro e w8 ⟨rfl, mv', hc8, hs8⟩
      have HW8 := Lib.hid (HW7.out.step hc8 hs8)
      rw [← HNX.out] at HW8
      clear hc8 hs8 HAD HW7 H7
      go_wp2_with fail
      go_roundw
      case rel => exact ⟨i + 1, _, by have := HLT.out; omega, by go_num, HW8.out⟩
      case measure => simp [intOf]; have := HLT.out; omega
    · obtain rfl : i = len0 := by omega
      rw [List.take_of_length_le (by have := HLN.out; omega)] at hW
      have HW := Lib.hid hW
      clear hi hlt hW H3
      have HPI := Lib.hid (ps_in (w := wr) (x := x0) (a := a0) (n := i) (c := cap0) ⟨HSL.out.len, HSL.out.cap, HSL.out.big, fun j hj => by
        obtain ⟨b, off, cs, h1, h2, h3, h4⟩ := HSL.out.here j hj
        exact ⟨b, off, cs, h1, h2, h3, range_below h4 HW.out.c.bel⟩⟩)
      have HCAP := Lib.hid HSL.out.cap
      obtain ⟨a2, hs2, hp2⟩ := cut_ps wr a0 i cap0 k x0 HPI.out HKL.out HCAP.out
      obtain ⟨hs3, hp3⟩ := to_ps wr a0 i cap0 k x0 HPI.out HKL.out HCAP.out
      generalize (if cap0 = 0 then a0 else a0.map (·.add 0)) = a3 at *
      have hm1 : Below wr.heap.size wr (wr.alloc (.cells #[] 27)).drew := ((Below.refl _ wr).alloc (Nat.le_refl _) _).drew
      have LN := Lib.hid (fun W => lit_noptr W)
      have how : (wr.alloc (.cells #[] 27)).drew.ownsRow wr.heap.size 27 34 (.slice (some ⟨wr.heap.size, 0, none⟩) 0 0) 0 (rowsP []) :=
        World.ownsRow_lit (base := wr.heap.size) (e := 27) (size := 34) wr.drew #[] 0 (Nat.le_refl _) (by decide) rfl
      obtain ⟨a5, c5, w5, hr5, ho5, hg5, _⟩ := append_ps _ wr.heap.size 0 _ _ [] _ how (hp2.below hm1) (by omega) (by rw [List.length_drop, HLN.out]; have := HS0.out; omega) hm1.size
      have hm2 : Below wr.heap.size wr w5 := hm1.trans (below_grown8 hm1.size hg5 (Nat.le_refl _))
      obtain ⟨a6, c6, w6, hr6, ho6, hg6, _⟩ := append_ps w5 wr.heap.size _ _ _ _ _ ho5 (hp3.below hm2) (by rw [List.length_drop, HLN.out]; have := HS0.out; omega) (by rw [List.length_take]; have := HS0.out; have := HKL.out; omega) hm2.size
      have hm3 : Below wr.heap.size wr w6 := hm2.grown hg6 hm2.size (fun g e => by
        obtain ⟨h1, _⟩ := ho5.lt g e
        exact h1)
      have hlen6 : 0 + (x0.drop k).length + (x0.take k).length = i := by rw [List.length_drop, List.length_take, HLN.out]; have := HKL.out; omega
      have hlen5 : 0 + (x0.drop k).length = i - k := by rw [List.length_drop, HLN.out]; omega
      rw [hlen6] at hr6 ho6
      rw [hlen5] at hr5 hr6
      have HM1 := Lib.hid hm1
      have HM2 := Lib.hid hm2
      have HM3 := Lib.hid hm3
      have HA1 := Lib.hid hr5
      have HA2 := Lib.hid hr6
      have HO6 := Lib.hid ho6
      have HW6 := Lib.hid (HW.out.below hm3)
      have HDL := Lib.hid HW.out.d.lt
      clear hm1 hm2 hm3 hr5 hr6 ho5 ho6 hg5 hg6 how hp2 hp3 hlen5 hlen6 HW
      go_upto_region 12 with fail
      try simp only [Act.put]
      refine wp_region_noPanic ?_
      refine wp_region_held_drew (S := fun W => Below wr.heap.size wr W) (by kernel_rfl) ((Below.refl _ wr).drew) (fun hHeld => ?_)
      refine wpAnyH_take (i := 1) (oi := ⟨some 42, _, _, _, _, _⟩) (v := ?_) rfl (by kernel_rfl) (by decide +kernel) (by decide +kernel) (fun _ _ _ h => h) (Or.inl ⟨by rfl, ?_⟩) (by assumption) ?_
      rotate_left 1
      · (intro w' hSw; go_simp; try with_reducible rfl)
      try simp only [Act.put, List.setIfInBounds_toArray, List.set_cons_zero, List.set_cons_succ]
      refine wpAnyH_take (i := 2) (oi := ⟨some 43, _, _, _, _, _⟩) (v := ?_) rfl (by kernel_rfl) (by decide +kernel) (by decide +kernel) (fun _ _ _ h => h) (Or.inl ⟨by rfl, ?_⟩) (by assumption) ?_
      rotate_left 1
      · (intro w' hSw; go_simp; try with_reducible rfl)
      try simp only [Act.put, List.setIfInBounds_toArray, List.set_cons_zero, List.set_cons_succ]
      refine wpAnyH_take (i := 3) (oi := ⟨some 44, _, _, _, _, _⟩) (v := ?_) rfl (by kernel_rfl) (by decide +kernel) (by decide +kernel) (fun _ _ _ h => h) (Or.inl ⟨by rfl, ?_⟩) (by assumption) ?_
      rotate_left 1
      · (intro w' hSw; go_simp; try with_reducible rfl)
      try simp only [Act.put, List.setIfInBounds_toArray, List.set_cons_zero, List.set_cons_succ]
      refine wpAnyH_take (i := 5) (oi := ⟨some 46, _, _, _, _, _⟩) (v := ?_) rfl (by kernel_rfl) (by decide +kernel) (by decide +kernel) (fun _ _ _ h => h) (Or.inl ⟨by rfl, ?_⟩) (by assumption) ?_
      rotate_left 1
      · (intro w' hSw; go_simp; try with_reducible rfl)
      try simp only [Act.put, List.setIfInBounds_toArray, List.set_cons_zero, List.set_cons_succ]
      refine wpAnyH_take (i := 6) (oi := ⟨some 47, _, _, _, _, _⟩) (v := ?_) rfl (by kernel_rfl) (by decide +kernel) (by decide +kernel) (fun _ _ _ h => h) (Or.inl ⟨by rfl, ?_⟩) (by assumption) ?_
      rotate_left 1
      · (intro w' hSw; go_simp; try with_reducible rfl)
      try simp only [Act.put, List.setIfInBounds_toArray, List.set_cons_zero, List.set_cons_succ]
      refine wpAnyH_take (i := 7) (oi := ⟨some 48, _, _, _, _, _⟩) (v := ?_) rfl (by kernel_rfl) (by decide +kernel) (by decide +kernel) (fun _ _ _ h => h) (Or.inl ⟨by rfl, ?_⟩) (by assumption) ?_
      rotate_left 1
      · (intro w' hSw; go_simp; try with_reducible rfl)
      try simp only [Act.put, List.setIfInBounds_toArray, List.set_cons_zero, List.set_cons_succ]
      refine wpAnyH_take (i := 10) (oi := ⟨some 51, _, _, _, _, _⟩) (v := ?_) rfl (by kernel_rfl) (by decide +kernel) (by decide +kernel) (fun _ _ _ h => h) (Or.inl ⟨by rfl, ?_⟩) (by assumption) ?_
      rotate_left 1
      · (intro w' hSw; go_simp; try with_reducible rfl)
      try simp only [Act.put, List.setIfInBounds_toArray, List.set_cons_zero, List.set_cons_succ]
      refine wpAnyH_ready (rs := [0]) (by decide +kernel) (by simp) ?_
      refine AllReadyH.cons rfl (fun K hK => ?_) AllReadyH.nil
      have hln := LN.out wr.drew
      go_simp
      refine hK.out _ _ HM1.out (fun hHeld => ?_)
      clear hK K hln
      try simp only [Act.put, List.setIfInBounds_toArray, List.set_cons_zero, List.set_cons_succ]
      refine wpAnyH_ready (rs := [4]) (by decide +kernel) (by simp) ?_
      refine AllReadyH.cons rfl (fun K hK => ?_) AllReadyH.nil
      rw [if_pos (by kernel_rfl)]
      refine wp_append_at (o := ⟨some 45, _, _, _, _, _⟩) (.tmp 41) (.tmp 44) 54 rfl _ _ rfl rfl _ _ HA1.out ?_
      refine hK.out _ _ HM2.out (fun hHeld => ?_)
      clear hK K
      try simp only [Act.put, List.setIfInBounds_toArray, List.set_cons_zero, List.set_cons_succ]
      refine wpAnyH_ready (rs := [8]) (by decide +kernel) (by simp) ?_
      refine AllReadyH.cons rfl (fun K hK => ?_) AllReadyH.nil
      rw [if_pos (by kernel_rfl)]
      refine wp_append_at (o := ⟨some 49, _, _, _, _, _⟩) (.tmp 45) (.tmp 48) 54 rfl _ _ rfl rfl _ _ HA2.out ?_
      refine hK.out _ _ HM3.out (fun hHeld => ?_)
      clear hK K
      try simp only [Act.put, List.setIfInBounds_toArray, List.set_cons_zero, List.set_cons_succ]
      refine wpAnyH_take (i := 9) (oi := ⟨some 50, _, _, _, _, _⟩) (v := ?_) rfl (by kernel_rfl) (by decide +kernel) (by decide +kernel) (fun _ _ _ h => h) (Or.inl ⟨by rfl, ?_⟩) (by assumption) ?_
      rotate_left 1
      · (intro w' hSw; go_simp; try with_reducible rfl)
      try simp only [Act.put, List.setIfInBounds_toArray, List.set_cons_zero, List.set_cons_succ]
      clear hHeld
      refine wpAnyH_done (by decide +kernel) ?_ _
      refine NoPanic.normal ?_
      have HPY := Lib.hid (show ∀ q, ([] ++ x0.drop k ++ x0.take k).count q = x0.count q by
        intro q
        conv => rhs; rw [← List.take_append_drop k x0]
        rw [List.nil_append, List.count_append, List.count_append]; omega)
      have HYL := Lib.hid (show ([] ++ x0.drop k ++ x0.take k).length = i by
        rw [List.nil_append, List.length_append, List.length_drop, List.length_take, HLN.out]; have := HKL.out; omega)
      obtain ⟨Y, hY⟩ : ∃ Y, [] ++ x0.drop k ++ x0.take k = Y := ⟨_, rfl⟩
      rw [hY] at HO6 HPY HYL
      obtain ⟨B6, HB6, HO6⟩ : ∃ B6, Hid (D < B6) ∧ Hid (w6.ownsRow B6 27 34 (.slice a6 i c6) i (rowsP Y)) := ⟨_, HDL, HO6⟩
      clear hY HA1 HA2 HM1 HM2 HM3 hs2 hs3 LN HPI HCAP HDL
      have HG6 := Lib.hid (show ∀ g, (Value.slice a6 i c6).ownBlock = some g → g ∉ D :: mbl (.map none) by
        intro g e hm
        have h1 := (HO6.out.lt g e).1
        have h2 := HB6.out
        simp only [mbl, List.mem_singleton] at hm
        omega)
      go_wp2_with fail
      go_loopw [11, 51] (fun _ v51 wr => ∃ (j : Nat) (mv2 : Value), j ≤ i ∧ v51 = .int .i64 (j : Int) ∧ C2 w wr C D mv mv2 x0 (Y.take j) (i + j) ∧ wr.ownsRow B6 27 34 (.slice a6 i c6) i (rowsP Y) ∧ (∀ g, (Value.slice a6 i c6).ownBlock = some g → g ∉ D :: mbl mv2)) (fun _ v _ => i - (intOf v).toNat)
      case atStart => exact ⟨0, _, by omega, rfl, HW6.out, HO6.out, HG6.out⟩
      case round =>
        clear HW6 HO6 HG6
        obtain ⟨j, mv2, hj, rfl, hW, hO, hG⟩ := hrel
        by_cases hlt : j < i
        · obtain ⟨a9, c9, e9, hpy⟩ := ps_own hO
          injection e9 with e9 e10 e11
          subst e9
          clear e10 e11
          obtain ⟨q, hxi⟩ : ∃ q, Y[j]? = some q := ⟨_, List.getElem?_eq_getElem (by have := HYL.out; omega)⟩
          obtain ⟨b, off, rfl, hrg⟩ := hpy j q hxi
          have hix := index_ptr b off i c6 j hlt
          have SWC := Lib.hid (size_ptr q)
          have SWR := Lib.hid (size_ptrA q)
          have EW := Lib.hid (HZL.out q)
          have WO := Lib.hid (ptrRow_one q)
          have HRG := Lib.hid hrg
          have HLT := Lib.hid hlt
          have iI : (j : Int) < (i : Int) := by omega
          have i0 : (0 : Int) ≤ (j : Int) := by omega
          have HW := Lib.hid hW
          have HO := Lib.hid hO
          have HG := Lib.hid hG
          have HNX := Lib.hid (show Y.take (j + 1) = Y.take j ++ [q] by rw [List.take_add_one, hxi]; rfl)
          clear hj hlt hrg hxi hW hO hG hpy
          go_upto_region 15 with (first
            | (with_reducible refine wpList_load_mid (op := ⟨some 54, _, _, _, _, _⟩) rfl 27 _ rfl b (off + j * 34) rfl (ptrRow q) _ HRG.out Try.underlying27 rfl SWC.out ?_)
            | (with_reducible refine wpList_store_row (o := ⟨none, .store _ (.tmp 11) _, _, _, _, _⟩) rfl 27 _ _ rfl wr.heap.size (ptrRow q).toArray rfl rfl 27 ZA (heap_alloc_new wr _) SWR.out EW.out WO.out ?_))
          clear hix
          obtain ⟨h7, hb7⟩ := new_row8 wr ZA (ptrRow q).toArray
          generalize World.setRow _ wr.heap.size _ = w7 at *
          have H7 := Lib.hid h7
          have HW7 := Lib.hid (HW.out.below hb7)
          have HO7 := Lib.hid (own_belowP HO.out hb7)
          have HAD := Lib.hid (padd8 w w7 D (i + j) mv2 _ q HW7.out.d (by have := HLT.out; have := HS0.out; omega) (by rw [List.length_take]; have := HS0.out; have := HLT.out; omega))
          clear h7 hb7 HRG SWC EW WO HW HO
          generalize (ptrRow q).toArray = AR at *
          go_wp2_with (first
            | (with_reducible refine wpList_load_row (o := ⟨some 56, _, _, _, _, _⟩) rfl 27 _ rfl wr.heap.size rfl 27 AR (0, 0) _ H7.out Try.underlying27 rfl SWR.out ?_))
          refine HAD.out.mono ?_
          rintro e w8 ⟨rfl, mv', hc8, hs8⟩
          have HW8 := Lib.hid (HW7.out.swap.step hc8 hs8).swap
          rw [← HNX.out] at HW8
          have HO8 := Lib.hid (own_touch HO7.out hs8.1 HG.out)
          have HG8 := Lib.hid (show ∀ g, (Value.slice (some ⟨b, off, none⟩) i c6).ownBlock = some g → g ∉ D :: mbl mv' by
            intro g e hm
            rcases List.mem_cons.1 hm with rfl | hm
            · exact HG.out g e (by simp)
            · rcases hs8.2 with e2 | ⟨b2, e2, hb2⟩
              · rw [e2] at hm; exact HG.out g e (by simp [hm])
              · rw [e2] at hm
                obtain rfl : g = b2 := by simpa using hm
                have := (HO7.out.lt g e).2
                omega)
          clear hc8 hs8 HAD HW7 H7 HO7 HG
          go_wp2_with fail
          go_roundw
          case rel => exact ⟨j + 1, _, by have := HLT.out; omega, by go_num, HW8.out, HO8.out, HG8.out⟩
          case measure => simp [intOf]; have := HLT.out; omega
        · obtain rfl : j = i := by omega
          rw [List.take_of_length_le (by have := HYL.out; omega)] at hW
          have HW := Lib.hid hW
          clear hj hlt hW hO hG
          have HP1 := Lib.hid (pall8 w wr C (j + j) mv x0 HW.out.c (by unfold distinct; have := allL_short x0; have := HLN.out; have := HS0.out; omega))
          go_wp2_with fail
          refine HP1.out.mono ?_
          rintro e wp1 ⟨v1, rfl, hA1, hB1⟩
          have HW1 := Lib.hid (HW.out.below hB1)
          have HQ1 := Lib.hid hA1
          have HP2 := Lib.hid (pall8 w wp1 D (j + j) mv2 Y HW1.out.d (by unfold distinct; have := allL_short Y; have := HYL.out; have := HS0.out; omega))
          clear HP1 hA1 hB1 HW
          go_wp2_with fail
          refine HP2.out.mono ?_
          rintro e wp2 ⟨v2, rfl, hA2, hB2⟩
          have HW2 := Lib.hid (HW1.out.below hB2)
          have HSM := Lib.hid (psame_any wp2 v1 v2 (allL x0) (allL x0) ((ps_own HQ1.out.1).below hB2) (by rw [← allL_same HPY.out]; exact ps_own hA2.1) (by have := allL_short x0; have := HLN.out; have := HS0.out; omega) (by have := allL_short x0; have := HLN.out; have := HS0.out; omega))
          rw [decide_eq_true (rfl : allL x0 = allL x0)] at HSM
          clear HP2 hA2 hB2 HW1 HQ1
          go_wp2_with fail
          refine HSM.out.mono ?_
          rintro e wp3 ⟨rfl, hb3⟩
          have HW3 := Lib.hid (HW2.out.below hb3)
          clear hb3 HW2 HSM
          go_wp2_with fail
          go_loopw [13, 67] (fun _ v67 wr => ∃ (i : Nat), i ≤ j ∧ v67 = .int .i64 (i : Int) ∧ C2 w wr C D mv mv2 x0 Y (j + j)) (fun _ v _ => j - (intOf v).toNat)
          case atStart => exact ⟨0, by omega, rfl, HW3.out⟩
          case round =>
            clear HW3
            obtain ⟨i, hi, rfl, hW⟩ := hrel
            by_cases hlt : i < j
            · obtain ⟨b, off, q, rfl, hxi, hrg⟩ := ptrs_at HSL.out hW.c.bel hlt
              have hix := index_ptr b off j cap0 i hlt
              have SWC := Lib.hid (size_ptr q)
              have SWR := Lib.hid (size_ptrA q)
              have EW := Lib.hid (HZL.out q)
              have WO := Lib.hid (ptrRow_one q)
              have HRG := Lib.hid hrg
              have HLT := Lib.hid hlt
              have iI : (i : Int) < (j : Int) := by omega
              have i0 : (0 : Int) ≤ (i : Int) := by omega
              have HW := Lib.hid hW
              clear hi hlt hrg hxi hW
              go_upto_region 22 with (first
                | (with_reducible refine wpList_load_mid (op := ⟨some 70, _, _, _, _, _⟩) rfl 27 _ rfl b (off + i * 34) rfl (ptrRow q) _ HRG.out Try.underlying27 rfl SWC.out ?_)
                | (with_reducible refine wpList_store_row (o := ⟨none, .store _ (.tmp 13) _, _, _, _, _⟩) rfl 27 _ _ rfl wr.heap.size (ptrRow q).toArray rfl rfl 27 ZA (heap_alloc_new wr _) SWR.out EW.out WO.out ?_))
              clear hix
              obtain ⟨h7, hb7⟩ := new_row8 wr ZA (ptrRow q).toArray
              generalize World.setRow _ wr.heap.size _ = w7 at *
              have H7 := Lib.hid h7
              have HW7 := Lib.hid (HW.out.below hb7)
              have HF1 := Lib.hid (fun (W : World) (hW : Below w7.heap.size w7 W) => pof8 w W C (j + j) mv x0 q (HW7.out.below hW).c)
              have HF2 := Lib.hid (fun (W : World) (hW : Below w7.heap.size w7 W) => by have h := pof8 w W D (j + j) mv2 Y q (HW7.out.below hW).d; rw [HPY.out q] at h; exact h)
              obtain ⟨cq, hcq⟩ : ∃ cq : Nat, x0.count q = cq := ⟨_, rfl⟩
              rw [hcq] at HF1 HF2
              obtain ⟨T, hT⟩ : ∃ T, wr.heap.size = T := ⟨_, rfl⟩
              rw [hT] at H7 ⊢
              have HSS := Lib.hid (show ∀ W : World, Below w7.heap.size w7 W → W.rangeAt T 0 (ptrRow q) from fun W hW => range_below (range_of_row H7.out) hW)
              have SZ := Lib.hid (size_ptr q)
              clear h7 hb7 HRG SWC EW WO HW hcq hT
              obtain ⟨AL, hAL⟩ : ∃ AL, ptrRow q = AL := ⟨_, rfl⟩
              rw [hAL] at H7 SWR HSS SZ HF1 HF2
              obtain ⟨AR, hAR⟩ : ∃ AR, AL.toArray = AR := ⟨_, rfl⟩
              rw [hAR] at H7 SWR HF1 HF2
              have HAL := Lib.hid hAR
              clear hAL hAR
              have HB0 := Lib.hid (show Below w7.heap.size w7 w7.drew from (Below.refl _ w7).drew)
              try simp only [Act.put]
              refine wp_region_noPanic ?_
              refine wp_region_held_drew (S := fun W => W.rangeAt T 0 AL) (by kernel_rfl) (HSS.out _ HB0.out) (fun hHeld => ?_)
              refine wpAnyH_take (i := 0) (oi := ⟨some 71, _, _, _, _, _⟩) (v := ?_) rfl (by kernel_rfl) (by decide +kernel) (by decide +kernel) (fun _ _ _ h => h) (Or.inl ⟨by rfl, ?_⟩) (by assumption) ?_
              rotate_left 1
              · (intro w' hSw; go_simp; try with_reducible rfl)
              try simp only [Act.put, List.setIfInBounds_toArray, List.set_cons_zero, List.set_cons_succ]
              refine wpAnyH_take (i := 1) (oi := ⟨some 72, _, _, _, _, _⟩) rfl (by kernel_rfl) (by decide +kernel) (by decide +kernel) (fun _ _ _ h => h) (yieldsIf_load_mid (by rfl) _ _ rfl T 0 rfl AL _ (fun w' h => h) Try.underlying27 rfl SZ.out) (by assumption) ?_
              try simp only [Act.put, List.setIfInBounds_toArray, List.set_cons_zero, List.set_cons_succ]
              rw [HAL.out]
              refine wpAnyH_take (i := 3) (oi := ⟨some 74, _, _, _, _, _⟩) (v := ?_) rfl (by kernel_rfl) (by decide +kernel) (by decide +kernel) (fun _ _ _ h => h) (Or.inl ⟨by rfl, ?_⟩) (by assumption) ?_
              rotate_left 1
              · (intro w' hSw; go_simp; try with_reducible rfl)
              try simp only [Act.put, List.setIfInBounds_toArray, List.set_cons_zero, List.set_cons_succ]
              refine wpAnyH_take (i := 4) (oi := ⟨some 75, _, _, _, _, _⟩) rfl (by kernel_rfl) (by decide +kernel) (by decide +kernel) (fun _ _ _ h => h) (yieldsIf_load_mid (by rfl) _ _ rfl T 0 rfl AL _ (fun w' h => h) Try.underlying27 rfl SZ.out) (by assumption) ?_
              try simp only [Act.put, List.setIfInBounds_toArray, List.set_cons_zero, List.set_cons_succ]
              rw [HAL.out]
              refine wpAnyH_ready (rs := [2]) (by decide +kernel) (by simp) ?_
              refine AllReadyH.cons rfl (fun K hK => ?_) AllReadyH.nil
              go_simp
              go_at_call 27
              refine (HF1.out _ HB0.out).mono ?_
              rintro e wt2 ⟨rfl, hb⟩
              have HB2 := Lib.hid (HB0.out.trans (hb.mono HB0.out.size))
              clear hb
              go_wp2_with fail
              refine hK.out _ _ (HSS.out _ HB2.out) (fun hHeld => ?_)
              clear hK K
              try simp only [Act.put, List.setIfInBounds_toArray, List.set_cons_zero, List.set_cons_succ]
              refine wpAnyH_ready (rs := [5]) (by decide +kernel) (by simp) ?_
              refine AllReadyH.cons rfl (fun K hK => ?_) AllReadyH.nil
              go_simp
              go_at_call 27
              refine (HF2.out _ HB2.out).mono ?_
              rintro e wt5 ⟨rfl, hb⟩
              have HB5 := Lib.hid (HB2.out.trans (hb.mono HB2.out.size))
              clear hb
              go_wp2_with fail
              refine hK.out _ _ (HSS.out _ HB5.out) (fun hHeld => ?_)
              clear hK K
              try simp only [Act.put, List.setIfInBounds_toArray, List.set_cons_zero, List.set_cons_succ]
              refine wpAnyH_take (i := 6) (oi := ⟨some 77, _, _, _, _, _⟩) (v := ?_) rfl (by kernel_rfl) (by decide +kernel) (by decide +kernel) (fun _ _ _ h => h) (Or.inl ⟨by rfl, ?_⟩) (by assumption) ?_
              rotate_left 1
              · (intro w' hSw; go_simp; try with_reducible rfl)
              try simp only [Act.put, List.setIfInBounds_toArray, List.set_cons_zero, List.set_cons_succ]
              clear hHeld
              refine wpAnyH_done (by decide +kernel) ?_ _
              refine NoPanic.normal ?_
              have HBZ := HB5
              go_wp2_with fail
              go_roundw
              case rel => exact ⟨i + 1, by have := HLT.out; omega, by go_num, HW7.out.below HBZ.out⟩
              case measure => simp [intOf]; have := HLT.out; omega
            · obtain rfl : i = j := by omega
              have HW := Lib.hid hW.c
              clear hi hlt hW HPY HYL
              go_wp2_with fail
              go_loopw [15, 16, 17, 81] (fun _ _ _ v81 wr => ∃ (n : Nat) (L : List PtrV), n ≤ i ∧ v81 = .int .i64 (n : Int) ∧ CO w wr C mv L (i + i + n) ∧ (∀ q, L.count q = (x0.drop n).count q) ∧ L.length ≤ 100) (fun _ _ _ v _ => i - (intOf v).toNat)
              case atStart => exact ⟨0, x0, by omega, rfl, HW.out, fun q => by rw [List.drop_zero], by have := HLN.out; have := HS0.out; omega⟩
              case round =>
                clear HW
                obtain ⟨n, L, hn, rfl, hC, hcnt, hL⟩ := hrel
                by_cases hlt : n < i
                · obtain ⟨b, off, q, rfl, hxi, hrg⟩ := ptrs_at HSL.out hC.bel hlt
                  obtain ⟨hxl, hxq⟩ := List.getElem?_eq_some_iff.1 hxi
                  have hdr : x0.drop n = q :: x0.drop (n + 1) := by rw [List.drop_eq_getElem_cons hxl, hxq]
                  have HCQ := Lib.hid (show L.count q ≠ 0 by rw [hcnt, hdr, List.count_cons_self]; omega)
                  have HCN := Lib.hid (show ∀ p, (L.erase q).count p = (x0.drop (n + 1)).count p by
                    intro p
                    by_cases e : p = q
                    · subst e
                      rw [List.count_erase_self, hcnt, hdr, List.count_cons_self]; omega
                    · rw [List.count_erase_of_ne e, hcnt, hdr, List.count_cons_of_ne (Ne.symm e)])
                  have HLE := Lib.hid (show (L.erase q).length ≤ 100 from Nat.le_trans List.length_erase_le hL)
                  have HLL := Lib.hid hL
                  have hix := index_ptr b off i cap0 n hlt
                  have SWC := Lib.hid (size_ptr q)
                  have SWR := Lib.hid (size_ptrA q)
                  have EW := Lib.hid (HZL.out q)
                  have WO := Lib.hid (ptrRow_one q)
                  have HRG := Lib.hid hrg
                  have HLT := Lib.hid hlt
                  have iI : (n : Int) < (i : Int) := by omega
                  have i0 : (0 : Int) ≤ (n : Int) := by omega
                  have HC := Lib.hid hC
                  clear hn hlt hrg hxi hC hcnt hL hxl hxq hdr
                  go_upto_region 28 with (first
                    | (with_reducible refine wpList_load_mid (op := ⟨some 84, _, _, _, _, _⟩) rfl 27 _ rfl b (off + n * 34) rfl (ptrRow q) _ HRG.out Try.underlying27 rfl SWC.out ?_)
                    | (with_reducible refine wpList_store_row (o := ⟨none, .store _ (.tmp 15) _, _, _, _, _⟩) rfl 27 _ _ rfl wr.heap.size (ptrRow q).toArray rfl rfl 27 ZA (heap_alloc_new wr _) SWR.out EW.out WO.out ?_))
                  clear hix
                  obtain ⟨h7, hb7⟩ := new_row8 wr ZA (ptrRow q).toArray
                  generalize World.setRow _ wr.heap.size _ = w7 at *
                  have H7 := Lib.hid h7
                  have HDR := Lib.hid (pdrop8 w w7 C (i + i + n) mv L q (HC.out.below hb7) (by have := HLT.out; have := HS0.out; omega) (by have := HLL.out; omega))
                  rw [show dropA (L.count q) = ((L.count q : Int) - 1, 0) by unfold dropA; rw [if_neg HCQ.out]] at HDR
                  generalize (L.count q : Int) - 1 = cq at *
                  clear h7 hb7 HRG SWC EW WO HC HCQ
                  generalize (ptrRow q).toArray = AR at *
                  go_wp2_with (first
                    | (with_reducible refine wpList_load_row (o := ⟨some 87, _, _, _, _, _⟩) rfl 27 _ rfl wr.heap.size rfl 27 AR (0, 0) _ H7.out Try.underlying27 rfl SWR.out ?_))
                  refine HDR.out.mono ?_
                  rintro e w8 ⟨rfl, hc8, _⟩
                  have HC8 := Lib.hid hc8
                  clear hc8 HDR H7
                  go_wp2_with fail
                  go_roundw
                  case rel => exact ⟨n + 1, _, by have := HLT.out; omega, by go_num, HC8.out, HCN.out, HLE.out⟩
                  case measure => simp [intOf]; have := HLT.out; omega
                · obtain rfl : n = i := by omega
                  have hL0 : L = [] := empty_counts (fun q => by rw [hcnt, List.drop_eq_nil_of_le (by have := HLN.out; omega)]; rfl)
                  subst hL0
                  have HLEN := Lib.hid (show Calls Try.prog 29 #[.pointer (some ⟨C, 0, none⟩)] wr fun e w' => e = .returned (.int .i64 0) ∧ w' = wr from plen8 w wr C _ mv [] hC)
                  have HALL := Lib.hid (pall8 w wr C _ mv [] hC (by decide))
                  have HB := Lib.hid hC.bel
                  clear hn hlt hC hcnt hL
                  go_wp2_with fail
                  refine HLEN.out.mono ?_
                  rintro e wl ⟨rfl, rfl⟩
                  go_wp2_with fail
                  refine HALL.out.mono ?_
                  rintro e wa ⟨v, rfl, hA, hbA⟩
                  obtain rfl : v = .slice none 0 0 := hA.2.2 rfl
                  have HBA := Lib.hid (HB.out.trans (hbA.mono HB.out.size))
                  clear hA hbA HLEN HALL
                  go_wp2_with fail
                  go_ret
                  exact ⟨rfl, HBA.out⟩
set_option maxRecDepth 100000 in
theorem lifted (os : Os) (started : os.Started) (H : Type) (enc : TypeId × Value → H) :
    ReturnsInHanded {} Try.checked os 9 .any (Rows.ptrAlikeSpec.pre6 enc Try.prog Try.f9 Rows.ptrAlikeRow.domain false) (Rows.ptrAlikeSpec.post enc Try.prog Try.f9 false true false false) := by
  refine returnsInHanded_of_change_sized (C := Try.checked) own started (by kernel_rfl) Try.func9
    (ChangeSpec.witness6 (enc := enc) (C := Try.checked) false ⟨#[], #[.slice none 0 0, .int .u8 0], []⟩ 8 (by kernel_rfl) (by kernel_rfl) (by kernel_rfl) (by kernel_rfl)) ?_
  intro W base args ds gs before hval0 hW hcnd hsz0 _
  have hsz : (DataW.weightsEach Try.prog (Try.f9.params.toList ++ Rows.ptrAlikeSpec.plain.varTypes Try.prog) (ds ++ gs)).all (· ≤ reachBytes) = true := hsz0
  clear hsz0
  have hval : ∀ (j : Nat) t v, Try.f9.params[j]? = some t → args[j]? = some v → Value.okWide Try.prog W .any base t v := hval0
  have hW' := hW
  obtain ⟨p, q, hA0, hV, rfl, hfz, hnd⟩ := hW
  have hA : DataW.TrodAll enc Try.prog W 0 (fun _ => true) true Try.f9.params.toList args.toList ds p := hA0
  rw [Try.params9] at hA hval hsz
  obtain ⟨v0, vs0, d0, ds0, p0, q0, hargs, rfl, rfl, h0, r0⟩ := trodAll_cons hA
  obtain ⟨v1, vs1, d1, ds1, p1, q1, rfl, rfl, rfl, h1, r1⟩ := trodAll_cons r0
  obtain ⟨rfl, rfl, rfl⟩ := trodAll_nil r1
  obtain rfl : args = #[v0, v1] := by cases args; simp_all
  obtain ⟨rfl, rfl⟩ := trodVars_none hV
  have k0 := h0
  have lt0 : ∀ x ∈ p0, x.block < W.heap.size := by obtain ⟨m, hm⟩ := k0; exact DataW.trod_lt m _ _ _ hm
  have k1 := h1
  have lt1 : ∀ x ∈ p1, x.block < W.heap.size := by obtain ⟨m, hm⟩ := k1; exact DataW.trod_lt m _ _ _ hm
  obtain ⟨x0, a0, len0, cap0, rfl, sl0⟩ := par_slice (j := 0) Try.underlying54 opn_ptrs (hval 0 54 v0 rfl rfl) h0 hsz rfl rfl
  obtain ⟨z1, rfl, za1, zb1⟩ := par_int (j := 1) .u8 _ _ Try.underlying5 wf_u8 (hval 1 5 v1 rfl rfl) h1 hsz rfl rfl
  clear hA0 hval0
  simp only [List.append_nil] at hW'
  refine (walk W a0 len0 cap0 x0 sl0 z1 za1 zb1).mono fun e W' ⟨he, bel⟩ => ?_
  subst he
  exact ⟨_, rfl, _, _, _, [], _, [], hW', trodAll_mk1 (shut_bool Try.underlying4 _), (trodAll_cons_mk (Below.trod laidOut (by kernel_rfl) (of_decide_eq_true (by kernel_rfl)) k0 bel lt0) (trodAll_cons_mk (Below.trod laidOut (by kernel_rfl) (of_decide_eq_true (by kernel_rfl)) k1 bel lt1) trodAll_mk0)), rfl, bel.frame _, fun h => by cases h⟩

theorem over : Rows.ptrAlikeRow.holds Try.pinned (OpenSpec.ofChange Rows.ptrAlikeSpec) :=
  OpenClaim.holds_of_wide 9 Try.f9 rfl rfl rfl rfl rfl rfl rfl ⟨rfl, rfl, rfl, rfl, rfl⟩ rfl rfl rfl rfl rfl (by kernel_rfl) Try.func9 (by kernel_rfl)
    (of_decide_eq_true (by kernel_rfl)) (by unfold Func.isWrapper; first | (rw [if_pos (by decide +kernel)]; kernel_rfl) | (rw [if_neg (by decide +kernel)]; exact ⟨rfl, rfl⟩))
    (fun os started H enc _ => lifted os started H enc)

/-- The statement. -/
theorem proved : Rows.PtrAlikeSaid := over
#print axioms proved
end Go.Proofs.Ytbnclmlbennhaaa.ptrAlike
