/-
  'CodecReads' returns true at every input, and each argument reads behind the call as it read before. Conditions: none.
-/
import Derived.Test.YtclahpmghifehaaRows
import Derived.Test.YtclahpmghifehaaYLaid
import Derived.Test.YtclahpmghifehaaRead2
namespace Go.Proofs.Ytclahpmghifehaa.codecReads
open Go.ChangeShapes Go.WideShapes Go.ChangeAt Go.RowKit
set_option linter.unusedVariables false

theorem bs_only {w w' : World} {g : Nat} {v : Value} {l : List Int} (h : BS w v l) (q : Only g w w') (hg : ∀ k, v.ownBlock = some k → k ≠ g) : BS w' v l :=
  (Touch.of_only (l := [g]) q (by simp)).bs h (fun k hk hm => hg k hk (by simpa using hm))
theorem bs_block {w : World} {v : Value} {l : List Int} (h : BS w v l) : l = [] ∨ ∀ k, v.ownBlock = some k → k < w.heap.size := by
  obtain ⟨a, c, rfl, hy, hn, hc⟩ := h
  rcases hc with h0 | ⟨b, off, rfl, hc⟩
  · exact .inl h0
  · by_cases hl : l = []
    · exact .inl hl
    · right
      intro k hk
      obtain rfl : b = k := by simpa [Value.ownBlock] using hk
      exact block_lt_of_cell (hc 0 (List.length_pos_iff.2 hl))
theorem bs_empty {w w' : World} {v : Value} (h : BS w v []) : BS w' v [] := by
  obtain ⟨a, c, rfl, hy, hn, _⟩ := h
  exact ⟨a, c, rfl, hy, hn, .inl rfl⟩
/-- A row of bytes of one's own, one of them one greater. -/
theorem own_plus {w : World} {B g n c : Nat} {L : List Int} (h : w.ownsRow B 5 1 (.slice (some ⟨g, 0, none⟩) n c) n (L.map (Value.int .u8))) (i : Nat) (z : Int) :
    (w.setCell ⟨g, i, none⟩ (.int .u8 z)).ownsRow B 5 1 (.slice (some ⟨g, 0, none⟩) n c) n ((L.set i z).map (Value.int .u8)) := by
  rw [List.map_set]
  exact (h.stored i (.int .u8 z)).1
theorem byt_set {L : List Int} (h : Byt L) (i : Nat) (z : Int) (h0 : 0 ≤ z) (h1 : z ≤ 255) : Byt (L.set i z) := by
  intro y hy
  rcases List.mem_or_eq_of_mem_set hy with h2 | rfl
  · exact h y h2
  · exact ⟨h0, h1⟩

set_option maxRecDepth 100000 in
set_option maxHeartbeats 3200000 in
theorem walk (w : World) (a0 : Option Addr) (len0 cap0 : Nat) (x0 : List Int) (e0 : x0.length = len0) (m0 : len0 ≤ cap0) (n0 : cap0 ≤ 140737488351232) (b0 : BS w (.slice a0 len0 cap0) x0) (a1 : Option Addr) (len1 cap1 : Nat) (x1 : List LayV) (sl1 : SlR RLayV 37 w x1 a1 len1 cap1) :
    Calls Try.prog 4 #[.slice a0 len0 cap0, .slice a1 len1 cap1] w fun e w' => e = .returned (.bool true) ∧ Below w.heap.size w w' := by
  have HX := Lib.hid b0
  have HE := Lib.hid e0
  have HM := Lib.hid m0
  have HA := Lib.hid (alive7_any w)
  have HSL := Lib.hid sl1
  have l0I : (len0 : Int) ≤ 140737488351232 := by omega
  have l1I : (len1 : Int) ≤ 140737488351232 := by have := sl1.big; have := sl1.cap; omega
  clear b0 e0 m0 n0 sl1
  by_cases hbig : 3000 < len0
  · have hbI : (3000 : Int) < (len0 : Int) := by omega
    clear hbig
    go_enter Try.func4, Try.ntmps4
    go_wp2_with fail
    refine HA.out.mono ?_
    rintro e w1 ⟨rfl, hb1⟩
    have HB1 := Lib.hid hb1
    clear hb1 HA
    go_wp2_with fail
    go_ret
    exact ⟨rfl, HB1.out⟩
  have hsm : (len0 : Int) ≤ 3000 := by omega
  have HS0 := Lib.hid (show len0 ≤ 3000 by omega)
  clear hbig
  by_cases hmany : 200 < len1
  · have hbI : (200 : Int) < (len1 : Int) := by omega
    clear hmany
    go_enter Try.func4, Try.ntmps4
    go_wp2_with fail
    refine HA.out.mono ?_
    rintro e w1 ⟨rfl, hb1⟩
    have HB1 := Lib.hid hb1
    clear hb1 HA
    go_wp2_with fail
    go_ret
    exact ⟨rfl, HB1.out⟩
  have hmI : (len1 : Int) ≤ 200 := by omega
  clear hmany
  go_enter Try.func4, Try.ntmps4
  go_wp2_with fail
  refine HA.out.mono ?_
  rintro e w1 ⟨rfl, hb1⟩
  have hb1a := (Below.refl w1.heap.size w1).alloc (Nat.le_refl _) (.cells #[] 5)
  have HO := Lib.hid (World.ownsRow_lit (base := w.heap.size) (e := 5) (size := 1) w1 #[] 0 hb1.size (by unfold maxLen; omega) rfl)
  have HX1 := Lib.hid ((HX.out.kept hb1).kept hb1a)
  have HB1 := Lib.hid (hb1.trans (hb1a.mono hb1.size))
  obtain ⟨v5, w5, hr5, ho5, hg5, hn5⟩ := run_append_BS_at _ w.heap.size 0 (.slice (some ⟨w1.heap.size, 0, none⟩) 0 0) _ [] x0 HO.out HX1.out (by rw [HE.out]; have := HS0.out; omega) HB1.out.size
  have hb5 := HB1.out.grown hg5 HB1.out.size (fun k hk => (HO.out.lt k hk).1)
  rw [List.nil_append, Nat.zero_add] at ho5
  obtain ⟨g5, c5, rfl⟩ : ∃ g c, v5 = .slice (some ⟨g, 0, none⟩) len0 c := by
    rcases ho5.2 with ⟨h5, h6⟩ | ⟨g', c, cur, h5, _⟩
    · rw [h5] at hn5; rcases hn5 with h | h <;> cases h
    · exact ⟨g', c, by rw [h5, HE.out]⟩
  have HR5 := Lib.hid hr5
  have hg5lt := ho5.lt g5 rfl
  have hbs5 := BS.of_own ho5 rfl HX.out.byt
  have HO5 := Lib.hid ho5
  have HRD := Lib.hid (pread7_any _ x0 w5 hbs5 (by rw [HE.out]; have := HS0.out; omega))
  have HB5 := Lib.hid hb5
  have HG5 := Lib.hid hg5lt
  clear hb1 hb1a HA hr5 ho5 hg5 hn5 hbs5 hb5 hg5lt
  go_wp2_with (first
    | (at_builtin; refine wpList_append_run (o := ⟨some 23, _, _, _, _, _⟩) rfl _ _ _ _ rfl _ _ _ _ rfl rfl HR5.out ?_))
  refine HRD.out.mono ?_
  rintro e w6 ⟨R1, a6, c6, rfl, hr6, hR1, hb6, hblk⟩
  have HB6 := Lib.hid (HB5.out.trans (hb6.mono HB5.out.size))
  have HB56 := Lib.hid hb6
  have HR6 := Lib.hid hr6
  have HR1 := Lib.hid hR1
  have HBLK := Lib.hid hblk
  clear hr6 hR1 hb6 hblk HRD
  have hb7 := (Below.refl w6.heap.size w6).alloc (Nat.le_refl _) (.cells #[.slice a0 len0 cap0] 44)
  have hr7 := HR6.out.below hb7
  have hm7 : RR (w6.alloc (.cells #[.slice a0 len0 cap0] 44)) 44 w6.heap.size a0 len0 cap0 x0 := ⟨heap_alloc_new w6 _, (HX.out.kept HB6.out).kept hb7, HE.out, HM.out, by have := HS0.out; omega⟩
  have HR7 := Lib.hid hr7
  have HM7 := Lib.hid hm7
  have HB7 := Lib.hid (HB6.out.trans (hb7.mono HB6.out.size))
  have HO7 := Lib.hid (own_touch (own_touch HO5.out (Touch.of_below (l := []) HB56.out) (by simp)) (Touch.of_below (l := []) hb7) (by simp))
  have HLT7 := Lib.hid (show R1 < w6.heap.size from (Array.getElem?_eq_some_iff.1 HR6.out.cell).1)
  have HG6 := Lib.hid (show g5 < w6.heap.size from Nat.lt_of_lt_of_le HG5.out.2 HB56.out.size)
  clear hb7 hr7 hm7 HO5 HR6
  go_wp2_with fail
  generalize hW7 : w6.alloc _ = w7 at *
  generalize hR2 : w6.heap.size = R2 at *
  clear hW7 hR2
  go_loopw [31] (fun v31 wr => ∃ (i : Nat) (L : List Int), i ≤ len0 ∧ v31 = .int .i64 (i : Int) ∧ L.length = len0 ∧ Byt L ∧ wr.ownsRow w.heap.size 5 1 (.slice (some ⟨g5, 0, none⟩) len0 c5) len0 (L.map (Value.int .u8)) ∧ Only g5 w7 wr) (fun v _ => len0 - (intOf v).toNat)
  case atStart => exact ⟨0, x0, by omega, rfl, HE.out, HX.out.byt, by have h := HO7.out; rwa [HE.out] at h, Only.refl _ _⟩
  case round =>
    obtain ⟨i, L, hi, rfl, hL, hLB, ho, hO⟩ := hrel
    by_cases hlt : i < len0
    · have hc := (ho.cellAt i (by omega)).trans (show (L.map (Value.int .u8))[i]? = some (.int .u8 (L.getD i 0)) by simp [List.getD, hL, hlt])
      have hfz := ho.frozenAt i
      have hbt := byt_at L hLB i
      rw [← List.getD_eq_getElem?_getD] at hbt
      have HPL := Lib.hid (fun z => own_plus ho i z)
      have HO := Lib.hid hO
      have HLT := Lib.hid hlt
      have HLL := Lib.hid hL
      have HBY := Lib.hid hLB
      have iI : (i : Int) < (len0 : Int) := by omega
      have i0 : (0 : Int) ≤ (i : Int) := by omega
      generalize L.getD i 0 = z at *
      obtain ⟨z0, z1⟩ := hbt
      clear hi hlt hL hLB ho hO
      by_cases hz : z = 255
      · subst hz
        go_wp2_with fail
        go_roundw
        case rel => exact ⟨i + 1, _, by have := HLT.out; omega, by go_num, by rw [List.length_set]; exact HLL.out, byt_set HBY.out i 0 (by omega) (by omega), HPL.out 0, HO.out.setCell _ _⟩
        case measure => simp [intOf]; have := HLT.out; omega
      · have z2 : z + 1 ≤ 255 := by omega
        clear hz
        go_wp2_with fail
        go_roundw
        case rel => exact ⟨i + 1, _, by have := HLT.out; omega, by go_num, by rw [List.length_set]; exact HLL.out, byt_set HBY.out i (z + 1) (by omega) z2, HPL.out (z + 1), HO.out.setCell _ _⟩
        case measure => simp [intOf]; have := HLT.out; omega
    · obtain rfl : i = len0 := by omega
      have hRP : RP w wr R1 R2 x0 x0 := by
        refine ⟨⟨a6, x0.length, c6, ?_⟩, ⟨a0, i, cap0, ?_⟩, Nat.ne_of_lt HLT7.out, Nat.le_trans HB5.out.size HR1.out, Nat.le_trans HB5.out.size (Nat.le_trans HR1.out (Nat.le_of_lt HLT7.out)), HB7.out.trans (hO.bel _ HG5.out.1)⟩
        · have hne : R1 ≠ g5 := by have := HG5.out.2; have := HR1.out; omega
          exact ⟨(hO.rest R1 hne).trans HR7.out.cell, bs_only HR7.out.bytes hO (fun k hk => by have := HBLK.out k hk; have := HG5.out.2; omega), HR7.out.len, HR7.out.cap, HR7.out.big⟩
        · have hne : R2 ≠ g5 := by have := HG6.out; omega
          refine ⟨(hO.rest R2 hne).trans HM7.out.cell, ?_, HM7.out.len, HM7.out.cap, HM7.out.big⟩
          rcases bs_block HX.out with h0 | h0
          · have h9 := HM7.out.bytes; rw [h0] at h9 ⊢; exact bs_empty h9
          · exact bs_only HM7.out.bytes hO (fun k hk => by have := h0 k hk; have := HG5.out.1; omega)
      have HRP := Lib.hid hRP
      have HLN := Lib.hid (show x0.length ≤ 3000 by rw [HE.out]; exact HS0.out)
      clear hi hlt hL hLB ho hO hRP HR7 HM7 HO7 HB7 HB6 HB5 HG5 HG6 HR1 HBLK HLT7 HB56 HR5 HX1 HO HB1
      go_wp2_with fail
      go_loopw [43] (fun v43 wr => ∃ (k : Nat) (l : List Int), k ≤ len1 ∧ v43 = .int .i64 (k : Int) ∧ RP w wr R1 R2 l l) (fun v _ => len1 - (intOf v).toNat)
      case atStart => exact ⟨0, x0, by omega, rfl, HRP.out⟩
      case round =>
        obtain ⟨k, l, hk, rfl, hP⟩ := hrel
        have HB := Lib.hid hP.bel
        by_cases hlk : k < len1
        · obtain ⟨b, off, q, rfl, hxi, hok, hkd, hrg⟩ := lays_at HSL.out hP.bel hlk
          have hix := index_lay b off len1 cap1 k hlk
          have hzl := zero_lay
          have SWC := Lib.hid (size_lay q hok.hash)
          have SWR := Lib.hid (show (Try.prog.info? 32).map (·.size) = some (layRow q).toArray.size by rw [List.size_toArray]; exact size_lay q hok.hash)
          have EW := Lib.hid (show (layRow zeroLay).toArray.size = (layRow q).toArray.size by rw [List.size_toArray, List.size_toArray, layRow_length q hok.hash, layRow_length zeroLay (by decide)])
          have WO := Lib.hid (lay_one q)
          have HRG := Lib.hid hrg
          have HOK := Lib.hid hok
          have HLK := Lib.hid hlk
          have HP := Lib.hid hP
          have kI : (k : Int) < (len1 : Int) := by omega
          have k0 : (0 : Int) ≤ (k : Int) := by omega
          generalize (layRow zeroLay).toArray = ZA at *
          clear hk hlk hok hrg hxi hP hkd
          go_upto_region 15 with (first
            | (with_reducible refine wpList_load_mid (op := ⟨some 46, _, _, _, _, _⟩) rfl 32 _ rfl b (off + k * 37) rfl (layRow q) _ HRG.out Try.underlying32 rfl SWC.out ?_)
            | (with_reducible refine wpList_store_row (o := ⟨none, .store _ (.tmp 10) _, _, _, _, _⟩) rfl 32 _ _ rfl wr.heap.size (layRow q).toArray rfl rfl 32 ZA (heap_alloc_new wr _) SWR.out EW.out WO.out ?_))
          clear hix hzl
          generalize hW8 : World.setRow _ wr.heap.size _ = w8
          have h8 : w8.heap[wr.heap.size]? = some (.cells (layRow q).toArray 32 (0, 0)) ∧ Below wr.heap.size wr w8 := by
            obtain ⟨e1, e2, e3⟩ := ygen_row (w := wr) (old := ZA) (cs := (layRow q).toArray) (T := 32)
            rw [← hW8]
            exact ⟨e1, e3⟩
          have H8 := Lib.hid h8.1
          have HP8 := Lib.hid (HP.out.below h8.2)
          have HRA := Lib.hid (read_any w w8.drew R1 R2 l q (HP.out.below h8.2.drew) HOK.out.hash HOK.out.sz1)
          clear hW8 h8 HRG SWC EW WO HP
          generalize wr.heap.size = T at *
          generalize hRW : (layRow q).toArray = RW at *
          try simp only [Act.put]
          refine wp_region_noPanic ?_
          refine wp_region_held_drew (S := fun _ => True) (by kernel_rfl) trivial (fun hHeld => ?_)
          refine wpAnyH_take (i := 0) (oi := ⟨some 47, _, _, _, _, _⟩) (v := ?_) rfl (by kernel_rfl) (by decide +kernel) (by decide +kernel) (fun _ _ _ h => h) (Or.inl ⟨by rfl, ?_⟩) (by assumption) ?_
          rotate_left 1
          · (intro w' hSw; go_simp; try with_reducible rfl)
          try simp only [Act.put, List.setIfInBounds_toArray, List.set_cons_zero, List.set_cons_succ]
          refine wpAnyH_take (i := 1) (oi := ⟨some 48, _, _, _, _, _⟩) (v := ?_) rfl (by kernel_rfl) (by decide +kernel) (by decide +kernel) (fun _ _ _ h => h) (Or.inl ⟨by rfl, ?_⟩) (by assumption) ?_
          rotate_left 1
          · (intro w' hSw; go_simp; try with_reducible rfl)
          try simp only [Act.put, List.setIfInBounds_toArray, List.set_cons_zero, List.set_cons_succ]
          refine wpAnyH_ready (rs := [2]) (by decide +kernel) (by simp) ?_
          refine AllReadyH.cons rfl (fun K hK => ?_) AllReadyH.nil
          rw [if_pos (by kernel_rfl)]
          refine wp_load_row (o := ⟨some 49, _, _, _, _, _⟩) 32 _ rfl T rfl 32 RW (0, 0) _ (show (w8.drew).heap[T]? = _ from H8.out) Try.underlying32 rfl SWR.out ?_
          refine hK.out _ _ trivial (fun hHeld => ?_)
          clear hK K hHeld
          try simp only [Act.put, List.setIfInBounds_toArray, List.set_cons_zero, List.set_cons_succ]
          refine wpAnyH_ready (rs := [3]) (by decide +kernel) (by simp) ?_
          refine AllReadyH.cons rfl (fun K hK => ?_) AllReadyH.nil
          go_simp
          go_at_call 17
          refine HRA.out.mono ?_
          rintro e w9 ⟨rfl, hP9⟩
          have HLF := Lib.hid (rp_left1 hP9)
          have HP9 := Lib.hid hP9
          have hr2 := hP9.r2
          obtain ⟨a9, l9, c9, hm9⟩ := hr2
          have hc9 := hm9.at
          have hl9 := hm9.len
          have l9I : (l9 : Int) ≤ 140737488351232 := by have := hm9.big; omega
          have HC9 := Lib.hid hc9
          generalize readL q l = L9 at *
          subst hl9
          clear hP9 hm9 hc9 HRA
          go_wp2_with fail
          refine hK.out _ _ trivial (fun hHeld => ?_)
          clear hK K hHeld
          try simp only [Act.put, List.setIfInBounds_toArray, List.set_cons_zero, List.set_cons_succ]
          refine wpAnyH_take (i := 4) (oi := ⟨some 51, _, _, _, _, _⟩) (v := ?_) rfl (by kernel_rfl) (by decide +kernel) (by decide +kernel) (fun _ _ _ h => h) (Or.inl ⟨by rfl, ?_⟩) (by assumption) ?_
          rotate_left 1
          · (intro w' hSw; go_simp; try with_reducible rfl)
          try simp only [Act.put, List.setIfInBounds_toArray, List.set_cons_zero, List.set_cons_succ]
          refine wpAnyH_take (i := 5) (oi := ⟨some 52, _, _, _, _, _⟩) (v := ?_) rfl (by kernel_rfl) (by decide +kernel) (by decide +kernel) (fun _ _ _ h => h) (Or.inl ⟨by rfl, ?_⟩) (by assumption) ?_
          rotate_left 1
          · (intro w' hSw; go_simp; try with_reducible rfl)
          try simp only [Act.put, List.setIfInBounds_toArray, List.set_cons_zero, List.set_cons_succ]
          refine wpAnyH_take (i := 6) (oi := ⟨some 53, _, _, _, _, _⟩) (v := ?_) rfl (by kernel_rfl) (by decide +kernel) (by decide +kernel) (fun _ _ _ h => h) (Or.inl ⟨by rfl, ?_⟩) (by assumption) ?_
          rotate_left 1
          · (intro w' hSw; go_simp; try with_reducible rfl)
          try simp only [Act.put, List.setIfInBounds_toArray, List.set_cons_zero, List.set_cons_succ]
          refine wpAnyH_take (i := 8) (oi := ⟨some 55, _, _, _, _, _⟩) (v := ?_) rfl (by kernel_rfl) (by decide +kernel) (by decide +kernel) (fun _ _ _ h => h) (Or.inl ⟨by rfl, ?_⟩) (by assumption) ?_
          rotate_left 1
          · (intro w' hSw; go_simp; try with_reducible rfl)
          try simp only [Act.put, List.setIfInBounds_toArray, List.set_cons_zero, List.set_cons_succ]
          refine wpAnyH_take (i := 9) (oi := ⟨some 56, _, _, _, _, _⟩) (v := ?_) rfl (by kernel_rfl) (by decide +kernel) (by decide +kernel) (fun _ _ _ h => h) (Or.inl ⟨by rfl, ?_⟩) (by assumption) ?_
          rotate_left 1
          · (intro w' hSw; go_simp; try with_reducible rfl)
          try simp only [Act.put, List.setIfInBounds_toArray, List.set_cons_zero, List.set_cons_succ]
          refine wpAnyH_take (i := 10) (oi := ⟨some 57, _, _, _, _, _⟩) (v := ?_) rfl (by kernel_rfl) (by decide +kernel) (by decide +kernel) (fun _ _ _ h => h) (Or.inl ⟨by rfl, ?_⟩) (by assumption) ?_
          rotate_left 1
          · (intro w' hSw; go_simp; try with_reducible rfl)
          try simp only [Act.put, List.setIfInBounds_toArray, List.set_cons_zero, List.set_cons_succ]
          refine wpAnyH_ready (rs := [7, 11]) (by decide +kernel) (by simp) ?_
          refine AllReadyH.cons rfl (fun K hK => ?_) (AllReadyH.cons rfl (fun K hK => ?_) AllReadyH.nil)
          · go_simp
            go_at_call 18
            refine HLF.out.mono ?_
            rintro e w10 ⟨rfl, rfl⟩
            go_wp2_with fail
            refine hK.out _ _ trivial (fun hHeld => ?_)
            clear hK K hHeld
            try simp only [Act.put, List.setIfInBounds_toArray, List.set_cons_zero, List.set_cons_succ]
            refine wpAnyH_ready (rs := [11]) (by decide +kernel) (by simp) ?_
            refine AllReadyH.cons rfl (fun K hK => ?_) AllReadyH.nil
            have co := HC9.out
            go_simp
            refine hK.out _ _ trivial (fun hHeld => ?_)
            clear hK K hHeld co
            try simp only [Act.put, List.setIfInBounds_toArray, List.set_cons_zero, List.set_cons_succ]
            refine wpAnyH_take (i := 12) (oi := ⟨some 59, _, _, _, _, _⟩) (v := ?_) rfl (by kernel_rfl) (by decide +kernel) (by decide +kernel) (fun _ _ _ h => h) (Or.inl ⟨by rfl, ?_⟩) (by assumption) ?_
            rotate_left 1
            · (intro w' hSw; go_simp; try with_reducible rfl)
            try simp only [Act.put, List.setIfInBounds_toArray, List.set_cons_zero, List.set_cons_succ]
            refine wpAnyH_take (i := 13) (oi := ⟨some 60, _, _, _, _, _⟩) (v := ?_) rfl (by kernel_rfl) (by decide +kernel) (by decide +kernel) (fun _ _ _ h => h) (Or.inl ⟨by rfl, ?_⟩) (by assumption) ?_
            rotate_left 1
            · (intro w' hSw; go_simp; try with_reducible rfl)
            try simp only [Act.put, List.setIfInBounds_toArray, List.set_cons_zero, List.set_cons_succ]
            refine wpAnyH_take (i := 14) (oi := ⟨some 61, _, _, _, _, _⟩) (v := ?_) rfl (by kernel_rfl) (by decide +kernel) (by decide +kernel) (fun _ _ _ h => h) (Or.inl ⟨by rfl, ?_⟩) (by assumption) ?_
            rotate_left 1
            · (intro w' hSw; go_simp; try with_reducible rfl)
            try simp only [Act.put, List.setIfInBounds_toArray, List.set_cons_zero, List.set_cons_succ]
            refine wpAnyH_done (by decide +kernel) ?_ _
            refine NoPanic.normal ?_
            go_wp2_with fail
            go_roundw
            case rel => exact ⟨k + 1, _, by have := HLK.out; omega, by go_num, HP9.out⟩
            case measure => simp [intOf]; have := HLK.out; omega
          · have co := HC9.out
            go_simp
            refine hK.out _ _ trivial (fun hHeld => ?_)
            clear hK K hHeld co
            try simp only [Act.put, List.setIfInBounds_toArray, List.set_cons_zero, List.set_cons_succ]
            refine wpAnyH_take (i := 12) (oi := ⟨some 59, _, _, _, _, _⟩) (v := ?_) rfl (by kernel_rfl) (by decide +kernel) (by decide +kernel) (fun _ _ _ h => h) (Or.inl ⟨by rfl, ?_⟩) (by assumption) ?_
            rotate_left 1
            · (intro w' hSw; go_simp; try with_reducible rfl)
            try simp only [Act.put, List.setIfInBounds_toArray, List.set_cons_zero, List.set_cons_succ]
            refine wpAnyH_ready (rs := [7]) (by decide +kernel) (by simp) ?_
            refine AllReadyH.cons rfl (fun K hK => ?_) AllReadyH.nil
            go_simp
            go_at_call 18
            refine HLF.out.mono ?_
            rintro e w10 ⟨rfl, rfl⟩
            go_wp2_with fail
            refine hK.out _ _ trivial (fun hHeld => ?_)
            clear hK K hHeld
            try simp only [Act.put, List.setIfInBounds_toArray, List.set_cons_zero, List.set_cons_succ]
            refine wpAnyH_take (i := 13) (oi := ⟨some 60, _, _, _, _, _⟩) (v := ?_) rfl (by kernel_rfl) (by decide +kernel) (by decide +kernel) (fun _ _ _ h => h) (Or.inl ⟨by rfl, ?_⟩) (by assumption) ?_
            rotate_left 1
            · (intro w' hSw; go_simp; try with_reducible rfl)
            try simp only [Act.put, List.setIfInBounds_toArray, List.set_cons_zero, List.set_cons_succ]
            refine wpAnyH_take (i := 14) (oi := ⟨some 61, _, _, _, _, _⟩) (v := ?_) rfl (by kernel_rfl) (by decide +kernel) (by decide +kernel) (fun _ _ _ h => h) (Or.inl ⟨by rfl, ?_⟩) (by assumption) ?_
            rotate_left 1
            · (intro w' hSw; go_simp; try with_reducible rfl)
            try simp only [Act.put, List.setIfInBounds_toArray, List.set_cons_zero, List.set_cons_succ]
            refine wpAnyH_done (by decide +kernel) ?_ _
            refine NoPanic.normal ?_
            go_wp2_with fail
            go_roundw
            case rel => exact ⟨k + 1, _, by have := HLK.out; omega, by go_num, HP9.out⟩
            case measure => simp [intOf]; have := HLK.out; omega
        · obtain rfl : k = len1 := by omega
          clear hk hlk hP
          go_wp2_with fail
          go_ret
          exact ⟨rfl, HB.out⟩
set_option maxRecDepth 100000 in
theorem lifted (os : Os) (started : os.Started) (H : Type) (enc : TypeId × Value → H) :
    ReturnsInHanded {} Try.checked os 4 .any (Rows.codecReadsSpec.pre6 enc Try.prog Try.f4 Rows.codecReadsRow.domain false) (Rows.codecReadsSpec.post enc Try.prog Try.f4 false true false false) := by
  refine returnsInHanded_of_change_sized (C := Try.checked) own started (by kernel_rfl) Try.func4
    (ChangeSpec.witness6 (enc := enc) (C := Try.checked) false ⟨#[], #[.slice none 0 0, .slice none 0 0], []⟩ 8 (by kernel_rfl) (by kernel_rfl) (by kernel_rfl) (by kernel_rfl)) ?_
  intro W base args ds gs before hval0 hW hcnd hsz0 _
  have hsz : (DataW.weightsEach Try.prog (Try.f4.params.toList ++ Rows.codecReadsSpec.plain.varTypes Try.prog) (ds ++ gs)).all (· ≤ reachBytes) = true := hsz0
  clear hsz0
  have hval : ∀ (j : Nat) t v, Try.f4.params[j]? = some t → args[j]? = some v → Value.okWide Try.prog W .any base t v := hval0
  have hW' := hW
  obtain ⟨p, q, hA0, hV, rfl, hfz, hnd⟩ := hW
  have hA : DataW.TrodAll enc Try.prog W 0 (fun _ => true) true Try.f4.params.toList args.toList ds p := hA0
  rw [Try.params4] at hA hval hsz
  obtain ⟨v0, vs0, d0, ds0, p0, q0, hargs, rfl, rfl, h0, r0⟩ := trodAll_cons hA
  obtain ⟨v1, vs1, d1, ds1, p1, q1, rfl, rfl, rfl, h1, r1⟩ := trodAll_cons r0
  obtain ⟨rfl, rfl, rfl⟩ := trodAll_nil r1
  obtain rfl : args = #[v0, v1] := by cases args; simp_all
  obtain ⟨rfl, rfl⟩ := trodVars_none hV
  have k0 := h0
  have lt0 : ∀ x ∈ p0, x.block < W.heap.size := by obtain ⟨m, hm⟩ := k0; exact DataW.trod_lt m _ _ _ hm
  have k1 := h1
  have lt1 : ∀ x ∈ p1, x.block < W.heap.size := by obtain ⟨m, hm⟩ := k1; exact DataW.trod_lt m _ _ _ hm
  obtain ⟨a0, len0, cap0, x0, rfl, e0, m0, n0, b0⟩ := par_bytes (j := 0) (hval 0 25 v0 rfl rfl) h0 hsz rfl rfl
  obtain ⟨x1, a1, len1, cap1, rfl, sl1⟩ := par_slice (j := 1) Try.underlying22 opn_lays (hval 1 22 v1 rfl rfl) h1 hsz rfl rfl
  clear hA0 hval0
  simp only [List.append_nil] at hW'
  refine (walk W a0 len0 cap0 x0 e0 m0 n0 b0 a1 len1 cap1 x1 sl1).mono fun e W' ⟨he, bel⟩ => ?_
  subst he
  exact ⟨_, rfl, _, _, _, [], _, [], hW', trodAll_mk1 (shut_bool Try.underlying4 _), (trodAll_cons_mk (Below.trod laidOut (by kernel_rfl) (of_decide_eq_true (by kernel_rfl)) k0 bel lt0) (trodAll_cons_mk (Below.trod laidOut (by kernel_rfl) (of_decide_eq_true (by kernel_rfl)) k1 bel lt1) trodAll_mk0)), rfl, bel.frame _, fun h => by cases h⟩

theorem over : Rows.codecReadsRow.holds Try.pinned (OpenSpec.ofChange Rows.codecReadsSpec) :=
  OpenClaim.holds_of_wide 4 Try.f4 rfl rfl rfl rfl rfl rfl rfl ⟨rfl, rfl, rfl, rfl, rfl⟩ rfl rfl rfl rfl rfl (by kernel_rfl) Try.func4 (by kernel_rfl)
    (of_decide_eq_true (by kernel_rfl)) (by unfold Func.isWrapper; first | (rw [if_pos (by decide +kernel)]; kernel_rfl) | (rw [if_neg (by decide +kernel)]; exact ⟨rfl, rfl⟩))
    (fun os started H enc _ => lifted os started H enc)

/-- The statement. -/
theorem proved : Rows.CodecReadsSaid := over
#print axioms proved
end Go.Proofs.Ytclahpmghifehaa.codecReads
