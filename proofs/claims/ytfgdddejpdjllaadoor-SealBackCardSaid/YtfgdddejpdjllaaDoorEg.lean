/-
  Blocks sealed: the document's example.
-/
import Derived.Test.YtfgdddejpdjllaaDoorEf
import Derived.Test.YtfgdddejpdjllaaDoorEb
namespace Go.Proofs.YtfgdddejpdjllaaDoor
set_option maxRecDepth 4000
set_option linter.unusedVariables false
open Go.ChangeShapes Go.WideShapes Go.ChangeAt Go.RowKit

def encK (x : List Int) : List (BitVec 8) := toY (macS x [101, 110, 99])
def macK (x : List Int) : List (BitVec 8) := toY (macS x [109, 97, 99])
theorem encK_length (x : List Int) : (encK x).length = 32 := by unfold encK; rw [toY_length, macS_length]
theorem macK_length (x : List Int) : (macK x).length = 32 := by unfold macK; rw [toY_length, macS_length]
theorem keysK_row (x : List Int) : u8s (macS x [101, 110, 99] ++ macS x [109, 97, 99]) = yvs (encK x ++ macK x) := by
  rw [u8s_app]
  unfold yvs encK macK
  rw [List.map_append]
  have h1 := toY_yv _ (macS_byt x [101, 110, 99])
  have h2 := toY_yv _ (macS_byt x [109, 97, 99])
  rw [show (toY (macS x [101, 110, 99])).map (fun b => Value.int .u8 (yv b)) = ((toY (macS x [101, 110, 99])).map yv).map (Value.int .u8) by rw [List.map_map]; rfl, h1,
    show (toY (macS x [109, 97, 99])).map (fun b => Value.int .u8 (yv b)) = ((toY (macS x [109, 97, 99])).map yv).map (Value.int .u8) by rw [List.map_map]; rfl, h2]
theorem pkeysK_any (x : List Int) (v : Value) (w : World) (hv : BS w v x) (hr : Room v) (hK : KT w) (hn : x.length ≤ 140737488355328) :
    Calls Tryd.prog 11 #[v] w fun e w' => e = .returned (.agg (yvs (encK x ++ macK x))) ∧ Below w.heap.size w w' := by
  rw [← keysK_row]; exact pkeys_any x v w hv hr hK hn
/-- What a region leaves that seals a block and keeps the pointer: the block c, the pointer in block q. -/
structure SD (w wc : World) (c q : Nat) (S : List (BitVec 8)) (P : PtrV) : Prop where
  bel : Below w.heap.size w wc
  cy : ArrY wc c 5 S
  qy : wc.heap[q]? = some (.cells (ptrRow P).toArray 41 (0, 0))
  ne : c ≠ q
  cg : w.heap.size ≤ c
  qg : w.heap.size ≤ q
/-! ### the example -/
def abcY : List (BitVec 8) := [97, 98, 99]
def masZ : List Int := [109, 97, 115, 116, 101, 114]
theorem blockL_abc : blockL abcY = abcE := by decide +kernel
theorem encK_master : encK masZ = keyE := keyE_eq
theorem lit_abc (W : World) : (Instr.buildSlice 22 3 #[(0, .int .u8 97), (1, .int .u8 98), (2, .int .u8 99)]).run Tryd.prog W = .ok (.slice (some ⟨W.heap.size, 0, none⟩) 3 3) (W.alloc (.cells #[.int .u8 97, .int .u8 98, .int .u8 99] 5)) := by kernel_rfl
/-- A literal's conversion marks its block, and nothing else. -/
theorem conv_at (W : World) (g : Nat) (C : Array Value) (n c : Nat) (hg : W.heap[g]? = some (.cells C 5 (0, 0))) :
    ∃ W', (convert 22 22 (.slice (some ⟨g, 0, none⟩) n c)).run Tryd.prog W = .ok (.slice (some ⟨g, 0, none⟩) n c) W' ∧ W'.heap[g]? = some (.cells C 5 (C.size, C.size + 1)) ∧ W'.heap.size = W.heap.size ∧ (∀ k, k ≠ g → W'.heap[k]? = W.heap[k]?) ∧ (∀ B a, B ≤ g → Below B a W → Below B a W') := by
  have hsh : W.shape? g = some (5, C.size) := by
    unfold World.shape?
    rw [hg]
  have hne : ∀ k, k ≠ g → (W.freeze ⟨g, C.size, none⟩ 1).heap[k]? = W.heap[k]? := by
    intro k hk
    unfold World.freeze
    rw [if_neg (by decide)]
    simp only [Array.getElem?_modify]
    rw [if_neg (Ne.symm hk)]
  refine ⟨W.freeze ⟨g, C.size, none⟩ 1, ?_, ?_, ?_, hne, fun B a hB h => ?_⟩
  · simp [convert, run_underlying Tryd.underlying22, run_underlying Tryd.underlying5, markStringish, hsh]
  · unfold World.freeze
    rw [if_neg (by decide)]
    simp only [Array.getElem?_modify, if_pos, hg]
    rfl
  · unfold World.freeze
    rw [if_neg (by decide)]
    simp
  · refine h.trans ⟨?_, ?_, ?_, ?_, fun k hk => hne k (by omega)⟩ <;> (unfold World.freeze; rw [if_neg (by decide)]) <;> simp
theorem bs_abc {W : World} {g : Nat} {fr : Nat × Nat} (hg : W.heap[g]? = some (.cells #[.int .u8 97, .int .u8 98, .int .u8 99] 5 fr)) : BS W (.slice (some ⟨g, 0, none⟩) 3 3) (abcY.map yv) := by
  rw [show abcY.map yv = [97, 98, 99] by decide +kernel]
  refine ⟨_, _, rfl, by unfold Byt; decide, nofun, .inr ⟨_, 0, rfl, fun i hi => ?_⟩⟩
  rw [cell_of_row _ _ _ _ _ _ hg]
  simp only [List.length_cons, List.length_nil] at hi
  match i, hi with
  | 0, _ => rfl
  | 1, _ => rfl
  | 2, _ => rfl
theorem openA_sealed (k : List (BitVec 8)) (a c : Nat) (l : List (BitVec 8)) (hl : l.length = 512) (ha : a < 18446744073709551616) (hc : c < 4294967296) : openA k (ptrOf a c ((sealS k a c l).map yv)) (sealS k a c l) = (l, 0) := by
  have hs := sealS_length k a c l hl
  obtain ⟨h1, h2, h3⟩ := ptrOf_parts a c ((sealS k a c l).map yv) hc ha
  unfold openA
  rw [if_neg (by omega), fits_len _ _ hs, h3, h1, h2, if_pos (by simp), show ((a : Int)).toNat = a from rfl, show ((c : Int)).toNat = c from rfl, sealS_twice k a c l hl]
theorem openA_other (k : List (BitVec 8)) (a c : Nat) (l d : List (BitVec 8)) (hd : d.length = 512) (ha : a < 18446744073709551616) (hc : c < 4294967296) (hne : hashS (d.map yv) ≠ hashS (l.map yv)) : openA k (ptrOf a c (l.map yv)) d = ([], 5) := by
  obtain ⟨h1, h2, h3⟩ := ptrOf_parts a c (l.map yv) hc ha
  unfold openA
  rw [if_neg (by omega), fits_len _ _ hd, h3, if_neg (by simpa using hne)]
theorem range_keys {w W : World} {b t : Nat} {K : List (BitVec 8)} (h : ArrY w b t K) (hb : Below w.heap.size w W) : W.rangeAt b 0 (yvs K).toList := (ArrY.below h hb (lt_of_block h)).all
theorem info_keys64 (l : List (BitVec 8)) (h : l.length = 64) : (Tryd.prog.info? 28).map (·.size) = some (yvs l).toList.length := by rw [Array.length_toList]; exact size_keys l h
theorem bs_master (W : World) : BS (W.alloc (.cells #[.int .u8 109, .int .u8 97, .int .u8 115, .int .u8 116, .int .u8 101, .int .u8 114] 5 (6, 7))) (.slice (some ⟨W.heap.size, 0, none⟩) 6 6) masZ := by
  refine ⟨_, _, rfl, by unfold masZ Byt; decide, nofun, .inr ⟨_, 0, rfl, fun i hi => ?_⟩⟩
  rw [cell_of_row _ _ _ _ _ _ (heap_alloc_new W _)]
  change i < 6 at hi
  rw [Nat.zero_add]
  match i, hi with
  | 0, _ => rfl
  | 1, _ => rfl
  | 2, _ => rfl
  | 3, _ => rfl
  | 4, _ => rfl
  | 5, _ => rfl
set_option maxRecDepth 100000 in
set_option maxHeartbeats 3200000 in
theorem alive12_any (w : World) (hK : KT w) : Calls Tryd.prog 10 #[] w fun e w' => e = .returned (.bool true) ∧ Below w.heap.size w w' := by
  have hcv := conv_const w #[.int .u8 109, .int .u8 97, .int .u8 115, .int .u8 116, .int .u8 101, .int .u8 114] 6 6
  have hbl := (Below.refl w.heap.size w).alloc (Nat.le_refl _) (.cells #[.int .u8 109, .int .u8 97, .int .u8 115, .int .u8 116, .int .u8 101, .int .u8 114] 5 (6, 7))
  have hms := bs_master w
  have HDE := Lib.hid (pkeysK_any masZ (.slice (some ⟨w.heap.size, 0, none⟩) 6 6) _ hms (room_of _ _ _ (by decide) (by decide)) (hK.below hbl hK.pos) (by decide))
  have HK := Lib.hid hK
  have HL := Lib.hid (show (encK masZ ++ macK masZ).length = 64 by rw [List.length_append, encK_length, macK_length])
  have HML := Lib.hid (macK_length masZ)
  rw [encK_master] at HDE HL
  have HBL := Lib.hid hbl
  generalize macK masZ = m at *
  clear hK hms hbl
  go_enter Tryd.func10, Tryd.ntmps10
  go_wp2_with fail
  refine HDE.out.mono ?_
  rintro e w2 ⟨rfl, hb2⟩
  have HB2 := Lib.hid (HBL.out.trans (hb2.mono HBL.out.size))
  have hk0 : ∀ W : World, (zeroValue 28).run Tryd.prog W = .ok (.agg (yvs (zeroY 64))) W := fun W => by kernel_rfl
  have SE0 := Lib.hid (size_keys _ HL.out)
  have SL0 := Lib.hid (show (yvs (zeroY 64)).size = (yvs (keyE ++ m)).size by rw [yvs_size, yvs_size, HL.out]; rfl)
  clear hcv hb2 HDE HBL
  generalize hKL : keyE ++ m = KL at *
  have HKL := Lib.hid hKL
  generalize hZK : yvs (zeroY 64) = ZK at *
  clear hKL hZK
  go_upto_region 2 with (first
    | (with_reducible refine wpList_store_row (o := ⟨none, .store _ (.tmp 1) _, _, _, _, _⟩) rfl 28 _ _ rfl w2.heap.size (yvs KL) rfl rfl 28 ZK (heap_alloc_new w2 _) SE0.out SL0.out (yvs_one _) ?_))
  generalize hW3 : World.setRow _ w2.heap.size _ = w3
  obtain ⟨r3, z3, b3⟩ := fresh_row w2 ZK (yvs KL) 28 w3 hW3.symm
  have HB3 := Lib.hid (HB2.out.trans (b3.mono HB2.out.size))
  have HA3 := Lib.hid (show ArrY w3 w2.heap.size 28 KL from r3)
  clear hW3 r3 z3 b3 hk0 SL0 HB2
  generalize w2.heap.size = X at *
  have HSV := Lib.hid (fun (W : World) (hW : Below w3.heap.size w3 W) => range_keys HA3.out hW)
  have HIK := Lib.hid (info_keys64 KL HL.out)
  have HBK := Lib.hid (fun (W : World) (hW : Below w3.heap.size w3 W) (x : Value) (hx : BS W x (abcY.map yv)) => show Calls Tryd.prog 22 #[x] W fun e w' => e = .returned (.slice (some ⟨W.heap.size, 0, none⟩) 512 512) ∧ ArrY w' W.heap.size 5 abcE ∧ Below W.heap.size W w' from by
    obtain ⟨a, cap, rfl, q⟩ := hx
    rw [← blockL_abc]
    exact block_some abcY a 3 cap W ⟨a, cap, rfl, q⟩ rfl (by decide) (by decide))
  have HSE := Lib.hid (fun (W : World) (g : Nat) (hW : Below w3.heap.size w3 W) (hg : ArrY W g 5 abcE) => show Calls Tryd.prog 14 #[.agg (yvs KL), .int .u64 1, .int .u32 2, .slice (some ⟨g, 0, none⟩) 512 512] W (SealOf W sealE (ptrOf 1 2 (sealE.map yv))) from by
    have h := pseal_ok keyE m 1 2 abcE (some ⟨g, 0, none⟩) 512 W (HK.out.below (HB3.out.trans (hW.mono HB3.out.size)) HK.out.pos) (by decide +kernel) HML.out (by decide +kernel) (BS.of_arr0 hg (by decide +kernel)) (by decide) (by decide) (by decide) (by decide)
    rw [sealE_eq, HKL.out] at h
    exact h)
  have HOP := Lib.hid (fun (W : World) (l : List (BitVec 8)) (g : Nat) (hW : Below w3.heap.size w3 W) (hg : ArrY W g 5 l) (hl : l.length = 512) => show Calls Tryd.prog 17 #[.agg (yvs KL), .agg (ptrRow (ptrOf 1 2 (sealE.map yv))).toArray, .slice (some ⟨g, 0, none⟩) 512 512] W fun e w' => ∃ x y z, e = .returned (.tuple #[.slice x y z, .int .i64 (openA keyE (ptrOf 1 2 (sealE.map yv)) l).2]) ∧ Bts w' x y z (openA keyE (ptrOf 1 2 (sealE.map yv)) l).1 ∧ Below W.heap.size W w' from by
    have h := popen12_any keyE m (ptrOf 1 2 (sealE.map yv)) l (some ⟨g, 0, none⟩) 512 512 W (HK.out.below (HB3.out.trans (hW.mono HB3.out.size)) HK.out.pos) (by decide +kernel) HML.out (Bts.arr hg hl (by decide))
    rw [HKL.out] at h
    exact h)
  have HO1 := Lib.hid (show openA keyE (ptrOf 1 2 (sealE.map yv)) sealE = (abcE, 0) by
    have h := openA_sealed keyE 1 2 abcE (by decide +kernel) (by decide) (by decide)
    rw [sealE_eq] at h
    exact h)
  have HO2 := Lib.hid (openA_other keyE 1 2 sealE turnE (by decide +kernel) (by decide) (by decide) turned_other)
  have HPP := Lib.hid (ptrOf_parts 1 2 (sealE.map yv) (by decide) (by decide))
  have HTS := Lib.hid turnE_set
  have HSL := Lib.hid (show sealE.length = 512 by decide +kernel)
  have HTL := Lib.hid (show turnE.length = 512 by decide +kernel)
  have hz := zero_ptr
  have SZ := Lib.hid (size_ptrA (ptrOf 1 2 (sealE.map yv)))
  have SE := Lib.hid (show (ptrRow zeroPtr).toArray.size = (ptrRow (ptrOf 1 2 (sealE.map yv))).toArray.size by simp [ptrRow_length])
  have SO := Lib.hid (ptrRow_one (ptrOf 1 2 (sealE.map yv)))
  generalize ptrOf 1 2 (sealE.map yv) = PT at *
  generalize hPR : (ptrRow PT).toArray = PR at *
  have HPR := Lib.hid hPR
  generalize (ptrRow zeroPtr).toArray = PZ at *
  generalize sealE = S at *
  generalize turnE = D at *
  have HLL := Lib.hid (show abcE.length = 512 by decide +kernel)
  generalize abcE = L at *
  generalize keyE = ke at *
  clear hPR
  simp only [Act.put]
  go_cut [2, 3, 4] from 5 (fun v2 v3 v4 wc => ∃ c q, v2 = .slice (some ⟨c, 0, none⟩) 512 512 ∧ v3 = .pointer (some ⟨q, 0, none⟩) ∧ v4 = .int .i64 0 ∧ SD w3 wc c q S PT)
  case first =>
    try simp only [Act.put]
    refine wp_region_noPanic ?_
    refine wp_region_held_drew (S := fun W => W.rangeAt X 0 (yvs KL).toList) (by kernel_rfl) (HSV.out _ (Below.refl _ w3).drew) (fun hHeld => ?_)
    refine wpAnyH_take (i := 0) (oi := ⟨some 13, _, _, _, _, _⟩) rfl (by kernel_rfl) (by decide +kernel) (by decide +kernel) (fun _ _ _ h => h) (yieldsIf_load_mid (by rfl) _ _ rfl (X) (0) rfl (yvs KL).toList _ (fun w' h => h) Tryd.underlying28 rfl HIK.out) (by assumption) ?_
    try simp only [Act.put, List.setIfInBounds_toArray, List.set_cons_zero, List.set_cons_succ, Array.toArray_toList]
    clear hHeld
    have HB0 := Lib.hid (Below.refl w3.heap.size w3).drew
    refine wpAnyH_ready (rs := [1, 9]) (by decide +kernel) (by simp) ?_
    refine AllReadyH.cons rfl (fun K hK => ?_) (AllReadyH.cons rfl (fun K hK => ?_) AllReadyH.nil)
    · have hln := lit_abc (w3.drew)
      go_simp
      clear hln
      have hal := HB0.out.alloc HB0.out.size (.cells #[.int .u8 97, .int .u8 98, .int .u8 99] 5)
      have hxl := heap_alloc_new (w3.drew) (.cells #[.int .u8 97, .int .u8 98, .int .u8 99] 5)
      have hst := (Below.refl (w3.drew).heap.size (w3.drew)).alloc (Nat.le_refl _) (.cells #[.int .u8 97, .int .u8 98, .int .u8 99] 5)
      refine hK.out _ _ (HSV.out _ hal) (fun hHeld => ?_)
      clear hK K hHeld
      try simp only [Act.put, List.setIfInBounds_toArray, List.set_cons_zero, List.set_cons_succ]
      refine (show ∀ wa1 : World, wa1 = (w3.drew).alloc (.cells #[.int .u8 97, .int .u8 98, .int .u8 99] 5) → _ from ?_) _ rfl
      intro wa1 ew
      rw [← ew] at hal hxl hst
      have HL1 := Lib.hid (show wa1.heap[w3.heap.size]? = _ from hxl)
      have HGL1 := Lib.hid (show w3.heap.size ≤ w3.heap.size from HB0.out.size)
      have HB1 := Lib.hid hal
      clear ew hal hxl hst
      refine wpAnyH_ready (rs := [2, 9]) (by decide +kernel) (by simp) ?_
      refine AllReadyH.cons rfl (fun K hK => ?_) (AllReadyH.cons rfl (fun K hK => ?_) AllReadyH.nil)
      · obtain ⟨wv2, hcv, hgv, hsv, hov, hbv⟩ := conv_at (wa1) (w3.heap.size) #[.int .u8 97, .int .u8 98, .int .u8 99] 3 3 HL1.out
        go_simp
        refine hK.out _ _ (HSV.out _ (hbv _ _ HGL1.out HB1.out)) (fun hHeld => ?_)
        clear hK K hHeld
        try simp only [Act.put, List.setIfInBounds_toArray, List.set_cons_zero, List.set_cons_succ]
        have HB2 := Lib.hid (hbv _ _ HGL1.out HB1.out)
        have HL2 := Lib.hid (bs_abc hgv)
        have HLT2 := Lib.hid (lt_of_block hgv)
        clear hcv hgv hsv hov hbv
        refine wpAnyH_ready (rs := [3, 9]) (by decide +kernel) (by simp) ?_
        refine AllReadyH.cons rfl (fun K hK => ?_) (AllReadyH.cons rfl (fun K hK => ?_) AllReadyH.nil)
        · go_simp
          go_at_call 22
          refine (HBK.out _ HB2.out _ HL2.out).mono ?_
          rintro e wt3 ⟨rfl, hA, hst⟩
          have HB3 := Lib.hid (HB2.out.trans (hst.mono HB2.out.size))
          have HK3 := Lib.hid hA
          clear hA hst
          go_wp2_with fail
          refine hK.out _ _ (HSV.out _ HB3.out) (fun hHeld => ?_)
          clear hK K hHeld
          try simp only [Act.put, List.setIfInBounds_toArray, List.set_cons_zero, List.set_cons_succ]
          refine wpAnyH_ready (rs := [4, 9]) (by decide +kernel) (by simp) ?_
          refine AllReadyH.cons rfl (fun K hK => ?_) (AllReadyH.cons rfl (fun K hK => ?_) AllReadyH.nil)
          · go_simp
            go_at_call 14
            refine (HSE.out _ _ HB3.out HK3.out).mono ?_
            intro e wt4 hso
            unfold SealOf at hso
            rw [HPR.out] at hso
            obtain ⟨gc4, hgc, rfl, hA, hst⟩ := hso
            have HB4 := Lib.hid (HB3.out.trans (hst.mono HB3.out.size))
            have HC4 := Lib.hid hA
            have HGC4 := Lib.hid (Nat.le_trans HB3.out.size hgc)
            clear hA hst hgc
            go_wp2_with fail
            refine hK.out _ _ (HSV.out _ HB4.out) (fun hHeld => ?_)
            clear hK K
            try simp only [Act.put, List.setIfInBounds_toArray, List.set_cons_zero, List.set_cons_succ]
            refine wpAnyH_take (i := 5) (oi := ⟨some 12, _, _, _, _, _⟩) (v := ?_) rfl (by kernel_rfl) (by decide +kernel) (by decide +kernel) (fun _ _ _ h => h) (Or.inl ⟨by rfl, ?_⟩) (by assumption) ?_
            rotate_left 1
            · (intro w' hSw; go_simp; try with_reducible rfl)
            try simp only [Act.put, List.setIfInBounds_toArray, List.set_cons_zero, List.set_cons_succ]
            refine wpAnyH_take (i := 6) (oi := ⟨some 18, _, _, _, _, _⟩) (v := ?_) rfl (by kernel_rfl) (by decide +kernel) (by decide +kernel) (fun _ _ _ h => h) (Or.inl ⟨by rfl, ?_⟩) (by assumption) ?_
            rotate_left 1
            · (intro w' hSw; go_simp; try with_reducible rfl)
            try simp only [Act.put, List.setIfInBounds_toArray, List.set_cons_zero, List.set_cons_succ]
            refine wpAnyH_take (i := 7) (oi := ⟨some 19, _, _, _, _, _⟩) (v := ?_) rfl (by kernel_rfl) (by decide +kernel) (by decide +kernel) (fun _ _ _ h => h) (Or.inl ⟨by rfl, ?_⟩) (by assumption) ?_
            rotate_left 1
            · (intro w' hSw; go_simp; try with_reducible rfl)
            try simp only [Act.put, List.setIfInBounds_toArray, List.set_cons_zero, List.set_cons_succ]
            refine wpAnyH_take (i := 8) (oi := ⟨some 20, _, _, _, _, _⟩) (v := ?_) rfl (by kernel_rfl) (by decide +kernel) (by decide +kernel) (fun _ _ _ h => h) (Or.inl ⟨by rfl, ?_⟩) (by assumption) ?_
            rotate_left 1
            · (intro w' hSw; go_simp; try with_reducible rfl)
            try simp only [Act.put, List.setIfInBounds_toArray, List.set_cons_zero, List.set_cons_succ]
            clear hHeld
            refine wpAnyH_ready (rs := [9]) (by decide +kernel) (by simp) ?_
            refine AllReadyH.cons rfl (fun K hK => ?_) AllReadyH.nil
            go_simp
            have hal := HB4.out.alloc HB4.out.size (.cells PZ 41)
            have hxl := heap_alloc_new (wt4) (.cells PZ 41)
            have hst := (Below.refl (wt4).heap.size (wt4)).alloc (Nat.le_refl _) (.cells PZ 41)
            refine hK.out _ _ (HSV.out _ hal) (fun hHeld => ?_)
            clear hK K hHeld
            try simp only [Act.put, List.setIfInBounds_toArray, List.set_cons_zero, List.set_cons_succ]
            refine (show ∀ wa5 : World, wa5 = (wt4).alloc (.cells PZ 41) → _ from ?_) _ rfl
            intro wa5 ew
            rw [← ew] at hal hxl hst
            have HC5 := Lib.hid ((hst.block _ (lt_of_block HC4.out)).trans HC4.out)
            have HA5 := Lib.hid (show wa5.heap[wt4.heap.size]? = _ from hxl)
            have HGA5 := Lib.hid (show w3.heap.size ≤ wt4.heap.size from HB4.out.size)
            have HB5 := Lib.hid hal
            have HECA5 := Lib.hid (show gc4 ≠ wt4.heap.size from Nat.ne_of_lt (lt_of_block HC4.out))
            clear ew hal hxl hst
            have hHeld := HSV.out _ HB5.out
            refine wpAnyH_take (i := 10) (oi := ⟨some 2, _, _, _, _, _⟩) (v := ?_) rfl (by kernel_rfl) (by decide +kernel) (by decide +kernel) (fun _ _ _ h => h) (Or.inl ⟨by rfl, ?_⟩) (by assumption) ?_
            rotate_left 1
            · (intro w' hSw; go_simp; try with_reducible rfl)
            try simp only [Act.put, List.setIfInBounds_toArray, List.set_cons_zero, List.set_cons_succ]
            clear hHeld
            refine wpAnyH_ready (rs := [11]) (by decide +kernel) (by simp) ?_
            refine AllReadyH.cons rfl (fun K hK => ?_) AllReadyH.nil
            rw [if_pos (by kernel_rfl)]
            refine wp_store_row (o := ⟨none, .store _ (.tmp 3) _, _, _, _, _⟩) 41 _ _ rfl (wt4.heap.size) PR rfl rfl 41 PZ (show (wa5).heap[wt4.heap.size]? = _ from HA5.out) SZ.out SE.out SO.out ?_
            refine hK.out _ _ (HSV.out _ (ybelow_row HB5.out HGA5.out PR)) (fun hHeld => ?_)
            clear hK K hHeld
            simp only [Act.put]
            have hHeld := HSV.out _ (ybelow_row HB5.out HGA5.out PR)
            refine wpAnyH_take (i := 12) (oi := ⟨some 4, _, _, _, _, _⟩) (v := ?_) rfl (by kernel_rfl) (by decide +kernel) (by decide +kernel) (fun _ _ _ h => h) (Or.inl ⟨by rfl, ?_⟩) (by assumption) ?_
            rotate_left 1
            · (intro w' hSw; go_simp; try with_reducible rfl)
            try simp only [Act.put, List.setIfInBounds_toArray, List.set_cons_zero, List.set_cons_succ]
            clear hHeld
            refine wpAnyH_done (by decide +kernel) ?_ _
            refine NoPanic.normal ?_
            go_wp2_with fail
            go_meet
            exact ⟨gc4, wt4.heap.size, rfl, rfl, rfl, ⟨ybelow_row HB5.out HGA5.out PR, (setRow_other _ _ _ _ HECA5.out).trans HC5.out, by rw [HPR.out]; exact setRow_heap _ _ _ _ _ _ HA5.out, HECA5.out, HGC4.out, HGA5.out⟩⟩
          · go_simp
            have hal := HB3.out.alloc HB3.out.size (.cells PZ 41)
            have hxl := heap_alloc_new (wt3) (.cells PZ 41)
            have hst := (Below.refl (wt3).heap.size (wt3)).alloc (Nat.le_refl _) (.cells PZ 41)
            refine hK.out _ _ (HSV.out _ hal) (fun hHeld => ?_)
            clear hK K hHeld
            try simp only [Act.put, List.setIfInBounds_toArray, List.set_cons_zero, List.set_cons_succ]
            refine (show ∀ wa7 : World, wa7 = (wt3).alloc (.cells PZ 41) → _ from ?_) _ rfl
            intro wa7 ew
            rw [← ew] at hal hxl hst
            have HK7 := Lib.hid ((hst.block _ (lt_of_block HK3.out)).trans HK3.out)
            have HA7 := Lib.hid (show wa7.heap[wt3.heap.size]? = _ from hxl)
            have HGA7 := Lib.hid (show w3.heap.size ≤ wt3.heap.size from HB3.out.size)
            have HB7 := Lib.hid hal
            have HEKA7 := Lib.hid (show wv2.heap.size ≠ wt3.heap.size from Nat.ne_of_lt (lt_of_block HK3.out))
            clear ew hal hxl hst
            refine wpAnyH_ready (rs := [4]) (by decide +kernel) (by simp) ?_
            refine AllReadyH.cons rfl (fun K hK => ?_) AllReadyH.nil
            go_simp
            go_at_call 14
            refine (HSE.out _ _ HB7.out HK7.out).mono ?_
            intro e wt8 hso
            unfold SealOf at hso
            rw [HPR.out] at hso
            obtain ⟨gc8, hgc, rfl, hA, hst⟩ := hso
            have HEAC8 := Lib.hid (show gc8 ≠ wt3.heap.size from Ne.symm (Nat.ne_of_lt (Nat.lt_of_lt_of_le (lt_of_block HA7.out) hgc)))
            have HA8 := Lib.hid ((hst.block _ (lt_of_block HA7.out)).trans HA7.out)
            have HB8 := Lib.hid (HB7.out.trans (hst.mono HB7.out.size))
            have HC8 := Lib.hid hA
            have HGC8 := Lib.hid (Nat.le_trans HB7.out.size hgc)
            clear hA hst hgc
            go_wp2_with fail
            refine hK.out _ _ (HSV.out _ HB8.out) (fun hHeld => ?_)
            clear hK K
            try simp only [Act.put, List.setIfInBounds_toArray, List.set_cons_zero, List.set_cons_succ]
            refine wpAnyH_take (i := 5) (oi := ⟨some 12, _, _, _, _, _⟩) (v := ?_) rfl (by kernel_rfl) (by decide +kernel) (by decide +kernel) (fun _ _ _ h => h) (Or.inl ⟨by rfl, ?_⟩) (by assumption) ?_
            rotate_left 1
            · (intro w' hSw; go_simp; try with_reducible rfl)
            try simp only [Act.put, List.setIfInBounds_toArray, List.set_cons_zero, List.set_cons_succ]
            refine wpAnyH_take (i := 6) (oi := ⟨some 18, _, _, _, _, _⟩) (v := ?_) rfl (by kernel_rfl) (by decide +kernel) (by decide +kernel) (fun _ _ _ h => h) (Or.inl ⟨by rfl, ?_⟩) (by assumption) ?_
            rotate_left 1
            · (intro w' hSw; go_simp; try with_reducible rfl)
            try simp only [Act.put, List.setIfInBounds_toArray, List.set_cons_zero, List.set_cons_succ]
            refine wpAnyH_take (i := 7) (oi := ⟨some 19, _, _, _, _, _⟩) (v := ?_) rfl (by kernel_rfl) (by decide +kernel) (by decide +kernel) (fun _ _ _ h => h) (Or.inl ⟨by rfl, ?_⟩) (by assumption) ?_
            rotate_left 1
            · (intro w' hSw; go_simp; try with_reducible rfl)
            try simp only [Act.put, List.setIfInBounds_toArray, List.set_cons_zero, List.set_cons_succ]
            refine wpAnyH_take (i := 8) (oi := ⟨some 20, _, _, _, _, _⟩) (v := ?_) rfl (by kernel_rfl) (by decide +kernel) (by decide +kernel) (fun _ _ _ h => h) (Or.inl ⟨by rfl, ?_⟩) (by assumption) ?_
            rotate_left 1
            · (intro w' hSw; go_simp; try with_reducible rfl)
            try simp only [Act.put, List.setIfInBounds_toArray, List.set_cons_zero, List.set_cons_succ]
            clear hHeld
            have hHeld := HSV.out _ HB8.out
            refine wpAnyH_take (i := 10) (oi := ⟨some 2, _, _, _, _, _⟩) (v := ?_) rfl (by kernel_rfl) (by decide +kernel) (by decide +kernel) (fun _ _ _ h => h) (Or.inl ⟨by rfl, ?_⟩) (by assumption) ?_
            rotate_left 1
            · (intro w' hSw; go_simp; try with_reducible rfl)
            try simp only [Act.put, List.setIfInBounds_toArray, List.set_cons_zero, List.set_cons_succ]
            clear hHeld
            refine wpAnyH_ready (rs := [11]) (by decide +kernel) (by simp) ?_
            refine AllReadyH.cons rfl (fun K hK => ?_) AllReadyH.nil
            rw [if_pos (by kernel_rfl)]
            refine wp_store_row (o := ⟨none, .store _ (.tmp 3) _, _, _, _, _⟩) 41 _ _ rfl (wt3.heap.size) PR rfl rfl 41 PZ (show (wt8).heap[wt3.heap.size]? = _ from HA8.out) SZ.out SE.out SO.out ?_
            refine hK.out _ _ (HSV.out _ (ybelow_row HB8.out HGA7.out PR)) (fun hHeld => ?_)
            clear hK K hHeld
            simp only [Act.put]
            have hHeld := HSV.out _ (ybelow_row HB8.out HGA7.out PR)
            refine wpAnyH_take (i := 12) (oi := ⟨some 4, _, _, _, _, _⟩) (v := ?_) rfl (by kernel_rfl) (by decide +kernel) (by decide +kernel) (fun _ _ _ h => h) (Or.inl ⟨by rfl, ?_⟩) (by assumption) ?_
            rotate_left 1
            · (intro w' hSw; go_simp; try with_reducible rfl)
            try simp only [Act.put, List.setIfInBounds_toArray, List.set_cons_zero, List.set_cons_succ]
            clear hHeld
            refine wpAnyH_done (by decide +kernel) ?_ _
            refine NoPanic.normal ?_
            go_wp2_with fail
            go_meet
            exact ⟨gc8, wt3.heap.size, rfl, rfl, rfl, ⟨ybelow_row HB8.out HGA7.out PR, (setRow_other _ _ _ _ HEAC8.out).trans HC8.out, by rw [HPR.out]; exact setRow_heap _ _ _ _ _ _ HA8.out, HEAC8.out, HGC8.out, HGA7.out⟩⟩
        · go_simp
          have hal := HB2.out.alloc HB2.out.size (.cells PZ 41)
          have hxl := heap_alloc_new (wv2) (.cells PZ 41)
          have hst := (Below.refl (wv2).heap.size (wv2)).alloc (Nat.le_refl _) (.cells PZ 41)
          refine hK.out _ _ (HSV.out _ hal) (fun hHeld => ?_)
          clear hK K hHeld
          try simp only [Act.put, List.setIfInBounds_toArray, List.set_cons_zero, List.set_cons_succ]
          refine (show ∀ wa10 : World, wa10 = (wv2).alloc (.cells PZ 41) → _ from ?_) _ rfl
          intro wa10 ew
          rw [← ew] at hal hxl hst
          have HL10 := Lib.hid ((HL2.out).kept hst)
          have HA10 := Lib.hid (show wa10.heap[wv2.heap.size]? = _ from hxl)
          have HGA10 := Lib.hid (show w3.heap.size ≤ wv2.heap.size from HB2.out.size)
          have HB10 := Lib.hid hal
          clear ew hal hxl hst
          refine wpAnyH_ready (rs := [3]) (by decide +kernel) (by simp) ?_
          refine AllReadyH.cons rfl (fun K hK => ?_) AllReadyH.nil
          go_simp
          go_at_call 22
          refine (HBK.out _ HB10.out _ HL10.out).mono ?_
          rintro e wt11 ⟨rfl, hA, hst⟩
          have HA11 := Lib.hid ((hst.block _ (lt_of_block HA10.out)).trans HA10.out)
          have HB11 := Lib.hid (HB10.out.trans (hst.mono HB10.out.size))
          have HK11 := Lib.hid hA
          clear hA hst
          go_wp2_with fail
          refine hK.out _ _ (HSV.out _ HB11.out) (fun hHeld => ?_)
          clear hK K hHeld
          try simp only [Act.put, List.setIfInBounds_toArray, List.set_cons_zero, List.set_cons_succ]
          refine wpAnyH_ready (rs := [4]) (by decide +kernel) (by simp) ?_
          refine AllReadyH.cons rfl (fun K hK => ?_) AllReadyH.nil
          go_simp
          go_at_call 14
          refine (HSE.out _ _ HB11.out HK11.out).mono ?_
          intro e wt12 hso
          unfold SealOf at hso
          rw [HPR.out] at hso
          obtain ⟨gc12, hgc, rfl, hA, hst⟩ := hso
          have HEAC12 := Lib.hid (show gc12 ≠ wv2.heap.size from Ne.symm (Nat.ne_of_lt (Nat.lt_of_lt_of_le (lt_of_block HA11.out) hgc)))
          have HA12 := Lib.hid ((hst.block _ (lt_of_block HA11.out)).trans HA11.out)
          have HB12 := Lib.hid (HB11.out.trans (hst.mono HB11.out.size))
          have HC12 := Lib.hid hA
          have HGC12 := Lib.hid (Nat.le_trans HB11.out.size hgc)
          clear hA hst hgc
          go_wp2_with fail
          refine hK.out _ _ (HSV.out _ HB12.out) (fun hHeld => ?_)
          clear hK K
          try simp only [Act.put, List.setIfInBounds_toArray, List.set_cons_zero, List.set_cons_succ]
          refine wpAnyH_take (i := 5) (oi := ⟨some 12, _, _, _, _, _⟩) (v := ?_) rfl (by kernel_rfl) (by decide +kernel) (by decide +kernel) (fun _ _ _ h => h) (Or.inl ⟨by rfl, ?_⟩) (by assumption) ?_
          rotate_left 1
          · (intro w' hSw; go_simp; try with_reducible rfl)
          try simp only [Act.put, List.setIfInBounds_toArray, List.set_cons_zero, List.set_cons_succ]
          refine wpAnyH_take (i := 6) (oi := ⟨some 18, _, _, _, _, _⟩) (v := ?_) rfl (by kernel_rfl) (by decide +kernel) (by decide +kernel) (fun _ _ _ h => h) (Or.inl ⟨by rfl, ?_⟩) (by assumption) ?_
          rotate_left 1
          · (intro w' hSw; go_simp; try with_reducible rfl)
          try simp only [Act.put, List.setIfInBounds_toArray, List.set_cons_zero, List.set_cons_succ]
          refine wpAnyH_take (i := 7) (oi := ⟨some 19, _, _, _, _, _⟩) (v := ?_) rfl (by kernel_rfl) (by decide +kernel) (by decide +kernel) (fun _ _ _ h => h) (Or.inl ⟨by rfl, ?_⟩) (by assumption) ?_
          rotate_left 1
          · (intro w' hSw; go_simp; try with_reducible rfl)
          try simp only [Act.put, List.setIfInBounds_toArray, List.set_cons_zero, List.set_cons_succ]
          refine wpAnyH_take (i := 8) (oi := ⟨some 20, _, _, _, _, _⟩) (v := ?_) rfl (by kernel_rfl) (by decide +kernel) (by decide +kernel) (fun _ _ _ h => h) (Or.inl ⟨by rfl, ?_⟩) (by assumption) ?_
          rotate_left 1
          · (intro w' hSw; go_simp; try with_reducible rfl)
          try simp only [Act.put, List.setIfInBounds_toArray, List.set_cons_zero, List.set_cons_succ]
          clear hHeld
          have hHeld := HSV.out _ HB12.out
          refine wpAnyH_take (i := 10) (oi := ⟨some 2, _, _, _, _, _⟩) (v := ?_) rfl (by kernel_rfl) (by decide +kernel) (by decide +kernel) (fun _ _ _ h => h) (Or.inl ⟨by rfl, ?_⟩) (by assumption) ?_
          rotate_left 1
          · (intro w' hSw; go_simp; try with_reducible rfl)
          try simp only [Act.put, List.setIfInBounds_toArray, List.set_cons_zero, List.set_cons_succ]
          clear hHeld
          refine wpAnyH_ready (rs := [11]) (by decide +kernel) (by simp) ?_
          refine AllReadyH.cons rfl (fun K hK => ?_) AllReadyH.nil
          rw [if_pos (by kernel_rfl)]
          refine wp_store_row (o := ⟨none, .store _ (.tmp 3) _, _, _, _, _⟩) 41 _ _ rfl (wv2.heap.size) PR rfl rfl 41 PZ (show (wt12).heap[wv2.heap.size]? = _ from HA12.out) SZ.out SE.out SO.out ?_
          refine hK.out _ _ (HSV.out _ (ybelow_row HB12.out HGA10.out PR)) (fun hHeld => ?_)
          clear hK K hHeld
          simp only [Act.put]
          have hHeld := HSV.out _ (ybelow_row HB12.out HGA10.out PR)
          refine wpAnyH_take (i := 12) (oi := ⟨some 4, _, _, _, _, _⟩) (v := ?_) rfl (by kernel_rfl) (by decide +kernel) (by decide +kernel) (fun _ _ _ h => h) (Or.inl ⟨by rfl, ?_⟩) (by assumption) ?_
          rotate_left 1
          · (intro w' hSw; go_simp; try with_reducible rfl)
          try simp only [Act.put, List.setIfInBounds_toArray, List.set_cons_zero, List.set_cons_succ]
          clear hHeld
          refine wpAnyH_done (by decide +kernel) ?_ _
          refine NoPanic.normal ?_
          go_wp2_with fail
          go_meet
          exact ⟨gc12, wv2.heap.size, rfl, rfl, rfl, ⟨ybelow_row HB12.out HGA10.out PR, (setRow_other _ _ _ _ HEAC12.out).trans HC12.out, by rw [HPR.out]; exact setRow_heap _ _ _ _ _ _ HA12.out, HEAC12.out, HGC12.out, HGA10.out⟩⟩
      · go_simp
        have hal := HB1.out.alloc HB1.out.size (.cells PZ 41)
        have hxl := heap_alloc_new (wa1) (.cells PZ 41)
        have hst := (Below.refl (wa1).heap.size (wa1)).alloc (Nat.le_refl _) (.cells PZ 41)
        refine hK.out _ _ (HSV.out _ hal) (fun hHeld => ?_)
        clear hK K hHeld
        try simp only [Act.put, List.setIfInBounds_toArray, List.set_cons_zero, List.set_cons_succ]
        refine (show ∀ wa14 : World, wa14 = (wa1).alloc (.cells PZ 41) → _ from ?_) _ rfl
        intro wa14 ew
        rw [← ew] at hal hxl hst
        have HL14 := Lib.hid ((hst.block _ (lt_of_block HL1.out)).trans HL1.out)
        have HA14 := Lib.hid (show wa14.heap[wa1.heap.size]? = _ from hxl)
        have HGA14 := Lib.hid (show w3.heap.size ≤ wa1.heap.size from HB1.out.size)
        have HB14 := Lib.hid hal
        have HELA14 := Lib.hid (show w3.heap.size ≠ wa1.heap.size from Nat.ne_of_lt (lt_of_block HL1.out))
        clear ew hal hxl hst
        refine wpAnyH_ready (rs := [2]) (by decide +kernel) (by simp) ?_
        refine AllReadyH.cons rfl (fun K hK => ?_) AllReadyH.nil
        obtain ⟨wv15, hcv, hgv, hsv, hov, hbv⟩ := conv_at (wa14) (w3.heap.size) #[.int .u8 97, .int .u8 98, .int .u8 99] 3 3 HL14.out
        go_simp
        refine hK.out _ _ (HSV.out _ (hbv _ _ HGL1.out HB14.out)) (fun hHeld => ?_)
        clear hK K hHeld
        try simp only [Act.put, List.setIfInBounds_toArray, List.set_cons_zero, List.set_cons_succ]
        have HB15 := Lib.hid (hbv _ _ HGL1.out HB14.out)
        have HL15 := Lib.hid (bs_abc hgv)
        have HLT15 := Lib.hid (lt_of_block hgv)
        have HA15 := Lib.hid ((hov _ (Ne.symm HELA14.out)).trans HA14.out)
        clear hcv hgv hsv hov hbv
        refine wpAnyH_ready (rs := [3]) (by decide +kernel) (by simp) ?_
        refine AllReadyH.cons rfl (fun K hK => ?_) AllReadyH.nil
        go_simp
        go_at_call 22
        refine (HBK.out _ HB15.out _ HL15.out).mono ?_
        rintro e wt16 ⟨rfl, hA, hst⟩
        have HA16 := Lib.hid ((hst.block _ (lt_of_block HA15.out)).trans HA15.out)
        have HB16 := Lib.hid (HB15.out.trans (hst.mono HB15.out.size))
        have HK16 := Lib.hid hA
        clear hA hst
        go_wp2_with fail
        refine hK.out _ _ (HSV.out _ HB16.out) (fun hHeld => ?_)
        clear hK K hHeld
        try simp only [Act.put, List.setIfInBounds_toArray, List.set_cons_zero, List.set_cons_succ]
        refine wpAnyH_ready (rs := [4]) (by decide +kernel) (by simp) ?_
        refine AllReadyH.cons rfl (fun K hK => ?_) AllReadyH.nil
        go_simp
        go_at_call 14
        refine (HSE.out _ _ HB16.out HK16.out).mono ?_
        intro e wt17 hso
        unfold SealOf at hso
        rw [HPR.out] at hso
        obtain ⟨gc17, hgc, rfl, hA, hst⟩ := hso
        have HEAC17 := Lib.hid (show gc17 ≠ wa1.heap.size from Ne.symm (Nat.ne_of_lt (Nat.lt_of_lt_of_le (lt_of_block HA16.out) hgc)))
        have HA17 := Lib.hid ((hst.block _ (lt_of_block HA16.out)).trans HA16.out)
        have HB17 := Lib.hid (HB16.out.trans (hst.mono HB16.out.size))
        have HC17 := Lib.hid hA
        have HGC17 := Lib.hid (Nat.le_trans HB16.out.size hgc)
        clear hA hst hgc
        go_wp2_with fail
        refine hK.out _ _ (HSV.out _ HB17.out) (fun hHeld => ?_)
        clear hK K
        try simp only [Act.put, List.setIfInBounds_toArray, List.set_cons_zero, List.set_cons_succ]
        refine wpAnyH_take (i := 5) (oi := ⟨some 12, _, _, _, _, _⟩) (v := ?_) rfl (by kernel_rfl) (by decide +kernel) (by decide +kernel) (fun _ _ _ h => h) (Or.inl ⟨by rfl, ?_⟩) (by assumption) ?_
        rotate_left 1
        · (intro w' hSw; go_simp; try with_reducible rfl)
        try simp only [Act.put, List.setIfInBounds_toArray, List.set_cons_zero, List.set_cons_succ]
        refine wpAnyH_take (i := 6) (oi := ⟨some 18, _, _, _, _, _⟩) (v := ?_) rfl (by kernel_rfl) (by decide +kernel) (by decide +kernel) (fun _ _ _ h => h) (Or.inl ⟨by rfl, ?_⟩) (by assumption) ?_
        rotate_left 1
        · (intro w' hSw; go_simp; try with_reducible rfl)
        try simp only [Act.put, List.setIfInBounds_toArray, List.set_cons_zero, List.set_cons_succ]
        refine wpAnyH_take (i := 7) (oi := ⟨some 19, _, _, _, _, _⟩) (v := ?_) rfl (by kernel_rfl) (by decide +kernel) (by decide +kernel) (fun _ _ _ h => h) (Or.inl ⟨by rfl, ?_⟩) (by assumption) ?_
        rotate_left 1
        · (intro w' hSw; go_simp; try with_reducible rfl)
        try simp only [Act.put, List.setIfInBounds_toArray, List.set_cons_zero, List.set_cons_succ]
        refine wpAnyH_take (i := 8) (oi := ⟨some 20, _, _, _, _, _⟩) (v := ?_) rfl (by kernel_rfl) (by decide +kernel) (by decide +kernel) (fun _ _ _ h => h) (Or.inl ⟨by rfl, ?_⟩) (by assumption) ?_
        rotate_left 1
        · (intro w' hSw; go_simp; try with_reducible rfl)
        try simp only [Act.put, List.setIfInBounds_toArray, List.set_cons_zero, List.set_cons_succ]
        clear hHeld
        have hHeld := HSV.out _ HB17.out
        refine wpAnyH_take (i := 10) (oi := ⟨some 2, _, _, _, _, _⟩) (v := ?_) rfl (by kernel_rfl) (by decide +kernel) (by decide +kernel) (fun _ _ _ h => h) (Or.inl ⟨by rfl, ?_⟩) (by assumption) ?_
        rotate_left 1
        · (intro w' hSw; go_simp; try with_reducible rfl)
        try simp only [Act.put, List.setIfInBounds_toArray, List.set_cons_zero, List.set_cons_succ]
        clear hHeld
        refine wpAnyH_ready (rs := [11]) (by decide +kernel) (by simp) ?_
        refine AllReadyH.cons rfl (fun K hK => ?_) AllReadyH.nil
        rw [if_pos (by kernel_rfl)]
        refine wp_store_row (o := ⟨none, .store _ (.tmp 3) _, _, _, _, _⟩) 41 _ _ rfl (wa1.heap.size) PR rfl rfl 41 PZ (show (wt17).heap[wa1.heap.size]? = _ from HA17.out) SZ.out SE.out SO.out ?_
        refine hK.out _ _ (HSV.out _ (ybelow_row HB17.out HGA14.out PR)) (fun hHeld => ?_)
        clear hK K hHeld
        simp only [Act.put]
        have hHeld := HSV.out _ (ybelow_row HB17.out HGA14.out PR)
        refine wpAnyH_take (i := 12) (oi := ⟨some 4, _, _, _, _, _⟩) (v := ?_) rfl (by kernel_rfl) (by decide +kernel) (by decide +kernel) (fun _ _ _ h => h) (Or.inl ⟨by rfl, ?_⟩) (by assumption) ?_
        rotate_left 1
        · (intro w' hSw; go_simp; try with_reducible rfl)
        try simp only [Act.put, List.setIfInBounds_toArray, List.set_cons_zero, List.set_cons_succ]
        clear hHeld
        refine wpAnyH_done (by decide +kernel) ?_ _
        refine NoPanic.normal ?_
        go_wp2_with fail
        go_meet
        exact ⟨gc17, wa1.heap.size, rfl, rfl, rfl, ⟨ybelow_row HB17.out HGA14.out PR, (setRow_other _ _ _ _ HEAC17.out).trans HC17.out, by rw [HPR.out]; exact setRow_heap _ _ _ _ _ _ HA17.out, HEAC17.out, HGC17.out, HGA14.out⟩⟩
    · go_simp
      have hal := HB0.out.alloc HB0.out.size (.cells PZ 41)
      have hxl := heap_alloc_new (w3.drew) (.cells PZ 41)
      have hst := (Below.refl (w3.drew).heap.size (w3.drew)).alloc (Nat.le_refl _) (.cells PZ 41)
      refine hK.out _ _ (HSV.out _ hal) (fun hHeld => ?_)
      clear hK K hHeld
      try simp only [Act.put, List.setIfInBounds_toArray, List.set_cons_zero, List.set_cons_succ]
      refine (show ∀ wa19 : World, wa19 = (w3.drew).alloc (.cells PZ 41) → _ from ?_) _ rfl
      intro wa19 ew
      rw [← ew] at hal hxl hst
      have HA19 := Lib.hid (show wa19.heap[w3.heap.size]? = _ from hxl)
      have HGA19 := Lib.hid (show w3.heap.size ≤ w3.heap.size from HB0.out.size)
      have HB19 := Lib.hid hal
      clear ew hal hxl hst
      refine wpAnyH_ready (rs := [1]) (by decide +kernel) (by simp) ?_
      refine AllReadyH.cons rfl (fun K hK => ?_) AllReadyH.nil
      have hln := lit_abc (wa19)
      go_simp
      clear hln
      have hal := HB19.out.alloc HB19.out.size (.cells #[.int .u8 97, .int .u8 98, .int .u8 99] 5)
      have hxl := heap_alloc_new (wa19) (.cells #[.int .u8 97, .int .u8 98, .int .u8 99] 5)
      have hst := (Below.refl (wa19).heap.size (wa19)).alloc (Nat.le_refl _) (.cells #[.int .u8 97, .int .u8 98, .int .u8 99] 5)
      refine hK.out _ _ (HSV.out _ hal) (fun hHeld => ?_)
      clear hK K hHeld
      try simp only [Act.put, List.setIfInBounds_toArray, List.set_cons_zero, List.set_cons_succ]
      refine (show ∀ wa20 : World, wa20 = (wa19).alloc (.cells #[.int .u8 97, .int .u8 98, .int .u8 99] 5) → _ from ?_) _ rfl
      intro wa20 ew
      rw [← ew] at hal hxl hst
      have HA20 := Lib.hid ((hst.block _ (lt_of_block HA19.out)).trans HA19.out)
      have HL20 := Lib.hid (show wa20.heap[wa19.heap.size]? = _ from hxl)
      have HGL20 := Lib.hid (show w3.heap.size ≤ wa19.heap.size from HB19.out.size)
      have HB20 := Lib.hid hal
      have HEAL20 := Lib.hid (show w3.heap.size ≠ wa19.heap.size from Nat.ne_of_lt (lt_of_block HA19.out))
      clear ew hal hxl hst
      refine wpAnyH_ready (rs := [2]) (by decide +kernel) (by simp) ?_
      refine AllReadyH.cons rfl (fun K hK => ?_) AllReadyH.nil
      obtain ⟨wv21, hcv, hgv, hsv, hov, hbv⟩ := conv_at (wa20) (wa19.heap.size) #[.int .u8 97, .int .u8 98, .int .u8 99] 3 3 HL20.out
      go_simp
      refine hK.out _ _ (HSV.out _ (hbv _ _ HGL20.out HB20.out)) (fun hHeld => ?_)
      clear hK K hHeld
      try simp only [Act.put, List.setIfInBounds_toArray, List.set_cons_zero, List.set_cons_succ]
      have HB21 := Lib.hid (hbv _ _ HGL20.out HB20.out)
      have HL21 := Lib.hid (bs_abc hgv)
      have HLT21 := Lib.hid (lt_of_block hgv)
      have HA21 := Lib.hid ((hov _ HEAL20.out).trans HA20.out)
      clear hcv hgv hsv hov hbv
      refine wpAnyH_ready (rs := [3]) (by decide +kernel) (by simp) ?_
      refine AllReadyH.cons rfl (fun K hK => ?_) AllReadyH.nil
      go_simp
      go_at_call 22
      refine (HBK.out _ HB21.out _ HL21.out).mono ?_
      rintro e wt22 ⟨rfl, hA, hst⟩
      have HA22 := Lib.hid ((hst.block _ (lt_of_block HA21.out)).trans HA21.out)
      have HB22 := Lib.hid (HB21.out.trans (hst.mono HB21.out.size))
      have HK22 := Lib.hid hA
      clear hA hst
      go_wp2_with fail
      refine hK.out _ _ (HSV.out _ HB22.out) (fun hHeld => ?_)
      clear hK K hHeld
      try simp only [Act.put, List.setIfInBounds_toArray, List.set_cons_zero, List.set_cons_succ]
      refine wpAnyH_ready (rs := [4]) (by decide +kernel) (by simp) ?_
      refine AllReadyH.cons rfl (fun K hK => ?_) AllReadyH.nil
      go_simp
      go_at_call 14
      refine (HSE.out _ _ HB22.out HK22.out).mono ?_
      intro e wt23 hso
      unfold SealOf at hso
      rw [HPR.out] at hso
      obtain ⟨gc23, hgc, rfl, hA, hst⟩ := hso
      have HEAC23 := Lib.hid (show gc23 ≠ w3.heap.size from Ne.symm (Nat.ne_of_lt (Nat.lt_of_lt_of_le (lt_of_block HA22.out) hgc)))
      have HA23 := Lib.hid ((hst.block _ (lt_of_block HA22.out)).trans HA22.out)
      have HB23 := Lib.hid (HB22.out.trans (hst.mono HB22.out.size))
      have HC23 := Lib.hid hA
      have HGC23 := Lib.hid (Nat.le_trans HB22.out.size hgc)
      clear hA hst hgc
      go_wp2_with fail
      refine hK.out _ _ (HSV.out _ HB23.out) (fun hHeld => ?_)
      clear hK K
      try simp only [Act.put, List.setIfInBounds_toArray, List.set_cons_zero, List.set_cons_succ]
      refine wpAnyH_take (i := 5) (oi := ⟨some 12, _, _, _, _, _⟩) (v := ?_) rfl (by kernel_rfl) (by decide +kernel) (by decide +kernel) (fun _ _ _ h => h) (Or.inl ⟨by rfl, ?_⟩) (by assumption) ?_
      rotate_left 1
      · (intro w' hSw; go_simp; try with_reducible rfl)
      try simp only [Act.put, List.setIfInBounds_toArray, List.set_cons_zero, List.set_cons_succ]
      refine wpAnyH_take (i := 6) (oi := ⟨some 18, _, _, _, _, _⟩) (v := ?_) rfl (by kernel_rfl) (by decide +kernel) (by decide +kernel) (fun _ _ _ h => h) (Or.inl ⟨by rfl, ?_⟩) (by assumption) ?_
      rotate_left 1
      · (intro w' hSw; go_simp; try with_reducible rfl)
      try simp only [Act.put, List.setIfInBounds_toArray, List.set_cons_zero, List.set_cons_succ]
      refine wpAnyH_take (i := 7) (oi := ⟨some 19, _, _, _, _, _⟩) (v := ?_) rfl (by kernel_rfl) (by decide +kernel) (by decide +kernel) (fun _ _ _ h => h) (Or.inl ⟨by rfl, ?_⟩) (by assumption) ?_
      rotate_left 1
      · (intro w' hSw; go_simp; try with_reducible rfl)
      try simp only [Act.put, List.setIfInBounds_toArray, List.set_cons_zero, List.set_cons_succ]
      refine wpAnyH_take (i := 8) (oi := ⟨some 20, _, _, _, _, _⟩) (v := ?_) rfl (by kernel_rfl) (by decide +kernel) (by decide +kernel) (fun _ _ _ h => h) (Or.inl ⟨by rfl, ?_⟩) (by assumption) ?_
      rotate_left 1
      · (intro w' hSw; go_simp; try with_reducible rfl)
      try simp only [Act.put, List.setIfInBounds_toArray, List.set_cons_zero, List.set_cons_succ]
      clear hHeld
      have hHeld := HSV.out _ HB23.out
      refine wpAnyH_take (i := 10) (oi := ⟨some 2, _, _, _, _, _⟩) (v := ?_) rfl (by kernel_rfl) (by decide +kernel) (by decide +kernel) (fun _ _ _ h => h) (Or.inl ⟨by rfl, ?_⟩) (by assumption) ?_
      rotate_left 1
      · (intro w' hSw; go_simp; try with_reducible rfl)
      try simp only [Act.put, List.setIfInBounds_toArray, List.set_cons_zero, List.set_cons_succ]
      clear hHeld
      refine wpAnyH_ready (rs := [11]) (by decide +kernel) (by simp) ?_
      refine AllReadyH.cons rfl (fun K hK => ?_) AllReadyH.nil
      rw [if_pos (by kernel_rfl)]
      refine wp_store_row (o := ⟨none, .store _ (.tmp 3) _, _, _, _, _⟩) 41 _ _ rfl (w3.heap.size) PR rfl rfl 41 PZ (show (wt23).heap[w3.heap.size]? = _ from HA23.out) SZ.out SE.out SO.out ?_
      refine hK.out _ _ (HSV.out _ (ybelow_row HB23.out HGA19.out PR)) (fun hHeld => ?_)
      clear hK K hHeld
      simp only [Act.put]
      have hHeld := HSV.out _ (ybelow_row HB23.out HGA19.out PR)
      refine wpAnyH_take (i := 12) (oi := ⟨some 4, _, _, _, _, _⟩) (v := ?_) rfl (by kernel_rfl) (by decide +kernel) (by decide +kernel) (fun _ _ _ h => h) (Or.inl ⟨by rfl, ?_⟩) (by assumption) ?_
      rotate_left 1
      · (intro w' hSw; go_simp; try with_reducible rfl)
      try simp only [Act.put, List.setIfInBounds_toArray, List.set_cons_zero, List.set_cons_succ]
      clear hHeld
      refine wpAnyH_done (by decide +kernel) ?_ _
      refine NoPanic.normal ?_
      go_wp2_with fail
      go_meet
      exact ⟨gc23, w3.heap.size, rfl, rfl, rfl, ⟨ybelow_row HB23.out HGA19.out PR, (setRow_other _ _ _ _ HEAC23.out).trans HC23.out, by rw [HPR.out]; exact setRow_heap _ _ _ _ _ _ HA23.out, HEAC23.out, HGC23.out, HGA19.out⟩⟩
  case rest =>
    obtain ⟨c, q, rfl, rfl, rfl, hsd⟩ := hcut
    have HSD := Lib.hid hsd
    clear hsd HSE HSV hz SE SO
    have HX4 := Lib.hid (show wc.heap[X]? = some (.cells (yvs KL) 28 (0, 0)) from ArrY.below HA3.out HSD.out.bel (lt_of_block HA3.out))
    have HQ4 := Lib.hid (show wc.heap[q]? = some (.cells PR 41 (0, 0)) by rw [← HPR.out]; exact HSD.out.qy)
    go_wp2_with (first
      | (with_reducible refine wpList_load_row (o := ⟨some 22, _, _, _, _, _⟩) rfl 28 _ rfl X rfl 28 (yvs KL) (0, 0) _ HX4.out Tryd.underlying28 rfl SE0.out ?_)
      | (with_reducible refine wpList_load_row (o := ⟨some 23, _, _, _, _, _⟩) rfl 41 _ rfl q rfl 41 PR (0, 0) _ HQ4.out Tryd.underlying41 rfl SZ.out ?_))
    refine (HOP.out wc S c HSD.out.bel HSD.out.cy HSL.out).mono ?_
    rw [HO1.out]
    rintro e w5 ⟨x5, y5, z5, rfl, hbt, hb5⟩
    have HB5 := Lib.hid (HSD.out.bel.trans (hb5.mono HSD.out.bel.size))
    have HC5 := Lib.hid ((hb5.block c (lt_of_block HSD.out.cy)).trans HSD.out.cy)
    have HX5 := Lib.hid ((hb5.block X (lt_of_block HX4.out)).trans HX4.out)
    have HQ5 := Lib.hid ((hb5.block q (lt_of_block HQ4.out)).trans HQ4.out)
    have HBT := Lib.hid hbt.1
    clear hbt hb5 HX4 HQ4
    have HSB := Lib.hid (fun (W : World) (hW : Below w5.heap.size w5 W) => HBT.out.kept hW)
    go_upto_region 4 with fail
    try simp only [Act.put]
    refine wp_region_noPanic ?_
    refine wp_region_held_drew (S := fun W => BS W (.slice x5 y5 z5) (L.map yv)) (by kernel_rfl) (HSB.out _ (Below.refl _ w5).drew) (fun hHeld => ?_)
    refine wpAnyH_take (i := 0) (oi := ⟨some 28, _, _, _, _, _⟩) (v := ?_) rfl (by kernel_rfl) (by decide +kernel) (by decide +kernel) (fun _ _ _ h => h) (Or.inl ⟨by rfl, ?_⟩) (by assumption) ?_
    rotate_left 1
    · (intro w' hSw; go_simp; try with_reducible rfl)
    try simp only [Act.put, List.setIfInBounds_toArray, List.set_cons_zero, List.set_cons_succ]
    refine wpAnyH_take (i := 1) (oi := ⟨some 29, _, _, _, _, _⟩) (v := ?_) rfl (by kernel_rfl) (by decide +kernel) (by decide +kernel) (fun _ _ _ h => h) (Or.inl ⟨by rfl, ?_⟩) (by assumption) ?_
    rotate_left 1
    · (intro w' hSw; go_simp; try with_reducible rfl)
    try simp only [Act.put, List.setIfInBounds_toArray, List.set_cons_zero, List.set_cons_succ]
    refine wpAnyH_take (i := 2) (oi := ⟨some 30, _, _, _, _, _⟩) (v := ?_) rfl (by kernel_rfl) (by decide +kernel) (by decide +kernel) (fun _ _ _ h => h) (Or.inl ⟨by rfl, ?_⟩) (by assumption) ?_
    rotate_left 1
    · (intro w' hSw; go_simp; try with_reducible rfl)
    try simp only [Act.put, List.setIfInBounds_toArray, List.set_cons_zero, List.set_cons_succ]
    refine wpAnyH_take (i := 3) (oi := ⟨some 31, _, _, _, _, _⟩) (v := ?_) rfl (by kernel_rfl) (by decide +kernel) (by decide +kernel) (fun _ _ _ h => h) (Or.inl ⟨by rfl, ?_⟩) (by assumption) ?_
    rotate_left 1
    · (intro w' hSw; go_simp; try with_reducible rfl)
    try simp only [Act.put, List.setIfInBounds_toArray, List.set_cons_zero, List.set_cons_succ]
    refine wpAnyH_take (i := 4) (oi := ⟨some 32, _, _, _, _, _⟩) (v := ?_) rfl (by kernel_rfl) (by decide +kernel) (by decide +kernel) (fun _ _ _ h => h) (Or.inl ⟨by rfl, ?_⟩) (by assumption) ?_
    rotate_left 1
    · (intro w' hSw; go_simp; try with_reducible rfl)
    try simp only [Act.put, List.setIfInBounds_toArray, List.set_cons_zero, List.set_cons_succ]
    refine wpAnyH_take (i := 5) (oi := ⟨some 33, _, _, _, _, _⟩) (v := ?_) rfl (by kernel_rfl) (by decide +kernel) (by decide +kernel) (fun _ _ _ h => h) (Or.inl ⟨by rfl, ?_⟩) (by assumption) ?_
    rotate_left 1
    · (intro w' hSw; go_simp; try with_reducible rfl)
    try simp only [Act.put, List.setIfInBounds_toArray, List.set_cons_zero, List.set_cons_succ]
    refine wpAnyH_take (i := 6) (oi := ⟨some 34, _, _, _, _, _⟩) (v := ?_) rfl (by kernel_rfl) (by decide +kernel) (by decide +kernel) (fun _ _ _ h => h) (Or.inl ⟨by rfl, ?_⟩) (by assumption) ?_
    rotate_left 1
    · (intro w' hSw; go_simp; try with_reducible rfl)
    try simp only [Act.put, List.setIfInBounds_toArray, List.set_cons_zero, List.set_cons_succ]
    refine wpAnyH_take (i := 7) (oi := ⟨some 35, _, _, _, _, _⟩) (v := ?_) rfl (by kernel_rfl) (by decide +kernel) (by decide +kernel) (fun _ _ _ h => h) (Or.inl ⟨by rfl, ?_⟩) (by assumption) ?_
    rotate_left 1
    · (intro w' hSw; go_simp; try with_reducible rfl)
    try simp only [Act.put, List.setIfInBounds_toArray, List.set_cons_zero, List.set_cons_succ]
    refine wpAnyH_take (i := 8) (oi := ⟨some 36, _, _, _, _, _⟩) (v := ?_) rfl (by kernel_rfl) (by decide +kernel) (by decide +kernel) (fun _ _ _ h => h) (Or.inl ⟨by rfl, ?_⟩) (by assumption) ?_
    rotate_left 1
    · (intro w' hSw; have hcv := conv_BS hSw; clear hSw; go_simp; try with_reducible rfl)
    try simp only [Act.put, List.setIfInBounds_toArray, List.set_cons_zero, List.set_cons_succ]
    clear hHeld
    refine wpAnyH_ready (rs := [9]) (by decide +kernel) (by simp) ?_
    refine AllReadyH.cons rfl (fun K hK => ?_) AllReadyH.nil
    have hln := lit_abc w5.drew
    go_simp
    clear hln
    have hal := (Below.refl w5.heap.size w5).drew.alloc (Nat.le_refl _) (.cells #[.int .u8 97, .int .u8 98, .int .u8 99] 5)
    have hxl := heap_alloc_new w5.drew (.cells #[.int .u8 97, .int .u8 98, .int .u8 99] 5)
    refine hK.out _ _ (HSB.out _ hal) (fun hHeld => ?_)
    clear hK K hHeld
    try simp only [Act.put, List.setIfInBounds_toArray, List.set_cons_zero, List.set_cons_succ]
    refine (show ∀ w6 : World, w6 = w5.drew.alloc (.cells #[.int .u8 97, .int .u8 98, .int .u8 99] 5) → _ from ?_) _ rfl
    intro w6 ew
    rw [← ew] at hal hxl
    clear ew
    refine wpAnyH_ready (rs := [10]) (by decide +kernel) (by simp) ?_
    refine AllReadyH.cons rfl (fun K hK => ?_) AllReadyH.nil
    obtain ⟨w7, hcv, hgv, hsv, hov, hbv⟩ := conv_at w6 w5.heap.size #[.int .u8 97, .int .u8 98, .int .u8 99] 3 3 hxl
    go_simp
    refine hK.out _ _ (HSB.out _ (hbv _ _ (Nat.le_refl _) hal)) (fun hHeld => ?_)
    clear hK K hHeld
    try simp only [Act.put, List.setIfInBounds_toArray, List.set_cons_zero, List.set_cons_succ]
    have HB7 := Lib.hid (hbv _ _ (Nat.le_refl _) hal)
    have HL7 := Lib.hid (bs_abc hgv)
    clear hcv hgv hsv hov hbv hal hxl
    refine wpAnyH_ready (rs := [11]) (by decide +kernel) (by simp) ?_
    refine AllReadyH.cons rfl (fun K hK => ?_) AllReadyH.nil
    rw [if_pos (by kernel_rfl)]
    go_simp
    go_at_call 22
    refine (HBK.out _ (HB5.out.trans (HB7.out.mono HB5.out.size)) _ HL7.out).mono ?_
    rintro e w8 ⟨rfl, hA, hst⟩
    have HB8 := Lib.hid (HB7.out.trans (hst.mono HB7.out.size))
    have HV8 := Lib.hid (BS.of_arr0 (n := 512) (cap := 512) hA HLL.out)
    clear hA hst HB7 HL7
    go_wp2_with fail
    refine hK.out _ _ (HSB.out _ HB8.out) (fun hHeld => ?_)
    clear hK K hHeld
    try simp only [Act.put, List.setIfInBounds_toArray, List.set_cons_zero, List.set_cons_succ]
    refine wpAnyH_ready (rs := [12]) (by decide +kernel) (by simp) ?_
    refine AllReadyH.cons rfl (fun K hK => ?_) AllReadyH.nil
    have hcv := conv_BS HV8.out
    go_simp
    clear hcv
    refine hK.out _ _ (HSB.out _ HB8.out) (fun hHeld => ?_)
    clear hK K
    try simp only [Act.put, List.setIfInBounds_toArray, List.set_cons_zero, List.set_cons_succ]
    refine wpAnyH_take (i := 13) (oi := ⟨some 41, _, _, _, _, _⟩) (v := ?_) rfl (by kernel_rfl) (by decide +kernel) (by decide +kernel) (fun _ _ _ h => h) (Or.inl ⟨by rfl, ?_⟩) (by assumption) ?_
    rotate_left 1
    · (intro w' hSw; go_simp; try with_reducible rfl)
    try simp only [Act.put, List.setIfInBounds_toArray, List.set_cons_zero, List.set_cons_succ]
    refine wpAnyH_take (i := 14) (oi := ⟨some 42, _, _, _, _, _⟩) (v := ?_) rfl (by kernel_rfl) (by decide +kernel) (by decide +kernel) (fun _ _ _ h => h) (Or.inl ⟨by rfl, ?_⟩) (by assumption) ?_
    rotate_left 1
    · (intro w' hSw; go_simp; try with_reducible rfl)
    try simp only [Act.put, List.setIfInBounds_toArray, List.set_cons_zero, List.set_cons_succ]
    refine wpAnyH_take (i := 15) (oi := ⟨some 43, _, _, _, _, _⟩) (v := ?_) rfl (by kernel_rfl) (by decide +kernel) (by decide +kernel) (fun _ _ _ h => h) (Or.inl ⟨by rfl, ?_⟩) (by assumption) ?_
    rotate_left 1
    · (intro w' hSw; go_simp; try with_reducible rfl)
    try simp only [Act.put, List.setIfInBounds_toArray, List.set_cons_zero, List.set_cons_succ]
    refine wpAnyH_take (i := 16) (oi := ⟨some 44, _, _, _, _, _⟩) (v := ?_) rfl (by kernel_rfl) (by decide +kernel) (by decide +kernel) (fun _ _ _ h => h) (Or.inl ⟨by rfl, ?_⟩) (by assumption) ?_
    rotate_left 1
    · (intro w' hSw; go_simp; try with_reducible rfl)
    try simp only [Act.put, List.setIfInBounds_toArray, List.set_cons_zero, List.set_cons_succ]
    refine wpAnyH_take (i := 17) (oi := ⟨some 45, _, _, _, _, _⟩) (v := ?_) rfl (by kernel_rfl) (by decide +kernel) (by decide +kernel) (fun _ _ _ h => h) (Or.inl ⟨by rfl, ?_⟩) (by assumption) ?_
    rotate_left 1
    · (intro w' hSw; go_simp; try with_reducible rfl)
    try simp only [Act.put, List.setIfInBounds_toArray, List.set_cons_zero, List.set_cons_succ]
    refine wpAnyH_take (i := 18) (oi := ⟨some 46, _, _, _, _, _⟩) (v := ?_) rfl (by kernel_rfl) (by decide +kernel) (by decide +kernel) (fun _ _ _ h => h) (Or.inl ⟨by rfl, ?_⟩) (by assumption) ?_
    rotate_left 1
    · (intro w' hSw; go_simp; try with_reducible rfl)
    try simp only [Act.put, List.setIfInBounds_toArray, List.set_cons_zero, List.set_cons_succ]
    refine wpAnyH_take (i := 19) (oi := ⟨some 47, _, _, _, _, _⟩) (v := ?_) rfl (by kernel_rfl) (by decide +kernel) (by decide +kernel) (fun _ _ _ h => h) (Or.inl ⟨by rfl, ?_⟩) (by assumption) ?_
    rotate_left 1
    · (intro w' hSw; go_simp; try with_reducible rfl)
    try simp only [Act.put, List.setIfInBounds_toArray, List.set_cons_zero, List.set_cons_succ]
    clear hHeld
    refine wpAnyH_done (by decide +kernel) ?_ _
    refine NoPanic.normal ?_
    have HB9 := Lib.hid (HB5.out.trans (HB8.out.mono HB5.out.size))
    have HC9 := Lib.hid ((HB8.out.block c (lt_of_block HC5.out)).trans HC5.out)
    have HX9 := Lib.hid ((HB8.out.block X (lt_of_block HX5.out)).trans HX5.out)
    have HQ9 := Lib.hid ((HB8.out.block q (lt_of_block HQ5.out)).trans HQ5.out)
    have HCE := Lib.hid (And.intro HSD.out.cg HSD.out.ne)
    have HXC := Lib.hid (show X ≠ c from Nat.ne_of_lt (Nat.lt_of_lt_of_le (lt_of_block HA3.out) HSD.out.cg))
    have hce := ArrY.cell (show ArrY w8 c 5 S from HC9.out) (k := 100) (by rw [HSL.out]; decide)
    have hfr := ArrY.free (show ArrY w8 c 5 S from HC9.out) 100
    have hxx := yv_xor (S.getD 100 0) 1
    rw [show yv (1 : BitVec 8) = 1 by decide] at hxx
    have HD9 := Lib.hid (show ArrY (w8.setCell ⟨c, 100, none⟩ (.int .u8 (yv (S.getD 100 0 ^^^ 1)))) c 5 D by rw [← HTS.out]; exact ArrY.set (show ArrY w8 c 5 S from HC9.out) 100 _)
    have HX10 := Lib.hid (show (w8.setCell ⟨c, 100, none⟩ (.int .u8 (yv (S.getD 100 0 ^^^ 1)))).heap[X]? = _ from (heap_setCell_other _ _ _ _ HXC.out).trans HX9.out)
    have HQ10 := Lib.hid (show (w8.setCell ⟨c, 100, none⟩ (.int .u8 (yv (S.getD 100 0 ^^^ 1)))).heap[q]? = _ from (heap_setCell_other _ _ _ _ (Ne.symm HCE.out.2)).trans HQ9.out)
    have HB10 := Lib.hid (HB9.out.setCell (p := ⟨c, 100, none⟩) HCE.out.1 (.int .u8 (yv (S.getD 100 0 ^^^ 1))))
    clear HB5 HC5 HX5 HQ5 HBT HSB HB8 HV8 HBK HB9 HC9 HX9 HQ9 HO1 HTS HSD HA3 HSL
    generalize S.getD 100 0 = y0 at *
    go_upto_region 7 with fail
    try clear hce hfr hxx
    generalize World.setCell _ _ _ = w10 at *
    go_wp2_with (first
      | (with_reducible refine wpList_load_row (o := ⟨some 54, _, _, _, _, _⟩) rfl 28 _ rfl X rfl 28 (yvs KL) (0, 0) _ HX10.out Tryd.underlying28 rfl SE0.out ?_)
      | (with_reducible refine wpList_load_row (o := ⟨some 55, _, _, _, _, _⟩) rfl 41 _ rfl q rfl 41 PR (0, 0) _ HQ10.out Tryd.underlying41 rfl SZ.out ?_))
    refine (HOP.out w10 D c HB10.out HD9.out HTL.out).mono ?_
    rw [HO2.out]
    rintro e w11 ⟨x11, y11, z11, rfl, _, hb11⟩
    have HB11 := Lib.hid (HB3.out.trans ((HB10.out.trans (hb11.mono HB10.out.size)).mono HB3.out.size))
    have hat := ptr_at (show w11.heap[q]? = some (.cells (ptrRow PT).toArray 41 (0, 0)) by rw [HPR.out]; exact (hb11.block q (lt_of_block HQ10.out)).trans HQ10.out)
    have hc1 := hat.1
    have hc2 := hat.2.1
    rw [HPP.out.1] at hc1
    rw [HPP.out.2.1] at hc2
    clear hat hb11 HB10 HD9 HX10 HQ10
    go_wp2_with fail
    go_ret
    exact ⟨rfl, HB11.out⟩
end Go.Proofs.YtfgdddejpdjllaaDoor
