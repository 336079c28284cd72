/-
  Readers whose bytes lie in blocks that were there ahead of something: Num and Hash, of the program and of the document's answer. (Written by tools/XOld.make.py.)
-/
import Derived.Test.YtocdjaenhllemaaDoorCod0
namespace Go.Proofs.YtocdjaenhllemaaDoor
set_option maxRecDepth 4000
open Go.RowKit

set_option maxRecDepth 100000 in
set_option maxHeartbeats 3200000 in
theorem pnum_old (R lb cb : Nat) (ab : Option Addr) (l : List Int) (n : Int) (w0 w : World) (h0' : RR w0 110 R ab lb cb l) (hb0' : Below w0.heap.size w0 w) (hn : n ≤ 9223372036854775807) :
    Calls Tryd.prog 68 #[.pointer (some ⟨R, 0, none⟩), .int .i64 n] w fun e w' => e = .returned (.tuple #[.int .u64 (numA n l).1, .int .i64 (numA n l).2.1]) ∧ (∃ ab' lb' cb', ∀ W : World, (∀ k, k < w0.heap.size → k ≠ R → W.heap[k]? = w0.heap[k]?) → W.heap[R]? = w'.heap[R]? → RR W 110 R ab' lb' cb' (numA n l).2.2) ∧ Only R w w' := by
  have h := h0'.below hb0'
  have H0' := Lib.hid h0'
  have HB0' := Lib.hid hb0'
  clear h0' hb0'
  have H := Lib.hid h
  by_cases h1 : 8 < n
  · rw [show numA n l = (0, 2, l) by unfold numA; rw [if_pos (.inr h1)]]
    clear h
    go_enter Tryd.func68, Tryd.ntmps68
    go_wp2_with fail
    go_ret2
    exact ⟨rfl, ⟨_, _, _, fun W q1 q2 => ⟨q2.trans H.out.cell, H0'.out.bytes.old H0'.out.cell q1, H.out.len, H.out.cap, H.out.big⟩⟩, Only.refl _ _⟩
  · have HR := Lib.hid (pnext_old R lb cb ab l n w0 w H0'.out HB0'.out hn)
    have hs := rawA_short n l (by omega)
    have h11 : n ≤ 8 := by omega
    have hE : ∃ er, (rawA n l).2.1 = er ∧ (er ≠ 0 → (rawA n l).2.1 = er ∧ numA n l = (0, er, (rawA n l).2.2)) ∧ (er = 0 → numA n l = (num (rawA n l).1, 0, (rawA n l).2.2)) := by
      refine ⟨_, rfl, fun hne => ⟨rfl, ?_⟩, fun he => ?_⟩
      · by_cases h0 : n < 0
        · unfold numA rawA; rw [if_pos (.inl h0), if_pos h0]
        · unfold numA
          rw [if_neg (by omega)]
          unfold rawA at hne ⊢
          rw [if_neg h0] at hne ⊢
          split
          · rfl
          · rename_i hc; rw [if_neg hc] at hne; exact absurd rfl hne
      · by_cases h0 : n < 0
        · unfold rawA at he; rw [if_pos h0] at he; simp at he
        · unfold numA
          rw [if_neg (by omega), he]
    obtain ⟨er, her, hA, hB⟩ := hE
    have HS := Lib.hid hs
    generalize rawA n l = Q at *
    obtain ⟨q1, q2, q3⟩ := Q
    dsimp only at her
    subst her
    by_cases h0 : q2 = 0
    · subst h0
      rw [hB rfl]
      clear h h1 hs hA hB
      go_enter Tryd.func68, Tryd.ntmps68
      go_wp2_with fail
      refine HR.out.mono ?_
      rintro e w1 ⟨⟨v, rfl, hv⟩, hr, hO⟩
      have HN := Lib.hid (get_ok w1 v q1 hv HS.out)
      have HRR := Lib.hid hr
      have HO := Lib.hid hO
      clear hv hr hO HR
      go_wp2_with fail
      refine HN.out.mono ?_
      rintro e w2 ⟨rfl, rfl⟩
      go_wp2_with fail
      go_ret2
      exact ⟨rfl, HRR.out, HO.out⟩
    · rw [(hA h0).2]
      have hnb : (q2 != 0) = true := by simp [h0]
      clear h h1 hs hA hB
      go_enter Tryd.func68, Tryd.ntmps68
      go_wp2_with fail
      refine HR.out.mono ?_
      rintro e w1 ⟨⟨v, rfl, hv⟩, hr, hO⟩
      have HRR := Lib.hid hr
      have HO := Lib.hid hO
      clear hv hr hO HR
      go_wp2_with fail
      go_ret2
      exact ⟨rfl, HRR.out, HO.out⟩
set_option maxRecDepth 100000 in
set_option maxHeartbeats 3200000 in
theorem phash_short_old (R lb cb : Nat) (ab : Option Addr) (l : List Int) (w0 w : World) (h0' : RR w0 110 R ab lb cb l) (hb0' : Below w0.heap.size w0 w) (hsh : l.length < 32) :
    Calls Tryd.prog 69 #[.pointer (some ⟨R, 0, none⟩)] w fun e w' => e = .returned (.tuple #[.agg (i8s (List.replicate 32 0)), .int .i64 3]) ∧ (∃ ab' lb' cb', ∀ W : World, (∀ k, k < w0.heap.size → k ≠ R → W.heap[k]? = w0.heap[k]?) → W.heap[R]? = w'.heap[R]? → RR W 110 R ab' lb' cb' (l)) ∧ Chg R w w' := by
  have h := h0'.below hb0'
  have H0' := Lib.hid h0'
  have HB0' := Lib.hid hb0'
  clear h0' hb0'
  have hz := zero_hash7
  obtain ⟨Z, hZ⟩ : ∃ Z, i8s (List.replicate 32 0) = Z := ⟨_, rfl⟩
  have HZ := Lib.hid hZ
  rw [hZ] at hz
  have hA1 := (Below.refl w.heap.size w).alloc (Nat.le_refl _) (.cells Z 26)
  have hA2 := hA1.alloc hA1.size (.cells Z 26)
  have hs1 : (w.alloc (.cells Z 26)).heap.size = w.heap.size + 1 := by simp
  have hs2 : ((w.alloc (.cells Z 26)).alloc (.cells Z 26)).heap.size = w.heap.size + 2 := by simp
  have e2 : ((w.alloc (.cells Z 26)).alloc (.cells Z 26)).heap[w.heap.size + 1]? = some (.cells Z 26 (0, 0)) := by
    have q := heap_alloc_new (w.alloc (.cells Z 26)) (.cells Z 26)
    rwa [hs1] at q
  have e1 : ((w.alloc (.cells Z 26)).alloc (.cells Z 26)).heap[w.heap.size]? = some (.cells Z 26 (0, 0)) :=
    (((Below.refl _ (w.alloc (.cells Z 26))).alloc (Nat.le_refl _) _).block w.heap.size (by omega)).trans (heap_alloc_new w _)
  have HW := Lib.hid h
  have HA2 := Lib.hid hA2
  have HRl := Lib.hid (show R < w.heap.size from (Array.getElem?_eq_some_iff.1 h.cell).1)
  clear h hA1 hA2 hs1 hZ
  go_enter Tryd.func69, Tryd.ntmps69
  go_upto_region 2 with fail
  generalize (w.alloc (.cells Z 26)).alloc (.cells Z 26) = w2 at *
  have HR := Lib.hid (pnext_old R lb cb ab l 32 w0 w2 H0'.out (HB0'.out.trans (HA2.out.mono HB0'.out.size)) (by omega))
  have HE1 := Lib.hid e1
  have HE2 := Lib.hid e2
  rw [rawA_hash] at HR
  have HSZ := Lib.hid hs2
  clear e1 e2 hs2 hz
  rw [if_pos hsh] at HR
  clear hsh
  go_wp2_with fail
  refine HR.out.mono ?_
  rintro e w3 ⟨⟨v, rfl, hv⟩, hr, hO⟩
  obtain ⟨av, cv, rfl⟩ : ∃ a c, v = .slice a 0 c := by
    obtain ⟨a', cap', h1, _⟩ := hv
    exact ⟨a', cap', h1⟩
  have HRR := Lib.hid hr
  have HO := Lib.hid hO
  have H31 := Lib.hid (show w3.heap[w.heap.size]? = some (.cells Z 26 (0, 0)) from (hO.rest _ (by have := HRl.out; omega)).trans HE1.out)
  have H32 := Lib.hid (show w3.heap[w.heap.size + 1]? = some (.cells Z 26 (0, 0)) from (hO.rest _ (by have := HRl.out; omega)).trans HE2.out)
  have hsl := slice_hash7 (w.heap.size + 1)
  have hcp : ∀ W : World, (Builtin.copy_ #[22, 22] 3 #[.slice (some ⟨w.heap.size + 1, 0, none⟩) 32 32, .slice av 0 cv]).run Tryd.prog W = .ok (.int .i64 0) W := fun W => run_copy_none W 22 22 3 5 _ _ 32 32 0 cv Tryd.underlying22 yone rfl
  clear hv hr hO HR HE1 HE2
  have SQ := Lib.hid (show (Tryd.prog.info? 26).map (·.size) = some Z.size by rw [← HZ.out]; exact size_hash7 _ (by simp))
  have WO := Lib.hid (show Z.all (·.oneCell') = true by rw [← HZ.out]; exact i8s_one _)
  have HP3 := Lib.hid (show w3.heap.size = w.heap.size + 2 by rw [HO.out.size]; exact HSZ.out)
  go_wp2_with (first
    | (with_reducible refine wpList_load_row (o := ⟨some 15, _, _, _, _, _⟩) rfl 26 _ rfl (w.heap.size + 1) rfl 26 Z (0, 0) _ H32.out Tryd.underlying26 rfl SQ.out ?_)
    | (with_reducible refine wpList_store_row (o := ⟨none, .store _ (.tmp 2) _, _, _, _, _⟩) rfl 26 _ _ rfl w.heap.size Z rfl rfl 26 Z H31.out SQ.out rfl WO.out ?_))
  have hC5 : Below w.heap.size w3 (w3.setRow w.heap.size Z) := ybelow_row (Below.refl _ _) (Nat.le_refl _) _
  refine bodyPost_ret (v := .tuple #[.agg Z, .int .i64 3]) (results_cell_two Tryd.results69 _ _ w.heap.size 26 Z (0, 0) _ rfl (setRow_heap _ w.heap.size _ Z _ _ H31.out) Tryd.underlying26 rfl SQ.out _ (by simp)) rfl ⟨by rw [HZ.out], ?_, ?_⟩
  · obtain ⟨x, y, z, hr⟩ := HRR.out
    exact ⟨x, y, z, fun W q1 q2 => hr W q1 (q2.trans (hC5.block R HRl.out))⟩
  · have hb0 := HO.out.bel 0 (Nat.zero_le _)
    exact ⟨hC5.os.trans (hb0.os.trans HA2.out.os), hC5.tape.trans (hb0.tape.trans HA2.out.tape), hC5.output.trans (hb0.output.trans HA2.out.output), Nat.le_trans HA2.out.size (Nat.le_trans (Nat.le_of_eq HO.out.size.symm) hC5.size),
      fun k hk hne => (hC5.block k hk).trans ((HO.out.rest k hne).trans (HA2.out.block k hk))⟩
set_option maxRecDepth 100000 in
set_option maxHeartbeats 3200000 in
theorem phash_ok_old (R lb cb : Nat) (ab : Option Addr) (l : List Int) (w0 w : World) (h0' : RR w0 110 R ab lb cb l) (hb0' : Below w0.heap.size w0 w) (hsh : 32 ≤ l.length) :
    Calls Tryd.prog 69 #[.pointer (some ⟨R, 0, none⟩)] w fun e w' => e = .returned (.tuple #[.agg (i8s (l.take 32)), .int .i64 0]) ∧ (∃ ab' lb' cb', ∀ W : World, (∀ k, k < w0.heap.size → k ≠ R → W.heap[k]? = w0.heap[k]?) → W.heap[R]? = w'.heap[R]? → RR W 110 R ab' lb' cb' (l.drop 32)) ∧ Chg R w w' := by
  have h := h0'.below hb0'
  have H0' := Lib.hid h0'
  have HB0' := Lib.hid hb0'
  clear h0' hb0'
  have HQL := Lib.hid (show (l.take 32).length = 32 by rw [List.length_take]; omega)
  have HLL := Lib.hid hsh
  obtain ⟨Q, hQ⟩ : ∃ Q, l.take 32 = Q := ⟨_, rfl⟩
  rw [hQ] at HQL ⊢
  have HQQ := Lib.hid hQ
  clear hQ hsh
  have hz := zero_hash7
  obtain ⟨Z, hZ⟩ : ∃ Z, i8s (List.replicate 32 0) = Z := ⟨_, rfl⟩
  have HZ := Lib.hid hZ
  rw [hZ] at hz
  have hA1 := (Below.refl w.heap.size w).alloc (Nat.le_refl _) (.cells Z 26)
  have hA2 := hA1.alloc hA1.size (.cells Z 26)
  have hs1 : (w.alloc (.cells Z 26)).heap.size = w.heap.size + 1 := by simp
  have hs2 : ((w.alloc (.cells Z 26)).alloc (.cells Z 26)).heap.size = w.heap.size + 2 := by simp
  have e2 : ((w.alloc (.cells Z 26)).alloc (.cells Z 26)).heap[w.heap.size + 1]? = some (.cells Z 26 (0, 0)) := by
    have q := heap_alloc_new (w.alloc (.cells Z 26)) (.cells Z 26)
    rwa [hs1] at q
  have e1 : ((w.alloc (.cells Z 26)).alloc (.cells Z 26)).heap[w.heap.size]? = some (.cells Z 26 (0, 0)) :=
    (((Below.refl _ (w.alloc (.cells Z 26))).alloc (Nat.le_refl _) _).block w.heap.size (by omega)).trans (heap_alloc_new w _)
  have HW := Lib.hid h
  have HA2 := Lib.hid hA2
  have HRl := Lib.hid (show R < w.heap.size from (Array.getElem?_eq_some_iff.1 h.cell).1)
  clear h hA1 hA2 hs1 hZ
  go_enter Tryd.func69, Tryd.ntmps69
  go_upto_region 2 with fail
  generalize (w.alloc (.cells Z 26)).alloc (.cells Z 26) = w2 at *
  have HR := Lib.hid (pnext_old R lb cb ab l 32 w0 w2 H0'.out (HB0'.out.trans (HA2.out.mono HB0'.out.size)) (by omega))
  have HE1 := Lib.hid e1
  have HE2 := Lib.hid e2
  rw [rawA_hash, if_neg (by have := HLL.out; omega), HQQ.out] at HR
  have HSZ := Lib.hid hs2
  clear e1 e2 hs2 hz
  go_wp2_with fail
  refine HR.out.mono ?_
  rintro e w3 ⟨⟨v, rfl, hv⟩, hr, hO⟩
  obtain ⟨av, cv, rfl⟩ : ∃ a c, v = .slice a 32 c := by
    obtain ⟨a', cap', h1, _⟩ := hv
    exact ⟨a', cap', by rw [h1, HQL.out]⟩
  obtain ⟨b, off, rfl, hnn, hsrc⟩ := bs_cells hv (by rw [HQL.out]; decide)
  have h31 : w3.heap[w.heap.size]? = some (.cells Z 26 (0, 0)) := (hO.rest _ (by have := HRl.out; omega)).trans HE1.out
  have h32 : w3.heap[w.heap.size + 1]? = some (.cells Z.toList.toArray 26 (0, 0)) := by
    rw [Array.toArray_toList]
    exact (hO.rest _ (by have := HRl.out; omega)).trans HE2.out
  have HZS := Lib.hid (show Z.size = 32 by rw [← HZ.out, i8s_size]; simp)
  have hsl := slice_hash7 (w.heap.size + 1)
  have HCP := Lib.hid (show (Q.map (Value.int .u8)).length = Nat.min 32 32 ∧ 0 + (Q.map (Value.int .u8)).length ≤ Z.toList.length ∧ ∀ v ∈ Q.map (Value.int .u8), v.oneCell' = true from
    ⟨by rw [List.length_map, HQL.out]; rfl, by rw [List.length_map, HQL.out, Array.length_toList, HZS.out]; decide, fun v hv => by obtain ⟨x, _, rfl⟩ := List.mem_map.1 hv; rfl⟩)
  have HSRC := Lib.hid (show ∀ j v, (Q.map (Value.int .u8))[j]? = some v → w3.cell? ((⟨b, off, none⟩ : Addr).add j) = some v from fun j v hv => by rw [Addr.add_mid]; exact hsrc j v hv)
  have H32 := Lib.hid h32
  have HEQ := Lib.hid (show (List.take 0 Z.toList ++ (Q.map (Value.int .u8) ++ List.drop (0 + (Q.map (Value.int .u8)).length) Z.toList)).toArray = i8s Q by
    rw [List.drop_eq_nil_of_le (by rw [List.length_map, HQL.out, Array.length_toList, HZS.out]; decide)]; simp [i8s])
  have HRR := Lib.hid hr
  have HO := Lib.hid hO
  have H31 := Lib.hid h31
  have HP3 := Lib.hid (show w3.heap.size = w.heap.size + 2 by rw [hO.size]; exact HSZ.out)
  clear h31 h32 hsrc hv hr hO HR HE1 HE2 hnn
  go_upto_region 4 with (first
    | (refine wpList_copy_y (o := ⟨some 14, _, _, _, _, _⟩) rfl (.tmp 12) (.tmp 13) 22 22 (by rfl) 5 Tryd.underlying22 yone (w.heap.size + 1) 0 32 32 ⟨b, off, none⟩ 32 cv (by rfl) (by rfl) Z.toList 26 H32.out (Q.map (Value.int .u8)) HCP.out.1 HSRC.out HCP.out.2.1 HCP.out.2.2 ?_))
  rw [HEQ.out]
  generalize hW4 : World.setRow w3 _ _ = w4
  have SQ := Lib.hid (size_hash7 Q HQL.out)
  have EZ := Lib.hid (show Z.size = (i8s Q).size by rw [HZS.out, i8s_size, HQL.out])
  have H42 := Lib.hid (show w4.heap[w.heap.size + 1]? = some (.cells (i8s Q) 26 (0, 0)) by rw [← hW4]; exact setRow_heap _ _ _ _ _ _ H32.out)
  have H41 := Lib.hid (show w4.heap[w.heap.size]? = some (.cells Z 26 (0, 0)) by rw [← hW4]; exact (setRow_other _ _ _ _ (by omega)).trans H31.out)
  have HC4 := Lib.hid (show Below w.heap.size w3 w4 by rw [← hW4]; exact ybelow_row (Below.refl _ _) (by omega) _)
  clear hW4 H31 H32 HSRC HCP HEQ hsl
  go_wp2_with (first
    | (with_reducible refine wpList_load_row (o := ⟨some 15, _, _, _, _, _⟩) rfl 26 _ rfl (w.heap.size + 1) rfl 26 (i8s Q) (0, 0) _ H42.out Tryd.underlying26 rfl SQ.out ?_)
    | (with_reducible refine wpList_store_row (o := ⟨none, .store _ (.tmp 2) _, _, _, _, _⟩) rfl 26 _ _ rfl w.heap.size (i8s Q) rfl rfl 26 Z H41.out SQ.out EZ.out (i8s_one _) ?_))
  have hC5 : Below w.heap.size w3 (w4.setRow w.heap.size (i8s Q)) := ybelow_row HC4.out (Nat.le_refl _) _
  refine bodyPost_ret (v := .tuple #[.agg (i8s Q), .int .i64 0]) (results_cell_two Tryd.results69 _ _ w.heap.size 26 (i8s Q) (0, 0) _ rfl (setRow_heap _ w.heap.size _ (i8s Q) _ _ H41.out) Tryd.underlying26 rfl SQ.out _ (by simp)) rfl ⟨rfl, ?_, ?_⟩
  · obtain ⟨x, y, z, hr⟩ := HRR.out
    exact ⟨x, y, z, fun W q1 q2 => hr W q1 (q2.trans (hC5.block R HRl.out))⟩
  · have hb0 := HO.out.bel 0 (Nat.zero_le _)
    exact ⟨hC5.os.trans (hb0.os.trans HA2.out.os), hC5.tape.trans (hb0.tape.trans HA2.out.tape), hC5.output.trans (hb0.output.trans HA2.out.output), Nat.le_trans HA2.out.size (Nat.le_trans (Nat.le_of_eq HO.out.size.symm) hC5.size),
      fun k hk hne => (hC5.block k hk).trans ((HO.out.rest k hne).trans (HA2.out.block k hk))⟩
set_option maxRecDepth 100000 in
set_option maxHeartbeats 3200000 in
theorem phash_old (R lb cb : Nat) (ab : Option Addr) (l : List Int) (w0 w : World) (h0' : RR w0 110 R ab lb cb l) (hb0' : Below w0.heap.size w0 w) :
    Calls Tryd.prog 69 #[.pointer (some ⟨R, 0, none⟩)] w fun e w' => e = .returned (.tuple #[.agg (i8s (hashA l).1), .int .i64 (hashA l).2.1]) ∧ (∃ ab' lb' cb', ∀ W : World, (∀ k, k < w0.heap.size → k ≠ R → W.heap[k]? = w0.heap[k]?) → W.heap[R]? = w'.heap[R]? → RR W 110 R ab' lb' cb' (hashA l).2.2) ∧ Chg R w w' := by
  have h := h0'.below hb0'
  have H0' := Lib.hid h0'
  have HB0' := Lib.hid hb0'
  clear h0' hb0'
  by_cases hs : l.length < 32
  · rw [show hashA l = (List.replicate 32 0, 3, l) by unfold hashA; rw [if_pos hs]]
    exact phash_short_old R lb cb ab l w0 w H0'.out HB0'.out hs
  · rw [show hashA l = (l.take 32, 0, l.drop 32) by unfold hashA; rw [if_neg hs]]
    exact phash_ok_old R lb cb ab l w0 w H0'.out HB0'.out (by omega)
set_option maxRecDepth 100000 in
set_option maxHeartbeats 3200000 in
theorem rnum_old (R lb cb : Nat) (ab : Option Addr) (l : List Int) (n : Int) (w0 w : World) (h0' : RR w0 63 R ab lb cb l) (hb0' : Below w0.heap.size w0 w) (hn : n ≤ 9223372036854775807) :
    Calls Tryd.prog 31 #[.pointer (some ⟨R, 0, none⟩), .int .i64 n] w fun e w' => e = .returned (.tuple #[.int .u64 (numA n l).1, .int .i64 (numA n l).2.1]) ∧ (∃ ab' lb' cb', ∀ W : World, (∀ k, k < w0.heap.size → k ≠ R → W.heap[k]? = w0.heap[k]?) → W.heap[R]? = w'.heap[R]? → RR W 63 R ab' lb' cb' (numA n l).2.2) ∧ Only R w w' := by
  have h := h0'.below hb0'
  have H0' := Lib.hid h0'
  have HB0' := Lib.hid hb0'
  clear h0' hb0'
  have H := Lib.hid h
  have HR := Lib.hid (rraw_old R lb cb ab l n w0 w H0'.out HB0'.out hn)
  by_cases h0 : n < 0
  · rw [show numA n l = (0, 2, l) by unfold numA; rw [if_pos (.inl h0)]]
    clear h HR
    go_enter Tryd.func31, Tryd.ntmps31
    go_wp2_with fail
    go_ret2
    exact ⟨rfl, ⟨_, _, _, fun W q1 q2 => ⟨q2.trans H.out.cell, H0'.out.bytes.old H0'.out.cell q1, H.out.len, H.out.cap, H.out.big⟩⟩, Only.refl _ _⟩
  · by_cases h1 : 8 < n
    · rw [show numA n l = (0, 2, l) by unfold numA; rw [if_pos (.inr h1)]]
      have h00 : (0 : Int) ≤ n := by omega
      clear h HR h0
      go_enter Tryd.func31, Tryd.ntmps31
      go_wp2_with fail
      go_ret2
      exact ⟨rfl, ⟨_, _, _, fun W q1 q2 => ⟨q2.trans H.out.cell, H0'.out.bytes.old H0'.out.cell q1, H.out.len, H.out.cap, H.out.big⟩⟩, Only.refl _ _⟩
    · rw [show numA n l = (num (rawA n l).1, (rawA n l).2.1, (rawA n l).2.2) by unfold numA; rw [if_neg (by omega)]]
      have hs := rawA_short n l (by omega)
      have h00 : (0 : Int) ≤ n := by omega
      have h11 : n ≤ 8 := by omega
      have HS := Lib.hid hs
      generalize rawA n l = Q at *
      obtain ⟨q1, q2, q3⟩ := Q
      clear h h0 h1 hs
      go_enter Tryd.func31, Tryd.ntmps31
      go_wp2_with fail
      refine HR.out.mono ?_
      rintro e w1 ⟨⟨v, rfl, hv⟩, hr, hO⟩
      have HN := Lib.hid (rnum_any w1 v q1 hv HS.out)
      have HRR := Lib.hid hr
      have HO := Lib.hid hO
      clear hv hr hO HR
      go_wp2_with fail
      refine HN.out.mono ?_
      rintro e w2 ⟨rfl, rfl⟩
      go_wp2_with fail
      go_ret2
      exact ⟨rfl, HRR.out, HO.out⟩
set_option maxRecDepth 100000 in
set_option maxHeartbeats 3200000 in
theorem rhash_short_old (R lb cb : Nat) (ab : Option Addr) (l : List Int) (w0 w : World) (h0' : RR w0 63 R ab lb cb l) (hb0' : Below w0.heap.size w0 w) (hsh : l.length < 32) :
    Calls Tryd.prog 50 #[.pointer (some ⟨R, 0, none⟩)] w fun e w' => e = .returned (.tuple #[.agg (i8s (List.replicate 32 0)), .int .i64 3]) ∧ (∃ ab' lb' cb', ∀ W : World, (∀ k, k < w0.heap.size → k ≠ R → W.heap[k]? = w0.heap[k]?) → W.heap[R]? = w'.heap[R]? → RR W 63 R ab' lb' cb' (l)) ∧ Chg R w w' := by
  have h := h0'.below hb0'
  have H0' := Lib.hid h0'
  have HB0' := Lib.hid hb0'
  clear h0' hb0'
  have hz := zero_hash7
  obtain ⟨Z, hZ⟩ : ∃ Z, i8s (List.replicate 32 0) = Z := ⟨_, rfl⟩
  have HZ := Lib.hid hZ
  rw [hZ] at hz
  have hA1 := (Below.refl w.heap.size w).alloc (Nat.le_refl _) (.cells Z 26)
  have hA2 := hA1.alloc hA1.size (.cells Z 26)
  have hs1 : (w.alloc (.cells Z 26)).heap.size = w.heap.size + 1 := by simp
  have hs2 : ((w.alloc (.cells Z 26)).alloc (.cells Z 26)).heap.size = w.heap.size + 2 := by simp
  have e2 : ((w.alloc (.cells Z 26)).alloc (.cells Z 26)).heap[w.heap.size + 1]? = some (.cells Z 26 (0, 0)) := by
    have q := heap_alloc_new (w.alloc (.cells Z 26)) (.cells Z 26)
    rwa [hs1] at q
  have e1 : ((w.alloc (.cells Z 26)).alloc (.cells Z 26)).heap[w.heap.size]? = some (.cells Z 26 (0, 0)) :=
    (((Below.refl _ (w.alloc (.cells Z 26))).alloc (Nat.le_refl _) _).block w.heap.size (by omega)).trans (heap_alloc_new w _)
  have HW := Lib.hid h
  have HA2 := Lib.hid hA2
  have HRl := Lib.hid (show R < w.heap.size from (Array.getElem?_eq_some_iff.1 h.cell).1)
  clear h hA1 hA2 hs1 hZ
  go_enter Tryd.func50, Tryd.ntmps50
  go_upto_region 2 with fail
  generalize (w.alloc (.cells Z 26)).alloc (.cells Z 26) = w2 at *
  have HR := Lib.hid (rraw_old R lb cb ab l 32 w0 w2 H0'.out (HB0'.out.trans (HA2.out.mono HB0'.out.size)) (by omega))
  have HE1 := Lib.hid e1
  have HE2 := Lib.hid e2
  rw [rawA_hash] at HR
  have HSZ := Lib.hid hs2
  clear e1 e2 hs2 hz
  rw [if_pos hsh] at HR
  clear hsh
  go_wp2_with fail
  refine HR.out.mono ?_
  rintro e w3 ⟨⟨v, rfl, hv⟩, hr, hO⟩
  obtain ⟨av, cv, rfl⟩ : ∃ a c, v = .slice a 0 c := by
    obtain ⟨a', cap', h1, _⟩ := hv
    exact ⟨a', cap', h1⟩
  have HRR := Lib.hid hr
  have HO := Lib.hid hO
  have H31 := Lib.hid (show w3.heap[w.heap.size]? = some (.cells Z 26 (0, 0)) from (hO.rest _ (by have := HRl.out; omega)).trans HE1.out)
  have H32 := Lib.hid (show w3.heap[w.heap.size + 1]? = some (.cells Z 26 (0, 0)) from (hO.rest _ (by have := HRl.out; omega)).trans HE2.out)
  have hsl := slice_hash7 (w.heap.size + 1)
  have hcp : ∀ W : World, (Builtin.copy_ #[22, 22] 3 #[.slice (some ⟨w.heap.size + 1, 0, none⟩) 32 32, .slice av 0 cv]).run Tryd.prog W = .ok (.int .i64 0) W := fun W => run_copy_none W 22 22 3 5 _ _ 32 32 0 cv Tryd.underlying22 yone rfl
  clear hv hr hO HR HE1 HE2
  have SQ := Lib.hid (show (Tryd.prog.info? 26).map (·.size) = some Z.size by rw [← HZ.out]; exact size_hash7 _ (by simp))
  have WO := Lib.hid (show Z.all (·.oneCell') = true by rw [← HZ.out]; exact i8s_one _)
  have HP3 := Lib.hid (show w3.heap.size = w.heap.size + 2 by rw [HO.out.size]; exact HSZ.out)
  go_wp2_with (first
    | (with_reducible refine wpList_load_row (o := ⟨some 15, _, _, _, _, _⟩) rfl 26 _ rfl (w.heap.size + 1) rfl 26 Z (0, 0) _ H32.out Tryd.underlying26 rfl SQ.out ?_)
    | (with_reducible refine wpList_store_row (o := ⟨none, .store _ (.tmp 2) _, _, _, _, _⟩) rfl 26 _ _ rfl w.heap.size Z rfl rfl 26 Z H31.out SQ.out rfl WO.out ?_))
  have hC5 : Below w.heap.size w3 (w3.setRow w.heap.size Z) := ybelow_row (Below.refl _ _) (Nat.le_refl _) _
  refine bodyPost_ret (v := .tuple #[.agg Z, .int .i64 3]) (results_cell_two Tryd.results50 _ _ w.heap.size 26 Z (0, 0) _ rfl (setRow_heap _ w.heap.size _ Z _ _ H31.out) Tryd.underlying26 rfl SQ.out _ (by simp)) rfl ⟨by rw [HZ.out], ?_, ?_⟩
  · obtain ⟨x, y, z, hr⟩ := HRR.out
    exact ⟨x, y, z, fun W q1 q2 => hr W q1 (q2.trans (hC5.block R HRl.out))⟩
  · have hb0 := HO.out.bel 0 (Nat.zero_le _)
    exact ⟨hC5.os.trans (hb0.os.trans HA2.out.os), hC5.tape.trans (hb0.tape.trans HA2.out.tape), hC5.output.trans (hb0.output.trans HA2.out.output), Nat.le_trans HA2.out.size (Nat.le_trans (Nat.le_of_eq HO.out.size.symm) hC5.size),
      fun k hk hne => (hC5.block k hk).trans ((HO.out.rest k hne).trans (HA2.out.block k hk))⟩
set_option maxRecDepth 100000 in
set_option maxHeartbeats 3200000 in
theorem rhash_ok_old (R lb cb : Nat) (ab : Option Addr) (l : List Int) (w0 w : World) (h0' : RR w0 63 R ab lb cb l) (hb0' : Below w0.heap.size w0 w) (hsh : 32 ≤ l.length) :
    Calls Tryd.prog 50 #[.pointer (some ⟨R, 0, none⟩)] w fun e w' => e = .returned (.tuple #[.agg (i8s (l.take 32)), .int .i64 0]) ∧ (∃ ab' lb' cb', ∀ W : World, (∀ k, k < w0.heap.size → k ≠ R → W.heap[k]? = w0.heap[k]?) → W.heap[R]? = w'.heap[R]? → RR W 63 R ab' lb' cb' (l.drop 32)) ∧ Chg R w w' := by
  have h := h0'.below hb0'
  have H0' := Lib.hid h0'
  have HB0' := Lib.hid hb0'
  clear h0' hb0'
  have HQL := Lib.hid (show (l.take 32).length = 32 by rw [List.length_take]; omega)
  have HLL := Lib.hid hsh
  obtain ⟨Q, hQ⟩ : ∃ Q, l.take 32 = Q := ⟨_, rfl⟩
  rw [hQ] at HQL ⊢
  have HQQ := Lib.hid hQ
  clear hQ hsh
  have hz := zero_hash7
  obtain ⟨Z, hZ⟩ : ∃ Z, i8s (List.replicate 32 0) = Z := ⟨_, rfl⟩
  have HZ := Lib.hid hZ
  rw [hZ] at hz
  have hA1 := (Below.refl w.heap.size w).alloc (Nat.le_refl _) (.cells Z 26)
  have hA2 := hA1.alloc hA1.size (.cells Z 26)
  have hs1 : (w.alloc (.cells Z 26)).heap.size = w.heap.size + 1 := by simp
  have hs2 : ((w.alloc (.cells Z 26)).alloc (.cells Z 26)).heap.size = w.heap.size + 2 := by simp
  have e2 : ((w.alloc (.cells Z 26)).alloc (.cells Z 26)).heap[w.heap.size + 1]? = some (.cells Z 26 (0, 0)) := by
    have q := heap_alloc_new (w.alloc (.cells Z 26)) (.cells Z 26)
    rwa [hs1] at q
  have e1 : ((w.alloc (.cells Z 26)).alloc (.cells Z 26)).heap[w.heap.size]? = some (.cells Z 26 (0, 0)) :=
    (((Below.refl _ (w.alloc (.cells Z 26))).alloc (Nat.le_refl _) _).block w.heap.size (by omega)).trans (heap_alloc_new w _)
  have HW := Lib.hid h
  have HA2 := Lib.hid hA2
  have HRl := Lib.hid (show R < w.heap.size from (Array.getElem?_eq_some_iff.1 h.cell).1)
  clear h hA1 hA2 hs1 hZ
  go_enter Tryd.func50, Tryd.ntmps50
  go_upto_region 2 with fail
  generalize (w.alloc (.cells Z 26)).alloc (.cells Z 26) = w2 at *
  have HR := Lib.hid (rraw_old R lb cb ab l 32 w0 w2 H0'.out (HB0'.out.trans (HA2.out.mono HB0'.out.size)) (by omega))
  have HE1 := Lib.hid e1
  have HE2 := Lib.hid e2
  rw [rawA_hash, if_neg (by have := HLL.out; omega), HQQ.out] at HR
  have HSZ := Lib.hid hs2
  clear e1 e2 hs2 hz
  go_wp2_with fail
  refine HR.out.mono ?_
  rintro e w3 ⟨⟨v, rfl, hv⟩, hr, hO⟩
  obtain ⟨av, cv, rfl⟩ : ∃ a c, v = .slice a 32 c := by
    obtain ⟨a', cap', h1, _⟩ := hv
    exact ⟨a', cap', by rw [h1, HQL.out]⟩
  obtain ⟨b, off, rfl, hnn, hsrc⟩ := bs_cells hv (by rw [HQL.out]; decide)
  have h31 : w3.heap[w.heap.size]? = some (.cells Z 26 (0, 0)) := (hO.rest _ (by have := HRl.out; omega)).trans HE1.out
  have h32 : w3.heap[w.heap.size + 1]? = some (.cells Z.toList.toArray 26 (0, 0)) := by
    rw [Array.toArray_toList]
    exact (hO.rest _ (by have := HRl.out; omega)).trans HE2.out
  have HZS := Lib.hid (show Z.size = 32 by rw [← HZ.out, i8s_size]; simp)
  have hsl := slice_hash7 (w.heap.size + 1)
  have HCP := Lib.hid (show (Q.map (Value.int .u8)).length = Nat.min 32 32 ∧ 0 + (Q.map (Value.int .u8)).length ≤ Z.toList.length ∧ ∀ v ∈ Q.map (Value.int .u8), v.oneCell' = true from
    ⟨by rw [List.length_map, HQL.out]; rfl, by rw [List.length_map, HQL.out, Array.length_toList, HZS.out]; decide, fun v hv => by obtain ⟨x, _, rfl⟩ := List.mem_map.1 hv; rfl⟩)
  have HSRC := Lib.hid (show ∀ j v, (Q.map (Value.int .u8))[j]? = some v → w3.cell? ((⟨b, off, none⟩ : Addr).add j) = some v from fun j v hv => by rw [Addr.add_mid]; exact hsrc j v hv)
  have H32 := Lib.hid h32
  have HEQ := Lib.hid (show (List.take 0 Z.toList ++ (Q.map (Value.int .u8) ++ List.drop (0 + (Q.map (Value.int .u8)).length) Z.toList)).toArray = i8s Q by
    rw [List.drop_eq_nil_of_le (by rw [List.length_map, HQL.out, Array.length_toList, HZS.out]; decide)]; simp [i8s])
  have HRR := Lib.hid hr
  have HO := Lib.hid hO
  have H31 := Lib.hid h31
  have HP3 := Lib.hid (show w3.heap.size = w.heap.size + 2 by rw [hO.size]; exact HSZ.out)
  clear h31 h32 hsrc hv hr hO HR HE1 HE2 hnn
  go_upto_region 4 with (first
    | (refine wpList_copy_y (o := ⟨some 14, _, _, _, _, _⟩) rfl (.tmp 12) (.tmp 13) 22 22 (by rfl) 5 Tryd.underlying22 yone (w.heap.size + 1) 0 32 32 ⟨b, off, none⟩ 32 cv (by rfl) (by rfl) Z.toList 26 H32.out (Q.map (Value.int .u8)) HCP.out.1 HSRC.out HCP.out.2.1 HCP.out.2.2 ?_))
  rw [HEQ.out]
  generalize hW4 : World.setRow w3 _ _ = w4
  have SQ := Lib.hid (size_hash7 Q HQL.out)
  have EZ := Lib.hid (show Z.size = (i8s Q).size by rw [HZS.out, i8s_size, HQL.out])
  have H42 := Lib.hid (show w4.heap[w.heap.size + 1]? = some (.cells (i8s Q) 26 (0, 0)) by rw [← hW4]; exact setRow_heap _ _ _ _ _ _ H32.out)
  have H41 := Lib.hid (show w4.heap[w.heap.size]? = some (.cells Z 26 (0, 0)) by rw [← hW4]; exact (setRow_other _ _ _ _ (by omega)).trans H31.out)
  have HC4 := Lib.hid (show Below w.heap.size w3 w4 by rw [← hW4]; exact ybelow_row (Below.refl _ _) (by omega) _)
  clear hW4 H31 H32 HSRC HCP HEQ hsl
  go_wp2_with (first
    | (with_reducible refine wpList_load_row (o := ⟨some 15, _, _, _, _, _⟩) rfl 26 _ rfl (w.heap.size + 1) rfl 26 (i8s Q) (0, 0) _ H42.out Tryd.underlying26 rfl SQ.out ?_)
    | (with_reducible refine wpList_store_row (o := ⟨none, .store _ (.tmp 2) _, _, _, _, _⟩) rfl 26 _ _ rfl w.heap.size (i8s Q) rfl rfl 26 Z H41.out SQ.out EZ.out (i8s_one _) ?_))
  have hC5 : Below w.heap.size w3 (w4.setRow w.heap.size (i8s Q)) := ybelow_row HC4.out (Nat.le_refl _) _
  refine bodyPost_ret (v := .tuple #[.agg (i8s Q), .int .i64 0]) (results_cell_two Tryd.results50 _ _ w.heap.size 26 (i8s Q) (0, 0) _ rfl (setRow_heap _ w.heap.size _ (i8s Q) _ _ H41.out) Tryd.underlying26 rfl SQ.out _ (by simp)) rfl ⟨rfl, ?_, ?_⟩
  · obtain ⟨x, y, z, hr⟩ := HRR.out
    exact ⟨x, y, z, fun W q1 q2 => hr W q1 (q2.trans (hC5.block R HRl.out))⟩
  · have hb0 := HO.out.bel 0 (Nat.zero_le _)
    exact ⟨hC5.os.trans (hb0.os.trans HA2.out.os), hC5.tape.trans (hb0.tape.trans HA2.out.tape), hC5.output.trans (hb0.output.trans HA2.out.output), Nat.le_trans HA2.out.size (Nat.le_trans (Nat.le_of_eq HO.out.size.symm) hC5.size),
      fun k hk hne => (hC5.block k hk).trans ((HO.out.rest k hne).trans (HA2.out.block k hk))⟩
set_option maxRecDepth 100000 in
set_option maxHeartbeats 3200000 in
theorem rhash_old (R lb cb : Nat) (ab : Option Addr) (l : List Int) (w0 w : World) (h0' : RR w0 63 R ab lb cb l) (hb0' : Below w0.heap.size w0 w) :
    Calls Tryd.prog 50 #[.pointer (some ⟨R, 0, none⟩)] w fun e w' => e = .returned (.tuple #[.agg (i8s (hashA l).1), .int .i64 (hashA l).2.1]) ∧ (∃ ab' lb' cb', ∀ W : World, (∀ k, k < w0.heap.size → k ≠ R → W.heap[k]? = w0.heap[k]?) → W.heap[R]? = w'.heap[R]? → RR W 63 R ab' lb' cb' (hashA l).2.2) ∧ Chg R w w' := by
  have h := h0'.below hb0'
  have H0' := Lib.hid h0'
  have HB0' := Lib.hid hb0'
  clear h0' hb0'
  by_cases hs : l.length < 32
  · rw [show hashA l = (List.replicate 32 0, 3, l) by unfold hashA; rw [if_pos hs]]
    exact rhash_short_old R lb cb ab l w0 w H0'.out HB0'.out hs
  · rw [show hashA l = (l.take 32, 0, l.drop 32) by unfold hashA; rw [if_neg hs]]
    exact rhash_ok_old R lb cb ab l w0 w H0'.out HB0'.out (by omega)
/-- The world as it was when it had so many blocks alone (what lies in them now). -/
def trunc (N : Nat) (w : World) : World := { w with heap := w.heap.extract 0 N }
theorem trunc_heap {N k : Nat} (w : World) (h : k < N) : (trunc N w).heap[k]? = w.heap[k]? := by
  unfold trunc
  simp [Array.getElem?_extract]
  omega
theorem trunc_size {N : Nat} {w : World} (h : N ≤ w.heap.size) : (trunc N w).heap.size = N := by
  unfold trunc
  simp
  omega
theorem trunc_below {N : Nat} {w : World} (h : N ≤ w.heap.size) : Below (trunc N w).heap.size (trunc N w) w :=
  ⟨rfl, rfl, rfl, by rw [trunc_size h]; exact h, fun k hk => (trunc_heap w (by rwa [trunc_size h] at hk)).symm⟩
/-- A Reader whose blocks are among the first N. -/
def RT (N : Nat) (w : World) (t R : Nat) (l : List Int) : Prop := N ≤ w.heap.size ∧ ∃ ab lb cb, RR (trunc N w) t R ab lb cb l
theorem RT.rr {N : Nat} {w : World} {t R : Nat} {l : List Int} (h : RT N w t R l) : ∃ ab lb cb, RR w t R ab lb cb l := by
  obtain ⟨hN, ab, lb, cb, h⟩ := h
  exact ⟨ab, lb, cb, h.below (trunc_below hN)⟩
theorem RT.lt {N : Nat} {w : World} {t R : Nat} {l : List Int} (h : RT N w t R l) : R < N := by
  obtain ⟨hN, ab, lb, cb, h⟩ := h
  have := (Array.getElem?_eq_some_iff.1 h.cell).1
  rwa [trunc_size hN] at this
theorem RT.byt {N : Nat} {w : World} {t R : Nat} {l : List Int} (h : RT N w t R l) : Byt l := by
  obtain ⟨hN, ab, lb, cb, h⟩ := h
  exact h.bytes.byt
theorem RT.now {w : World} {t R lb cb : Nat} {ab : Option Addr} {l : List Int} (h : RR w t R ab lb cb l) : RT w.heap.size w t R l := by
  have e : trunc w.heap.size w = w := by unfold trunc; simp
  exact ⟨Nat.le_refl _, ab, lb, cb, by rw [e]; exact h⟩
theorem RT.keep {N : Nat} {w w' : World} {t R : Nat} {l : List Int} (h : RT N w t R l) (hs : N ≤ w'.heap.size) (q : ∀ k, k < N → w'.heap[k]? = w.heap[k]?) : RT N w' t R l := by
  have hR := h.lt
  obtain ⟨hN, ab, lb, cb, h⟩ := h
  have e : ∀ k, k < N → (trunc N w').heap[k]? = (trunc N w).heap[k]? := fun k hk => by rw [trunc_heap _ hk, trunc_heap _ hk, q k hk]
  exact ⟨hs, ab, lb, cb, (e R hR).trans h.cell, h.bytes.old h.cell (fun k hk _ => e k (by rwa [trunc_size hN] at hk)), h.len, h.cap, h.big⟩
theorem rt_back {N : Nat} {w w' : World} {t R : Nat} {l : List Int} (hN : N ≤ w.heap.size) (hs : N ≤ w'.heap.size) (hR : R < N) (q : ∀ k, k < N → k ≠ R → w'.heap[k]? = w.heap[k]?)
    (r : ∃ ab lb cb, ∀ W : World, (∀ k, k < (trunc N w).heap.size → k ≠ R → W.heap[k]? = (trunc N w).heap[k]?) → W.heap[R]? = w'.heap[R]? → RR W t R ab lb cb l) : RT N w' t R l := by
  obtain ⟨ab, lb, cb, r⟩ := r
  refine ⟨hs, ab, lb, cb, r _ (fun k hk hne => ?_) (trunc_heap _ hR)⟩
  rw [trunc_size hN] at hk
  rw [trunc_heap _ hk, trunc_heap _ hk, q k hk hne]
theorem pnum_t (N R : Nat) (l : List Int) (n : Int) (w : World) (h : RT N w 110 R l) (hn : n ≤ 9223372036854775807) :
    Calls Tryd.prog 68 #[.pointer (some ⟨R, 0, none⟩), .int .i64 n] w fun e w' => e = .returned (.tuple #[.int .u64 (numA n l).1, .int .i64 (numA n l).2.1]) ∧ RT N w' 110 R (numA n l).2.2 ∧ Only R w w' := by
  have hR := h.lt
  obtain ⟨hN, ab, lb, cb, h⟩ := h
  exact (pnum_old R lb cb ab l n _ w h (trunc_below hN) hn).mono fun e w' ⟨he, hr, hO⟩ => ⟨he, rt_back hN (by rw [hO.size]; exact hN) hR (fun k _ hne => hO.rest k hne) hr, hO⟩
theorem phash_t (N R : Nat) (l : List Int) (w : World) (h : RT N w 110 R l) :
    Calls Tryd.prog 69 #[.pointer (some ⟨R, 0, none⟩)] w fun e w' => e = .returned (.tuple #[.agg (i8s (hashA l).1), .int .i64 (hashA l).2.1]) ∧ RT N w' 110 R (hashA l).2.2 ∧ Chg R w w' := by
  have hR := h.lt
  obtain ⟨hN, ab, lb, cb, h⟩ := h
  exact (phash_old R lb cb ab l _ w h (trunc_below hN)).mono fun e w' ⟨he, hr, hO⟩ => ⟨he, rt_back hN (Nat.le_trans hN hO.size) hR (fun k hk hne => hO.block k (Nat.lt_of_lt_of_le hk hN) hne) hr, hO⟩
theorem rnum_t (N R : Nat) (l : List Int) (n : Int) (w : World) (h : RT N w 63 R l) (hn : n ≤ 9223372036854775807) :
    Calls Tryd.prog 31 #[.pointer (some ⟨R, 0, none⟩), .int .i64 n] w fun e w' => e = .returned (.tuple #[.int .u64 (numA n l).1, .int .i64 (numA n l).2.1]) ∧ RT N w' 63 R (numA n l).2.2 ∧ Only R w w' := by
  have hR := h.lt
  obtain ⟨hN, ab, lb, cb, h⟩ := h
  exact (rnum_old R lb cb ab l n _ w h (trunc_below hN) hn).mono fun e w' ⟨he, hr, hO⟩ => ⟨he, rt_back hN (by rw [hO.size]; exact hN) hR (fun k _ hne => hO.rest k hne) hr, hO⟩
theorem rhash_t (N R : Nat) (l : List Int) (w : World) (h : RT N w 63 R l) :
    Calls Tryd.prog 50 #[.pointer (some ⟨R, 0, none⟩)] w fun e w' => e = .returned (.tuple #[.agg (i8s (hashA l).1), .int .i64 (hashA l).2.1]) ∧ RT N w' 63 R (hashA l).2.2 ∧ Chg R w w' := by
  have hR := h.lt
  obtain ⟨hN, ab, lb, cb, h⟩ := h
  exact (rhash_old R lb cb ab l _ w h (trunc_below hN)).mono fun e w' ⟨he, hr, hO⟩ => ⟨he, rt_back hN (Nat.le_trans hN hO.size) hR (fun k hk hne => hO.block k (Nat.lt_of_lt_of_le hk hN) hne) hr, hO⟩
end Go.Proofs.YtocdjaenhllemaaDoor
