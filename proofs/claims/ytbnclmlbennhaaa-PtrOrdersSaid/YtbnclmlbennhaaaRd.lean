/-
  codec's Reader in memory.
-/
import Derived.Test.YtbnclmlbennhaaaWr2
namespace Go.Proofs.Ytbnclmlbennhaaa
set_option maxRecDepth 4000
open Go.RowKit

set_option maxHeartbeats 1600000 in
theorem pnext_old (R lb cb : Nat) (ab : Option Addr) (l : List Int) (n : Int) (w0 w : World) (h0' : RR w0 75 R ab lb cb l) (hb : Below w0.heap.size w0 w) (hn : n ≤ 9223372036854775807) :
    Calls Try.prog 48 #[.pointer (some ⟨R, 0, none⟩), .int .i64 n] w fun e w' => (∃ v, e = .returned (.tuple #[v, .int .i64 (rawA n l).2.1]) ∧ BS w' v (rawA n l).1) ∧ (∃ ab' lb' cb', ∀ W : World, (∀ k, k < w0.heap.size → k ≠ R → W.heap[k]? = w0.heap[k]?) → W.heap[R]? = w'.heap[R]? → RR W 75 R ab' lb' cb' (rawA n l).2.2) ∧ Only R w w' := by
  have h := h0'.below hb
  have H := Lib.hid h
  have H0 := Lib.hid h0'
  have c0 := h.at
  have hl := h.len
  have hbig := h.big
  have hcap := h.cap
  by_cases h0 : n < 0
  · rw [show rawA n l = ([], 2, l) by unfold rawA; rw [if_pos h0]]
    clear h h0' hb hl hbig hcap
    go_enter Try.func48, Try.ntmps48
    go_wp2_with fail
    go_ret2
    exact ⟨⟨_, rfl, bs_nil _⟩, ⟨_, _, _, fun W q1 q2 => ⟨q2.trans H.out.cell, H0.out.bytes.old H0.out.cell q1, H.out.len, H.out.cap, H.out.big⟩⟩, Only.refl _ _⟩
  · obtain ⟨m, rfl⟩ : ∃ m : Nat, n = (m : Int) := ⟨n.toNat, by omega⟩
    have m0 : (0 : Int) ≤ (m : Int) := by omega
    have lI : (lb : Int) ≤ 140737488351232 := by omega
    by_cases h1 : lb < m
    · rw [show rawA (m : Int) l = ([], 3, l) by unfold rawA; rw [if_neg (by omega), if_pos (by omega)]]
      have h1b : decide (lb < m) = true := by simp [h1]
      have h1c : (lb : Int) < (m : Int) := by omega
      clear h h0' hb hl hbig hcap h0 h1
      go_enter Try.func48, Try.ntmps48
      go_wp2_with fail
      go_ret2
      exact ⟨⟨_, rfl, bs_nil _⟩, ⟨_, _, _, fun W q1 q2 => ⟨q2.trans H.out.cell, H0.out.bytes.old H0.out.cell q1, H.out.len, H.out.cap, H.out.big⟩⟩, Only.refl _ _⟩
    · rw [show rawA (m : Int) l = (l.take m, 0, l.drop m) by unfold rawA; rw [if_neg (by omega), if_neg (by omega)]; rfl]
      have h1b : decide (lb < m) = false := by simp; omega
      obtain ⟨a1, _, _, e1, B1⟩ := slice_cut w0 ab lb cb 0 m l h0'.bytes hl (Nat.zero_le _) (by omega) hcap
      obtain ⟨a2, _, e2, _, B2⟩ := slice_cut w0 ab lb cb m lb l h0'.bytes hl (by omega) (Nat.le_refl _) hcap
      have e1 := e1 rfl
      have e2 := e2 rfl
      simp only [Nat.sub_zero] at e1 B1
      have f0 := frozen_of_row w R 0 _ _ h.cell
      have hO : Only R w (w.setCell ⟨R, 0, none⟩ (.slice a2 (lb - m) (cb - m))) := (Only.refl _ _).setCell _ _
      have HO := Lib.hid hO
      have HB1 := Lib.hid (show BS (w.setCell ⟨R, 0, none⟩ (.slice a2 (lb - m) (cb - m))) (.slice a1 m cb) (l.take m) from by have q := (B1.kept hb).only h.cell hO; simpa using q)
      have HRR := Lib.hid (show ∀ W : World, (∀ k, k < w0.heap.size → k ≠ R → W.heap[k]? = w0.heap[k]?) → W.heap[R]? = (w.setCell ⟨R, 0, none⟩ (.slice a2 (lb - m) (cb - m))).heap[R]? → RR W 75 R a2 (lb - m) (cb - m) (l.drop m) from fun W q1 q2 =>
        ⟨q2.trans (heap_setCell_same _ _ _ _ _ _ h.cell), by have q := B2.old H0.out.cell q1; rw [List.take_of_length_le (by rw [List.length_drop]; omega)] at q; exact q, by rw [List.length_drop]; omega, by omega, by omega⟩)
      clear h h0' hb hl hbig hcap h0 h1 B1 B2 hO
      go_enter Try.func48, Try.ntmps48
      go_wp2_with fail
      go_ret2
      exact ⟨⟨_, rfl, HB1.out⟩, ⟨_, _, _, HRR.out⟩, HO.out⟩
theorem pnext_any (R lb cb : Nat) (ab : Option Addr) (l : List Int) (n : Int) (w : World) (h : RR w 75 R ab lb cb l) (hn : n ≤ 9223372036854775807) :
    Calls Try.prog 48 #[.pointer (some ⟨R, 0, none⟩), .int .i64 n] w fun e w' => (∃ v, e = .returned (.tuple #[v, .int .i64 (rawA n l).2.1]) ∧ BS w' v (rawA n l).1) ∧ (∃ ab' lb' cb', RR w' 75 R ab' lb' cb' (rawA n l).2.2) ∧ Only R w w' := by
  refine (pnext_old R lb cb ab l n w w h (Below.refl _ _) hn).mono ?_
  rintro e w' ⟨hv, ⟨a, b, c, hr⟩, hO⟩
  exact ⟨hv, ⟨a, b, c, hr w' (fun k _ hk => hO.rest k hk) rfl⟩, hO⟩
set_option maxRecDepth 100000 in
set_option maxHeartbeats 3200000 in
theorem phash_short (R lb cb : Nat) (ab : Option Addr) (l : List Int) (w : World) (h : RR w 75 R ab lb cb l) (hsh : l.length < 32) :
    Calls Try.prog 37 #[.pointer (some ⟨R, 0, none⟩)] w fun e w' => e = .returned (.tuple #[.agg (i8s (List.replicate 32 0)), .int .i64 3]) ∧ (∃ ab' lb' cb', RR w' 75 R ab' lb' cb' (l)) ∧ Chg R w w' := by
  have hz := zero_hash7
  obtain ⟨Z, hZ⟩ : ∃ Z, i8s (List.replicate 32 0) = Z := ⟨_, rfl⟩
  have HZ := Lib.hid hZ
  rw [hZ] at hz
  have hA1 := (Below.refl w.heap.size w).alloc (Nat.le_refl _) (.cells Z 25)
  have hA2 := hA1.alloc hA1.size (.cells Z 25)
  have hs1 : (w.alloc (.cells Z 25)).heap.size = w.heap.size + 1 := by simp
  have hs2 : ((w.alloc (.cells Z 25)).alloc (.cells Z 25)).heap.size = w.heap.size + 2 := by simp
  have e2 : ((w.alloc (.cells Z 25)).alloc (.cells Z 25)).heap[w.heap.size + 1]? = some (.cells Z 25 (0, 0)) := by
    have q := heap_alloc_new (w.alloc (.cells Z 25)) (.cells Z 25)
    rwa [hs1] at q
  have e1 : ((w.alloc (.cells Z 25)).alloc (.cells Z 25)).heap[w.heap.size]? = some (.cells Z 25 (0, 0)) :=
    (((Below.refl _ (w.alloc (.cells Z 25))).alloc (Nat.le_refl _) _).block w.heap.size (by omega)).trans (heap_alloc_new w _)
  have HW := Lib.hid h
  have HA2 := Lib.hid hA2
  have HRl := Lib.hid (show R < w.heap.size from (Array.getElem?_eq_some_iff.1 h.cell).1)
  clear h hA1 hA2 hs1 hZ
  go_enter Try.func37, Try.ntmps37
  go_upto_region 2 with fail
  generalize (w.alloc (.cells Z 25)).alloc (.cells Z 25) = w2 at *
  have HR := Lib.hid (pnext_old R lb cb ab l 32 w w2 HW.out HA2.out (by omega))
  have HE1 := Lib.hid e1
  have HE2 := Lib.hid e2
  rw [rawA_hash] at HR
  have HSZ := Lib.hid hs2
  clear e1 e2 hs2 hz
  rw [if_pos hsh] at HR
  clear hsh
  go_wp2_with fail
  refine HR.out.mono ?_
  rintro e w3 ⟨⟨v, rfl, hv⟩, hr, hO⟩
  obtain ⟨av, cv, rfl⟩ : ∃ a c, v = .slice a 0 c := by
    obtain ⟨a', cap', h1, _⟩ := hv
    exact ⟨a', cap', h1⟩
  have HRR := Lib.hid hr
  have HO := Lib.hid hO
  have H31 := Lib.hid (show w3.heap[w.heap.size]? = some (.cells Z 25 (0, 0)) from (hO.rest _ (by have := HRl.out; omega)).trans HE1.out)
  have H32 := Lib.hid (show w3.heap[w.heap.size + 1]? = some (.cells Z 25 (0, 0)) from (hO.rest _ (by have := HRl.out; omega)).trans HE2.out)
  have hsl := slice_hash7 (w.heap.size + 1)
  have hcp : ∀ W : World, (Builtin.copy_ #[28, 28] 3 #[.slice (some ⟨w.heap.size + 1, 0, none⟩) 32 32, .slice av 0 cv]).run Try.prog W = .ok (.int .i64 0) W := fun W => run_copy_none W 28 28 3 5 _ _ 32 32 0 cv Try.underlying28 yone rfl
  clear hv hr hO HR HE1 HE2
  have SQ := Lib.hid (show (Try.prog.info? 25).map (·.size) = some Z.size by rw [← HZ.out]; exact size_hash7 _ (by simp))
  have WO := Lib.hid (show Z.all (·.oneCell') = true by rw [← HZ.out]; exact i8s_one _)
  have HP3 := Lib.hid (show w3.heap.size = w.heap.size + 2 by rw [HO.out.size]; exact HSZ.out)
  go_wp2_with (first
    | (with_reducible refine wpList_load_row (o := ⟨some 15, _, _, _, _, _⟩) rfl 25 _ rfl (w.heap.size + 1) rfl 25 Z (0, 0) _ H32.out Try.underlying25 rfl SQ.out ?_)
    | (with_reducible refine wpList_store_row (o := ⟨none, .store _ (.tmp 2) _, _, _, _, _⟩) rfl 25 _ _ rfl w.heap.size Z rfl rfl 25 Z H31.out SQ.out rfl WO.out ?_))
  have hC5 : Below w.heap.size w3 (w3.setRow w.heap.size Z) := ybelow_row (Below.refl _ _) (Nat.le_refl _) _
  refine bodyPost_ret (v := .tuple #[.agg Z, .int .i64 3]) (results_cell_two Try.results37 _ _ w.heap.size 25 Z (0, 0) _ rfl (setRow_heap _ w.heap.size _ Z _ _ H31.out) Try.underlying25 rfl SQ.out _ (by simp)) rfl ⟨by rw [HZ.out], ?_, ?_⟩
  · obtain ⟨x, y, z, hr⟩ := HRR.out
    refine ⟨x, y, z, hr _ (fun k hk hne => ?_) ?_⟩
    · exact (hC5.block k hk).trans ((HO.out.rest k hne).trans (HA2.out.block k hk))
    · exact hC5.block R HRl.out
  · have hb0 := HO.out.bel 0 (Nat.zero_le _)
    exact ⟨hC5.os.trans (hb0.os.trans HA2.out.os), hC5.tape.trans (hb0.tape.trans HA2.out.tape), hC5.output.trans (hb0.output.trans HA2.out.output), Nat.le_trans HA2.out.size (Nat.le_trans (Nat.le_of_eq HO.out.size.symm) hC5.size),
      fun k hk hne => (hC5.block k hk).trans ((HO.out.rest k hne).trans (HA2.out.block k hk))⟩
set_option maxRecDepth 100000 in
set_option maxHeartbeats 3200000 in
theorem phash_ok (R lb cb : Nat) (ab : Option Addr) (l : List Int) (w : World) (h : RR w 75 R ab lb cb l) (hsh : 32 ≤ l.length) :
    Calls Try.prog 37 #[.pointer (some ⟨R, 0, none⟩)] w fun e w' => e = .returned (.tuple #[.agg (i8s (l.take 32)), .int .i64 0]) ∧ (∃ ab' lb' cb', RR w' 75 R ab' lb' cb' (l.drop 32)) ∧ Chg R w w' := by
  have HQL := Lib.hid (show (l.take 32).length = 32 by rw [List.length_take]; omega)
  have HLL := Lib.hid hsh
  obtain ⟨Q, hQ⟩ : ∃ Q, l.take 32 = Q := ⟨_, rfl⟩
  rw [hQ] at HQL ⊢
  have HQQ := Lib.hid hQ
  clear hQ hsh
  have hz := zero_hash7
  obtain ⟨Z, hZ⟩ : ∃ Z, i8s (List.replicate 32 0) = Z := ⟨_, rfl⟩
  have HZ := Lib.hid hZ
  rw [hZ] at hz
  have hA1 := (Below.refl w.heap.size w).alloc (Nat.le_refl _) (.cells Z 25)
  have hA2 := hA1.alloc hA1.size (.cells Z 25)
  have hs1 : (w.alloc (.cells Z 25)).heap.size = w.heap.size + 1 := by simp
  have hs2 : ((w.alloc (.cells Z 25)).alloc (.cells Z 25)).heap.size = w.heap.size + 2 := by simp
  have e2 : ((w.alloc (.cells Z 25)).alloc (.cells Z 25)).heap[w.heap.size + 1]? = some (.cells Z 25 (0, 0)) := by
    have q := heap_alloc_new (w.alloc (.cells Z 25)) (.cells Z 25)
    rwa [hs1] at q
  have e1 : ((w.alloc (.cells Z 25)).alloc (.cells Z 25)).heap[w.heap.size]? = some (.cells Z 25 (0, 0)) :=
    (((Below.refl _ (w.alloc (.cells Z 25))).alloc (Nat.le_refl _) _).block w.heap.size (by omega)).trans (heap_alloc_new w _)
  have HW := Lib.hid h
  have HA2 := Lib.hid hA2
  have HRl := Lib.hid (show R < w.heap.size from (Array.getElem?_eq_some_iff.1 h.cell).1)
  clear h hA1 hA2 hs1 hZ
  go_enter Try.func37, Try.ntmps37
  go_upto_region 2 with fail
  generalize (w.alloc (.cells Z 25)).alloc (.cells Z 25) = w2 at *
  have HR := Lib.hid (pnext_old R lb cb ab l 32 w w2 HW.out HA2.out (by omega))
  have HE1 := Lib.hid e1
  have HE2 := Lib.hid e2
  rw [rawA_hash, if_neg (by have := HLL.out; omega), HQQ.out] at HR
  have HSZ := Lib.hid hs2
  clear e1 e2 hs2 hz
  go_wp2_with fail
  refine HR.out.mono ?_
  rintro e w3 ⟨⟨v, rfl, hv⟩, hr, hO⟩
  obtain ⟨av, cv, rfl⟩ : ∃ a c, v = .slice a 32 c := by
    obtain ⟨a', cap', h1, _⟩ := hv
    exact ⟨a', cap', by rw [h1, HQL.out]⟩
  obtain ⟨b, off, rfl, hnn, hsrc⟩ := bs_cells hv (by rw [HQL.out]; decide)
  have h31 : w3.heap[w.heap.size]? = some (.cells Z 25 (0, 0)) := (hO.rest _ (by have := HRl.out; omega)).trans HE1.out
  have h32 : w3.heap[w.heap.size + 1]? = some (.cells Z.toList.toArray 25 (0, 0)) := by
    rw [Array.toArray_toList]
    exact (hO.rest _ (by have := HRl.out; omega)).trans HE2.out
  have HZS := Lib.hid (show Z.size = 32 by rw [← HZ.out, i8s_size]; simp)
  have hsl := slice_hash7 (w.heap.size + 1)
  have HCP := Lib.hid (show (Q.map (Value.int .u8)).length = Nat.min 32 32 ∧ 0 + (Q.map (Value.int .u8)).length ≤ Z.toList.length ∧ ∀ v ∈ Q.map (Value.int .u8), v.oneCell' = true from
    ⟨by rw [List.length_map, HQL.out]; rfl, by rw [List.length_map, HQL.out, Array.length_toList, HZS.out]; decide, fun v hv => by obtain ⟨x, _, rfl⟩ := List.mem_map.1 hv; rfl⟩)
  have HSRC := Lib.hid (show ∀ j v, (Q.map (Value.int .u8))[j]? = some v → w3.cell? ((⟨b, off, none⟩ : Addr).add j) = some v from fun j v hv => by rw [Addr.add_mid]; exact hsrc j v hv)
  have H32 := Lib.hid h32
  have HEQ := Lib.hid (show (List.take 0 Z.toList ++ (Q.map (Value.int .u8) ++ List.drop (0 + (Q.map (Value.int .u8)).length) Z.toList)).toArray = i8s Q by
    rw [List.drop_eq_nil_of_le (by rw [List.length_map, HQL.out, Array.length_toList, HZS.out]; decide)]; simp [i8s])
  have HRR := Lib.hid hr
  have HO := Lib.hid hO
  have H31 := Lib.hid h31
  have HP3 := Lib.hid (show w3.heap.size = w.heap.size + 2 by rw [hO.size]; exact HSZ.out)
  clear h31 h32 hsrc hv hr hO HR HE1 HE2 hnn
  go_upto_region 4 with (first
    | (refine wpList_copy_y (o := ⟨some 14, _, _, _, _, _⟩) rfl (.tmp 12) (.tmp 13) 28 28 (by rfl) 5 Try.underlying28 yone (w.heap.size + 1) 0 32 32 ⟨b, off, none⟩ 32 cv (by rfl) (by rfl) Z.toList 25 H32.out (Q.map (Value.int .u8)) HCP.out.1 HSRC.out HCP.out.2.1 HCP.out.2.2 ?_))
  rw [HEQ.out]
  generalize hW4 : World.setRow w3 _ _ = w4
  have SQ := Lib.hid (size_hash7 Q HQL.out)
  have EZ := Lib.hid (show Z.size = (i8s Q).size by rw [HZS.out, i8s_size, HQL.out])
  have H42 := Lib.hid (show w4.heap[w.heap.size + 1]? = some (.cells (i8s Q) 25 (0, 0)) by rw [← hW4]; exact setRow_heap _ _ _ _ _ _ H32.out)
  have H41 := Lib.hid (show w4.heap[w.heap.size]? = some (.cells Z 25 (0, 0)) by rw [← hW4]; exact (setRow_other _ _ _ _ (by omega)).trans H31.out)
  have HC4 := Lib.hid (show Below w.heap.size w3 w4 by rw [← hW4]; exact ybelow_row (Below.refl _ _) (by omega) _)
  clear hW4 H31 H32 HSRC HCP HEQ hsl
  go_wp2_with (first
    | (with_reducible refine wpList_load_row (o := ⟨some 15, _, _, _, _, _⟩) rfl 25 _ rfl (w.heap.size + 1) rfl 25 (i8s Q) (0, 0) _ H42.out Try.underlying25 rfl SQ.out ?_)
    | (with_reducible refine wpList_store_row (o := ⟨none, .store _ (.tmp 2) _, _, _, _, _⟩) rfl 25 _ _ rfl w.heap.size (i8s Q) rfl rfl 25 Z H41.out SQ.out EZ.out (i8s_one _) ?_))
  have hC5 : Below w.heap.size w3 (w4.setRow w.heap.size (i8s Q)) := ybelow_row HC4.out (Nat.le_refl _) _
  refine bodyPost_ret (v := .tuple #[.agg (i8s Q), .int .i64 0]) (results_cell_two Try.results37 _ _ w.heap.size 25 (i8s Q) (0, 0) _ rfl (setRow_heap _ w.heap.size _ (i8s Q) _ _ H41.out) Try.underlying25 rfl SQ.out _ (by simp)) rfl ⟨rfl, ?_, ?_⟩
  · obtain ⟨x, y, z, hr⟩ := HRR.out
    refine ⟨x, y, z, hr _ (fun k hk hne => ?_) ?_⟩
    · exact (hC5.block k hk).trans ((HO.out.rest k hne).trans (HA2.out.block k hk))
    · exact hC5.block R HRl.out
  · have hb0 := HO.out.bel 0 (Nat.zero_le _)
    exact ⟨hC5.os.trans (hb0.os.trans HA2.out.os), hC5.tape.trans (hb0.tape.trans HA2.out.tape), hC5.output.trans (hb0.output.trans HA2.out.output), Nat.le_trans HA2.out.size (Nat.le_trans (Nat.le_of_eq HO.out.size.symm) hC5.size),
      fun k hk hne => (hC5.block k hk).trans ((HO.out.rest k hne).trans (HA2.out.block k hk))⟩
theorem phash_any (R lb cb : Nat) (ab : Option Addr) (l : List Int) (w : World) (h : RR w 75 R ab lb cb l) :
    Calls Try.prog 37 #[.pointer (some ⟨R, 0, none⟩)] w fun e w' => e = .returned (.tuple #[.agg (i8s (hashA l).1), .int .i64 (hashA l).2.1]) ∧ (∃ ab' lb' cb', RR w' 75 R ab' lb' cb' (hashA l).2.2) ∧ Chg R w w' := by
  by_cases hs : l.length < 32
  · rw [show hashA l = (List.replicate 32 0, 3, l) by unfold hashA; rw [if_pos hs]]
    exact phash_short R lb cb ab l w h hs
  · rw [show hashA l = (l.take 32, 0, l.drop 32) by unfold hashA; rw [if_neg hs]]
    exact phash_ok R lb cb ab l w h (by omega)
set_option maxRecDepth 100000 in
set_option maxHeartbeats 1600000 in
theorem pleft_any (R lb cb : Nat) (ab : Option Addr) (l : List Int) (w : World) (h : RR w 75 R ab lb cb l) :
    Calls Try.prog 21 #[.pointer (some ⟨R, 0, none⟩)] w fun e w' => e = .returned (.int .i64 (l.length : Int)) ∧ w' = w := by
  have c0 := h.at
  have HL := Lib.hid h.len
  have lI : (lb : Int) ≤ 140737488351232 := by have := h.big; omega
  clear h
  go_enter Try.func21, Try.ntmps21
  go_wp2_with fail
  go_ret
  exact ⟨by rw [HL.out]; rfl, rfl⟩
set_option maxRecDepth 100000 in
set_option maxHeartbeats 1600000 in
theorem pread7_any (v : Value) (l : List Int) (w : World) (h : BS w v l) (h63 : l.length ≤ 140737488351232) :
    Calls Try.prog 12 #[v] w fun e w' => ∃ R ab cb, e = .returned (.pointer (some ⟨R, 0, none⟩)) ∧ RR w' 75 R ab l.length cb l ∧ w.heap.size ≤ R ∧ Below w.heap.size w w' ∧ (∀ g, (Value.slice ab l.length cb).ownBlock = some g → w.heap.size ≤ g) := by
  have HY := Lib.hid h.byt
  have HC := Lib.hid (clone_any _ l w h h63)
  have H63 := Lib.hid h63
  clear h h63
  go_enter Try.func12, Try.ntmps12
  go_wp2_with fail
  refine HC.out.mono ?_
  rintro e w1 ⟨v1, rfl, ho, hb⟩
  obtain ⟨a1, c1, rfl, hcap, hbs⟩ := own_bs ho rfl HY.out
  have HB := Lib.hid hb
  have HGB := Lib.hid (fun g hg => (ho.lt g hg).1)
  have hb2 := (Below.refl w1.heap.size w1).alloc (Nat.le_refl _) (.cells #[.slice a1 l.length c1] 75)
  have HR := Lib.hid (show RR (w1.alloc (.cells #[.slice a1 l.length c1] 75)) 75 w1.heap.size a1 l.length c1 l from ⟨heap_alloc_new w1 _, hbs.kept hb2, rfl, hcap, H63.out⟩)
  have HB2 := Lib.hid (hb.trans (hb2.mono hb.size))
  clear ho hb hb2 hbs hcap HC
  go_wp2_with fail
  go_ret
  exact ⟨_, _, _, rfl, HR.out, HB.out.size, HB2.out, HGB.out⟩
set_option maxRecDepth 100000 in
set_option maxHeartbeats 1600000 in
theorem pnum7_any (R lb cb : Nat) (ab : Option Addr) (l : List Int) (n : Int) (w : World) (h : RR w 75 R ab lb cb l) (hn : n ≤ 9223372036854775807) :
    Calls Try.prog 36 #[.pointer (some ⟨R, 0, none⟩), .int .i64 n] w fun e w' => e = .returned (.tuple #[.int .u64 (numA n l).1, .int .i64 (numA n l).2.1]) ∧ (∃ ab' lb' cb', RR w' 75 R ab' lb' cb' (numA n l).2.2) ∧ Only R w w' := by
  have H := Lib.hid h
  by_cases h1 : 8 < n
  · rw [show numA n l = (0, 2, l) by unfold numA; rw [if_pos (.inr h1)]]
    clear h
    go_enter Try.func36, Try.ntmps36
    go_wp2_with fail
    go_ret2
    exact ⟨rfl, ⟨_, _, _, H.out⟩, Only.refl _ _⟩
  · have HR := Lib.hid (pnext_any R lb cb ab l n w h hn)
    have hs := rawA_short n l (by omega)
    have h11 : n ≤ 8 := by omega
    have hE : ∃ er, (rawA n l).2.1 = er ∧ (er ≠ 0 → (rawA n l).2.1 = er ∧ numA n l = (0, er, (rawA n l).2.2)) ∧ (er = 0 → numA n l = (num (rawA n l).1, 0, (rawA n l).2.2)) := by
      refine ⟨_, rfl, fun hne => ⟨rfl, ?_⟩, fun he => ?_⟩
      · by_cases h0 : n < 0
        · unfold numA rawA; rw [if_pos (.inl h0), if_pos h0]
        · unfold numA
          rw [if_neg (by omega)]
          unfold rawA at hne ⊢
          rw [if_neg h0] at hne ⊢
          split
          · rfl
          · rename_i hc; rw [if_neg hc] at hne; exact absurd rfl hne
      · by_cases h0 : n < 0
        · unfold rawA at he; rw [if_pos h0] at he; simp at he
        · unfold numA
          rw [if_neg (by omega), he]
    obtain ⟨er, her, hA, hB⟩ := hE
    have HS := Lib.hid hs
    generalize rawA n l = Q at *
    obtain ⟨q1, q2, q3⟩ := Q
    dsimp only at her
    subst her
    by_cases h0 : q2 = 0
    · subst h0
      rw [hB rfl]
      clear h h1 hs hA hB
      go_enter Try.func36, Try.ntmps36
      go_wp2_with fail
      refine HR.out.mono ?_
      rintro e w1 ⟨⟨v, rfl, hv⟩, hr, hO⟩
      have HN := Lib.hid (get_ok w1 v q1 hv HS.out)
      have HRR := Lib.hid hr
      have HO := Lib.hid hO
      clear hv hr hO HR
      go_wp2_with fail
      refine HN.out.mono ?_
      rintro e w2 ⟨rfl, rfl⟩
      go_wp2_with fail
      go_ret2
      exact ⟨rfl, HRR.out, HO.out⟩
    · rw [(hA h0).2]
      have hnb : (q2 != 0) = true := by simp [h0]
      clear h h1 hs hA hB
      go_enter Try.func36, Try.ntmps36
      go_wp2_with fail
      refine HR.out.mono ?_
      rintro e w1 ⟨⟨v, rfl, hv⟩, hr, hO⟩
      have HRR := Lib.hid hr
      have HO := Lib.hid hO
      clear hv hr hO HR
      go_wp2_with fail
      go_ret2
      exact ⟨rfl, HRR.out, HO.out⟩
theorem zero_reader (W : World) : (zeroValue 75).run Try.prog W = .ok (.agg #[.slice none 0 0]) W := by kernel_rfl
theorem size_reader (v : Value) : (Try.prog.info? 75).map (·.size) = some (#[v] : Array Value).size := by rw [show (Try.prog.info? 75).map (·.size) = some 1 by kernel_rfl]; rfl
theorem numA_one (l : List Int) : numA 1 l = if l = [] then (0, 3, l) else (l.getD 0 0, 0, l.drop 1) := by
  unfold numA
  rw [if_neg (by omega)]
  unfold rawA
  rw [if_neg (by omega)]
  cases l with
  | nil => rfl
  | cons a t => rw [if_neg (by simp; omega), if_neg (by simp)]; simp [num]
end Go.Proofs.Ytbnclmlbennhaaa
