/-
  The reference of layer 7: a reader's Str and Hash.
-/
import Derived.Test.YtbnclmlbennhaaaQRaw
namespace Go.Proofs.Ytbnclmlbennhaaa
set_option maxRecDepth 4000
open Go.RowKit

/-- What Str answers, and what is left. -/
def strA (l : List Int) : ByteArray × Int × List Int := if l = [] ∨ (l.length : Int) < 1 + l.getD 0 0 then (⟨#[]⟩, 3, l) else (strOfNums ((l.drop 1).take (l.getD 0 0).toNat), 0, l.drop (1 + (l.getD 0 0).toNat))
theorem heap_drewN (w : World) (k : Nat) : (w.drewN k).heap = w.heap := by
  induction k generalizing w with
  | zero => rfl
  | succ k ih => exact ih _
theorem only_drewN (R : Nat) (w : World) (k : Nat) : Only R w (w.drewN k) := ⟨by rw [heap_drewN], fun j _ => by rw [heap_drewN], fun B _ => ybelow_drewN (Below.refl B w) k⟩
theorem RR.same {w w' : World} {t R lb cb : Nat} {ab : Option Addr} {l : List Int} (h : RR w t R ab lb cb l) (b : Below w.heap.size w w') : RR w' t R ab lb cb l := h.below b
/-- What Hash answers, and what is left. -/
def hashA (l : List Int) : List Int × Int × List Int := if l.length < 32 then (List.replicate 32 0, 3, l) else (l.take 32, 0, l.drop 32)
theorem rawA_hash (l : List Int) : rawA 32 l = if l.length < 32 then ([], 3, l) else (l.take 32, 0, l.drop 32) := by
  unfold rawA
  rw [if_neg (by omega)]
  by_cases h : l.length < 32
  · rw [if_pos (by omega), if_pos h]
  · rw [if_neg (by omega), if_neg h]; rfl
def i8s (l : List Int) : Array Value := (l.map (Value.int .u8)).toArray
theorem zero_hash7 (W : World) : (zeroValue 25).run Try.prog W = .ok (.agg (i8s (List.replicate 32 0))) W := by kernel_rfl
theorem slice_hash7 (g : Nat) (W : World) : (Instr.sliceAt 25 (.pointer (some ⟨g, 0, none⟩)) none none none).run Try.prog W = .ok (.slice (some ⟨g, 0, none⟩) 32 32) W := by
  obtain ⟨i0, hi0, _⟩ := Option.map_eq_some_iff.1 yone
  simp [Instr.sliceAt, run_underlying Try.underlying25, Instr.sureAddr, Instr.sliceBounds, sizeOf, typeInfo, hi0, Addr.add]
/-- Of what was there block R alone may have changed. -/
structure Chg (R : Nat) (w w' : World) : Prop where
  os : w'.os = w.os
  tape : w'.tape = w.tape
  output : w'.output = w.output
  size : w.heap.size ≤ w'.heap.size
  block : ∀ k, k < w.heap.size → k ≠ R → w'.heap[k]? = w.heap[k]?
theorem Chg.of_only {R : Nat} {w w' : World} (h : Only R w w') : Chg R w w' := ⟨(h.bel 0 (Nat.zero_le _)).os, (h.bel 0 (Nat.zero_le _)).tape, (h.bel 0 (Nat.zero_le _)).output, Nat.le_of_eq h.size.symm, fun k _ hk => h.rest k hk⟩
theorem Chg.of_below {R : Nat} {w w' : World} (h : Below w.heap.size w w') : Chg R w w' := ⟨h.os, h.tape, h.output, h.size, fun k hk _ => h.block k hk⟩
theorem Chg.trans {R : Nat} {a b c : World} (h : Chg R a b) (q : Chg R b c) : Chg R a c := ⟨q.os.trans h.os, q.tape.trans h.tape, q.output.trans h.output, Nat.le_trans h.size q.size, fun k hk hne => (q.block k (Nat.lt_of_lt_of_le hk h.size) hne).trans (h.block k hk hne)⟩
theorem Chg.below {R B : Nat} {w w' : World} (h : Chg R w w') (hR : B ≤ R) (hB : B ≤ w.heap.size) : Below B w w' := ⟨h.os, h.tape, h.output, h.size, fun k hk => h.block k (by omega) (by omega)⟩
theorem i8s_one (l : List Int) : (i8s l).all (·.oneCell') = true := by
  apply all_oneCell_toArray
  intro v hv
  obtain ⟨b, _, rfl⟩ := List.mem_map.1 hv
  rfl
theorem i8s_size (l : List Int) : (i8s l).size = l.length := by simp [i8s]
theorem size_hash7 (l : List Int) (h : l.length = 32) : (Try.prog.info? 25).map (·.size) = some (i8s l).size := by rw [show (Try.prog.info? 25).map (·.size) = some 32 by kernel_rfl, i8s_size, h]
theorem bs_cells {w : World} {a : Option Addr} {n cap : Nat} {l : List Int} (h : BS w (.slice a n cap) l) (hl : 0 < l.length) : ∃ b off, a = some ⟨b, off, none⟩ ∧ n = l.length ∧ ∀ j v, (l.map (Value.int .u8))[j]? = some v → w.cell? ⟨b, off + j, none⟩ = some v := by
  obtain ⟨a', cap', hv, hy, hn, hc⟩ := h
  injection hv with e1 e2 e3
  rcases hc with h0 | ⟨b, off, ha, hc⟩
  · subst h0; simp at hl
  · refine ⟨b, off, e1.trans ha, e2, fun j v hv => ?_⟩
    have hj : j < l.length := by
      have := (List.getElem?_eq_some_iff.1 hv).1
      simpa using this
    rw [hc j hj, ← hv, List.getElem?_map, List.getElem?_eq_getElem hj]
    simp [List.getD, hj]
set_option maxRecDepth 100000 in
set_option maxHeartbeats 3200000 in
theorem rhash_short (R lb cb : Nat) (ab : Option Addr) (l : List Int) (w : World) (h : RR w 39 R ab lb cb l) (hsh : l.length < 32) :
    Calls Try.prog 39 #[.pointer (some ⟨R, 0, none⟩)] w fun e w' => e = .returned (.tuple #[.agg (i8s (List.replicate 32 0)), .int .i64 3]) ∧ (∃ ab' lb' cb', RR w' 39 R ab' lb' cb' (l)) ∧ Chg R w w' := by
  have hz := zero_hash7
  obtain ⟨Z, hZ⟩ : ∃ Z, i8s (List.replicate 32 0) = Z := ⟨_, rfl⟩
  have HZ := Lib.hid hZ
  rw [hZ] at hz
  have hA1 := (Below.refl w.heap.size w).alloc (Nat.le_refl _) (.cells Z 25)
  have hA2 := hA1.alloc hA1.size (.cells Z 25)
  have hs1 : (w.alloc (.cells Z 25)).heap.size = w.heap.size + 1 := by simp
  have hs2 : ((w.alloc (.cells Z 25)).alloc (.cells Z 25)).heap.size = w.heap.size + 2 := by simp
  have e2 : ((w.alloc (.cells Z 25)).alloc (.cells Z 25)).heap[w.heap.size + 1]? = some (.cells Z 25 (0, 0)) := by
    have q := heap_alloc_new (w.alloc (.cells Z 25)) (.cells Z 25)
    rwa [hs1] at q
  have e1 : ((w.alloc (.cells Z 25)).alloc (.cells Z 25)).heap[w.heap.size]? = some (.cells Z 25 (0, 0)) :=
    (((Below.refl _ (w.alloc (.cells Z 25))).alloc (Nat.le_refl _) _).block w.heap.size (by omega)).trans (heap_alloc_new w _)
  have HW := Lib.hid h
  have HA2 := Lib.hid hA2
  have HRl := Lib.hid (show R < w.heap.size from (Array.getElem?_eq_some_iff.1 h.cell).1)
  clear h hA1 hA2 hs1 hZ
  go_enter Try.func39, Try.ntmps39
  go_upto_region 2 with fail
  generalize (w.alloc (.cells Z 25)).alloc (.cells Z 25) = w2 at *
  have HR := Lib.hid (rraw_old R lb cb ab l 32 w w2 HW.out HA2.out (by omega))
  have HE1 := Lib.hid e1
  have HE2 := Lib.hid e2
  rw [rawA_hash] at HR
  have HSZ := Lib.hid hs2
  clear e1 e2 hs2 hz
  rw [if_pos hsh] at HR
  clear hsh
  go_wp2_with fail
  refine HR.out.mono ?_
  rintro e w3 ⟨⟨v, rfl, hv⟩, hr, hO⟩
  obtain ⟨av, cv, rfl⟩ : ∃ a c, v = .slice a 0 c := by
    obtain ⟨a', cap', h1, _⟩ := hv
    exact ⟨a', cap', h1⟩
  have HRR := Lib.hid hr
  have HO := Lib.hid hO
  have H31 := Lib.hid (show w3.heap[w.heap.size]? = some (.cells Z 25 (0, 0)) from (hO.rest _ (by have := HRl.out; omega)).trans HE1.out)
  have H32 := Lib.hid (show w3.heap[w.heap.size + 1]? = some (.cells Z 25 (0, 0)) from (hO.rest _ (by have := HRl.out; omega)).trans HE2.out)
  have hsl := slice_hash7 (w.heap.size + 1)
  have hcp : ∀ W : World, (Builtin.copy_ #[28, 28] 3 #[.slice (some ⟨w.heap.size + 1, 0, none⟩) 32 32, .slice av 0 cv]).run Try.prog W = .ok (.int .i64 0) W := fun W => run_copy_none W 28 28 3 5 _ _ 32 32 0 cv Try.underlying28 yone rfl
  clear hv hr hO HR HE1 HE2
  have SQ := Lib.hid (show (Try.prog.info? 25).map (·.size) = some Z.size by rw [← HZ.out]; exact size_hash7 _ (by simp))
  have WO := Lib.hid (show Z.all (·.oneCell') = true by rw [← HZ.out]; exact i8s_one _)
  have HP3 := Lib.hid (show w3.heap.size = w.heap.size + 2 by rw [HO.out.size]; exact HSZ.out)
  go_wp2_with (first
    | (with_reducible refine wpList_load_row (o := ⟨some 15, _, _, _, _, _⟩) rfl 25 _ rfl (w.heap.size + 1) rfl 25 Z (0, 0) _ H32.out Try.underlying25 rfl SQ.out ?_)
    | (with_reducible refine wpList_store_row (o := ⟨none, .store _ (.tmp 2) _, _, _, _, _⟩) rfl 25 _ _ rfl w.heap.size Z rfl rfl 25 Z H31.out SQ.out rfl WO.out ?_))
  have hC5 : Below w.heap.size w3 (w3.setRow w.heap.size Z) := ybelow_row (Below.refl _ _) (Nat.le_refl _) _
  refine bodyPost_ret (v := .tuple #[.agg Z, .int .i64 3]) (results_cell_two Try.results39 _ _ w.heap.size 25 Z (0, 0) _ rfl (setRow_heap _ w.heap.size _ Z _ _ H31.out) Try.underlying25 rfl SQ.out _ (by simp)) rfl ⟨by rw [HZ.out], ?_, ?_⟩
  · obtain ⟨x, y, z, hr⟩ := HRR.out
    refine ⟨x, y, z, hr _ (fun k hk hne => ?_) ?_⟩
    · exact (hC5.block k hk).trans ((HO.out.rest k hne).trans (HA2.out.block k hk))
    · exact hC5.block R HRl.out
  · have hb0 := HO.out.bel 0 (Nat.zero_le _)
    exact ⟨hC5.os.trans (hb0.os.trans HA2.out.os), hC5.tape.trans (hb0.tape.trans HA2.out.tape), hC5.output.trans (hb0.output.trans HA2.out.output), Nat.le_trans HA2.out.size (Nat.le_trans (Nat.le_of_eq HO.out.size.symm) hC5.size),
      fun k hk hne => (hC5.block k hk).trans ((HO.out.rest k hne).trans (HA2.out.block k hk))⟩
set_option maxRecDepth 100000 in
set_option maxHeartbeats 3200000 in
theorem rhash_ok (R lb cb : Nat) (ab : Option Addr) (l : List Int) (w : World) (h : RR w 39 R ab lb cb l) (hsh : 32 ≤ l.length) :
    Calls Try.prog 39 #[.pointer (some ⟨R, 0, none⟩)] w fun e w' => e = .returned (.tuple #[.agg (i8s (l.take 32)), .int .i64 0]) ∧ (∃ ab' lb' cb', RR w' 39 R ab' lb' cb' (l.drop 32)) ∧ Chg R w w' := by
  have HQL := Lib.hid (show (l.take 32).length = 32 by rw [List.length_take]; omega)
  have HLL := Lib.hid hsh
  obtain ⟨Q, hQ⟩ : ∃ Q, l.take 32 = Q := ⟨_, rfl⟩
  rw [hQ] at HQL ⊢
  have HQQ := Lib.hid hQ
  clear hQ hsh
  have hz := zero_hash7
  obtain ⟨Z, hZ⟩ : ∃ Z, i8s (List.replicate 32 0) = Z := ⟨_, rfl⟩
  have HZ := Lib.hid hZ
  rw [hZ] at hz
  have hA1 := (Below.refl w.heap.size w).alloc (Nat.le_refl _) (.cells Z 25)
  have hA2 := hA1.alloc hA1.size (.cells Z 25)
  have hs1 : (w.alloc (.cells Z 25)).heap.size = w.heap.size + 1 := by simp
  have hs2 : ((w.alloc (.cells Z 25)).alloc (.cells Z 25)).heap.size = w.heap.size + 2 := by simp
  have e2 : ((w.alloc (.cells Z 25)).alloc (.cells Z 25)).heap[w.heap.size + 1]? = some (.cells Z 25 (0, 0)) := by
    have q := heap_alloc_new (w.alloc (.cells Z 25)) (.cells Z 25)
    rwa [hs1] at q
  have e1 : ((w.alloc (.cells Z 25)).alloc (.cells Z 25)).heap[w.heap.size]? = some (.cells Z 25 (0, 0)) :=
    (((Below.refl _ (w.alloc (.cells Z 25))).alloc (Nat.le_refl _) _).block w.heap.size (by omega)).trans (heap_alloc_new w _)
  have HW := Lib.hid h
  have HA2 := Lib.hid hA2
  have HRl := Lib.hid (show R < w.heap.size from (Array.getElem?_eq_some_iff.1 h.cell).1)
  clear h hA1 hA2 hs1 hZ
  go_enter Try.func39, Try.ntmps39
  go_upto_region 2 with fail
  generalize (w.alloc (.cells Z 25)).alloc (.cells Z 25) = w2 at *
  have HR := Lib.hid (rraw_old R lb cb ab l 32 w w2 HW.out HA2.out (by omega))
  have HE1 := Lib.hid e1
  have HE2 := Lib.hid e2
  rw [rawA_hash, if_neg (by have := HLL.out; omega), HQQ.out] at HR
  have HSZ := Lib.hid hs2
  clear e1 e2 hs2 hz
  go_wp2_with fail
  refine HR.out.mono ?_
  rintro e w3 ⟨⟨v, rfl, hv⟩, hr, hO⟩
  obtain ⟨av, cv, rfl⟩ : ∃ a c, v = .slice a 32 c := by
    obtain ⟨a', cap', h1, _⟩ := hv
    exact ⟨a', cap', by rw [h1, HQL.out]⟩
  obtain ⟨b, off, rfl, hnn, hsrc⟩ := bs_cells hv (by rw [HQL.out]; decide)
  have h31 : w3.heap[w.heap.size]? = some (.cells Z 25 (0, 0)) := (hO.rest _ (by have := HRl.out; omega)).trans HE1.out
  have h32 : w3.heap[w.heap.size + 1]? = some (.cells Z.toList.toArray 25 (0, 0)) := by
    rw [Array.toArray_toList]
    exact (hO.rest _ (by have := HRl.out; omega)).trans HE2.out
  have HZS := Lib.hid (show Z.size = 32 by rw [← HZ.out, i8s_size]; simp)
  have hsl := slice_hash7 (w.heap.size + 1)
  have HCP := Lib.hid (show (Q.map (Value.int .u8)).length = Nat.min 32 32 ∧ 0 + (Q.map (Value.int .u8)).length ≤ Z.toList.length ∧ ∀ v ∈ Q.map (Value.int .u8), v.oneCell' = true from
    ⟨by rw [List.length_map, HQL.out]; rfl, by rw [List.length_map, HQL.out, Array.length_toList, HZS.out]; decide, fun v hv => by obtain ⟨x, _, rfl⟩ := List.mem_map.1 hv; rfl⟩)
  have HSRC := Lib.hid (show ∀ j v, (Q.map (Value.int .u8))[j]? = some v → w3.cell? ((⟨b, off, none⟩ : Addr).add j) = some v from fun j v hv => by rw [Addr.add_mid]; exact hsrc j v hv)
  have H32 := Lib.hid h32
  have HEQ := Lib.hid (show (List.take 0 Z.toList ++ (Q.map (Value.int .u8) ++ List.drop (0 + (Q.map (Value.int .u8)).length) Z.toList)).toArray = i8s Q by
    rw [List.drop_eq_nil_of_le (by rw [List.length_map, HQL.out, Array.length_toList, HZS.out]; decide)]; simp [i8s])
  have HRR := Lib.hid hr
  have HO := Lib.hid hO
  have H31 := Lib.hid h31
  have HP3 := Lib.hid (show w3.heap.size = w.heap.size + 2 by rw [hO.size]; exact HSZ.out)
  clear h31 h32 hsrc hv hr hO HR HE1 HE2 hnn
  go_upto_region 4 with (first
    | (refine wpList_copy_y (o := ⟨some 14, _, _, _, _, _⟩) rfl (.tmp 12) (.tmp 13) 28 28 (by rfl) 5 Try.underlying28 yone (w.heap.size + 1) 0 32 32 ⟨b, off, none⟩ 32 cv (by rfl) (by rfl) Z.toList 25 H32.out (Q.map (Value.int .u8)) HCP.out.1 HSRC.out HCP.out.2.1 HCP.out.2.2 ?_))
  rw [HEQ.out]
  generalize hW4 : World.setRow w3 _ _ = w4
  have SQ := Lib.hid (size_hash7 Q HQL.out)
  have EZ := Lib.hid (show Z.size = (i8s Q).size by rw [HZS.out, i8s_size, HQL.out])
  have H42 := Lib.hid (show w4.heap[w.heap.size + 1]? = some (.cells (i8s Q) 25 (0, 0)) by rw [← hW4]; exact setRow_heap _ _ _ _ _ _ H32.out)
  have H41 := Lib.hid (show w4.heap[w.heap.size]? = some (.cells Z 25 (0, 0)) by rw [← hW4]; exact (setRow_other _ _ _ _ (by omega)).trans H31.out)
  have HC4 := Lib.hid (show Below w.heap.size w3 w4 by rw [← hW4]; exact ybelow_row (Below.refl _ _) (by omega) _)
  clear hW4 H31 H32 HSRC HCP HEQ hsl
  go_wp2_with (first
    | (with_reducible refine wpList_load_row (o := ⟨some 15, _, _, _, _, _⟩) rfl 25 _ rfl (w.heap.size + 1) rfl 25 (i8s Q) (0, 0) _ H42.out Try.underlying25 rfl SQ.out ?_)
    | (with_reducible refine wpList_store_row (o := ⟨none, .store _ (.tmp 2) _, _, _, _, _⟩) rfl 25 _ _ rfl w.heap.size (i8s Q) rfl rfl 25 Z H41.out SQ.out EZ.out (i8s_one _) ?_))
  have hC5 : Below w.heap.size w3 (w4.setRow w.heap.size (i8s Q)) := ybelow_row HC4.out (Nat.le_refl _) _
  refine bodyPost_ret (v := .tuple #[.agg (i8s Q), .int .i64 0]) (results_cell_two Try.results39 _ _ w.heap.size 25 (i8s Q) (0, 0) _ rfl (setRow_heap _ w.heap.size _ (i8s Q) _ _ H41.out) Try.underlying25 rfl SQ.out _ (by simp)) rfl ⟨rfl, ?_, ?_⟩
  · obtain ⟨x, y, z, hr⟩ := HRR.out
    refine ⟨x, y, z, hr _ (fun k hk hne => ?_) ?_⟩
    · exact (hC5.block k hk).trans ((HO.out.rest k hne).trans (HA2.out.block k hk))
    · exact hC5.block R HRl.out
  · have hb0 := HO.out.bel 0 (Nat.zero_le _)
    exact ⟨hC5.os.trans (hb0.os.trans HA2.out.os), hC5.tape.trans (hb0.tape.trans HA2.out.tape), hC5.output.trans (hb0.output.trans HA2.out.output), Nat.le_trans HA2.out.size (Nat.le_trans (Nat.le_of_eq HO.out.size.symm) hC5.size),
      fun k hk hne => (hC5.block k hk).trans ((HO.out.rest k hne).trans (HA2.out.block k hk))⟩
theorem rhash_any (R lb cb : Nat) (ab : Option Addr) (l : List Int) (w : World) (h : RR w 39 R ab lb cb l) :
    Calls Try.prog 39 #[.pointer (some ⟨R, 0, none⟩)] w fun e w' => e = .returned (.tuple #[.agg (i8s (hashA l).1), .int .i64 (hashA l).2.1]) ∧ (∃ ab' lb' cb', RR w' 39 R ab' lb' cb' (hashA l).2.2) ∧ Chg R w w' := by
  by_cases hs : l.length < 32
  · rw [show hashA l = (List.replicate 32 0, 3, l) by unfold hashA; rw [if_pos hs]]
    exact rhash_short R lb cb ab l w h hs
  · rw [show hashA l = (l.take 32, 0, l.drop 32) by unfold hashA; rw [if_neg hs]]
    exact rhash_ok R lb cb ab l w h (by omega)
end Go.Proofs.Ytbnclmlbennhaaa
