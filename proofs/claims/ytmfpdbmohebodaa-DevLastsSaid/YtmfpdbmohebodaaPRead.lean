/-
  The program's device of layer 6: Size, Waits, Down, Limit, Peek, Read.
-/
import Derived.Test.YtmfpdbmohebodaaPDev
namespace Go.Proofs.Ytmfpdbmohebodaa
open Go.RowKit
open Go.Maps (Keyed)

theorem pslice_sec (g o : Nat) (W : World) : (Instr.sliceAt 74 (.pointer (some ⟨g, o, none⟩)) none none none).run Try.prog W = .ok (.slice (some ⟨g, o, none⟩) 512 512) W := by
  obtain ⟨i0, hi0, _⟩ := Option.map_eq_some_iff.1 yone
  simp [Instr.sliceAt, run_underlying Try.underlying74, Instr.sureAddr, Instr.sliceBounds, sizeOf, typeInfo, hi0, Addr.add_mid]
theorem pindex_sec (gl n a : Nat) (h : a < n) (W : World) : (Instr.indexAt 67 (.slice (some ⟨gl, 0, none⟩) n n) (.int .u32 (a : Int))).run Try.prog W = .ok (.pointer (some ⟨gl, a * 512, none⟩)) W := by
  obtain ⟨i0, hi, hs⟩ := Option.map_eq_some_iff.1 (show (Try.prog.info? 74).map (·.size) = some 512 by kernel_rfl)
  simp [Instr.indexAt, asIntOf, run_underlying Try.underlying67, sizeOf, typeInfo, hi, hs, h, Addr.add_mid]
theorem pindex_wait (g len cap i : Nat) (h : i < len) (W : World) : (Instr.indexAt 69 (.slice (some ⟨g, 0, none⟩) len cap) (.int .i64 (i : Int))).run Try.prog W = .ok (.pointer (some ⟨g, i * 513, none⟩)) W := by
  obtain ⟨i0, hi, hs⟩ := Option.map_eq_some_iff.1 (show (Try.prog.info? 79).map (·.size) = some 513 by kernel_rfl)
  simp [Instr.indexAt, asIntOf, run_underlying Try.underlying69, sizeOf, typeInfo, hi, hs, h, Addr.add_mid]
theorem psize_sec (l : List (BitVec 8)) (h : l.length = 512) : (Try.prog.info? 74).map (·.size) = some (yvs l).size := by rw [show (Try.prog.info? 74).map (·.size) = some 512 by kernel_rfl, yvs_size, h]
theorem pzero_sec (W : World) : (zeroValue 74).run Try.prog W = .ok (.agg (yvs (zeroY 512))) W := by kernel_rfl
theorem range_tail {w : World} {g o : Nat} {x : Value} {xs : List Value} (h : w.rangeAt g o (x :: xs)) : w.rangeAt g (o + 1) xs := by
  intro j v hv
  have q := h (j + 1) v (by simpa using hv)
  rwa [show o + (j + 1) = o + 1 + j by omega] at q
theorem isMap_of {ws : List (Nat × List (BitVec 8))} {m : DataW Unit} (h : MapOf ws m) : Maps.IsMap m := by
  induction h with
  | none => exact Maps.isMap_empty
  | more ws m p h ih => exact ih.put _ _
theorem readM_more (F : List (BitVec 8)) (ws : List (Nat × List (BitVec 8))) (p : Nat × List (BitVec 8)) (a : Nat) : readM F (ws ++ [p]) a = if p.1 = a then p.2 else readM F ws a := by
  unfold readM; rw [List.foldl_append]; rfl
/-- What the map tells of a sector. -/
theorem map_read {ws : List (Nat × List (BitVec 8))} {m : DataW Unit} (h : MapOf ws m) (a : Nat) (z : DataW Unit) :
    (Maps.has m (.int .u32 (a : Int)) = false ∧ ∀ F, readM F ws a = secY F a) ∨
    (Maps.has m (.int .u32 (a : Int)) = true ∧ ∃ i, ∃ h : i < ws.length, m.atKey (.int .u32 (a : Int)) z = .lit (.int .i64 (i : Int)) ∧ (∀ F, readM F ws a = (ws[i]).2)) := by
  induction h with
  | none => exact .inl ⟨rfl, fun _ => rfl⟩
  | more ws m p hm ih =>
    by_cases hp : p.1 = a
    · refine .inr ⟨?_, ws.length, by simp, ?_, fun F => ?_⟩
      · rw [hp]; exact Maps.has_put_same (isMap_of hm) (by trivial) _
      · rw [hp]; exact Maps.atKey_put_same (isMap_of hm) (by trivial) _ _
      · rw [readM_more, if_pos hp]; simp
    · have hne : (Lit.int .u32 (a : Int)) ≠ Lit.int .u32 (p.1 : Int) := by
        intro e
        injection e with _ e
        exact hp (by omega)
      rw [Maps.has_put_other hne, Maps.atKey_put_other hne]
      rcases ih with ⟨h1, h2⟩ | ⟨h1, i, hi, h2, h3⟩
      · exact .inl ⟨h1, fun F => by rw [readM_more, if_neg hp]; exact h2 F⟩
      · refine .inr ⟨h1, i, by simp; omega, h2, fun F => ?_⟩
        rw [readM_more, if_neg hp, h3 F, List.getElem_append_left hi]

set_option maxHeartbeats 800000 in
theorem psize_any (D gl bm n : Nat) (vw : Value) (F : List (BitVec 8)) (ws : List (Nat × List (BitVec 8))) (lim : Int) (dn : Bool) (w : World) (h : PD w D gl bm n vw F ws lim dn) :
    Calls Try.prog 13 #[.pointer (some ⟨D, 0, none⟩)] w fun e w' => e = .returned (.int .i64 (n : Int)) ∧ w' = w := by
  obtain ⟨left, hd, _⟩ := h.dev
  obtain ⟨c0, _⟩ := pd_at hd
  have hn := h.big
  have nI : (n : Int) ≤ 4096 := by omega
  clear h hd hn
  go_enter Try.func13, Try.ntmps13
  go_wp2_with fail
  go_ret
  exact ⟨rfl, rfl⟩
theorem pd_form {w : World} {D gl bm n : Nat} {vw : Value} {F : List (BitVec 8)} {ws : List (Nat × List (BitVec 8))} {lim : Int} {dn : Bool} (h : PD w D gl bm n vw F ws lim dn) : ∃ a cap, vw = .slice a ws.length cap ∧ (0 < ws.length → ∃ g, a = some ⟨g, 0, none⟩) := by
  rcases h.wai.2 with ⟨hv, h0⟩ | ⟨g, cap, cur, hv, _⟩
  · exact ⟨none, 0, by rw [hv, h0], fun h => by omega⟩
  · exact ⟨_, cap, hv, fun _ => ⟨g, rfl⟩⟩
set_option maxHeartbeats 800000 in
theorem pwaits_any (D gl bm n : Nat) (vw : Value) (F : List (BitVec 8)) (ws : List (Nat × List (BitVec 8))) (lim : Int) (dn : Bool) (w : World) (h : PD w D gl bm n vw F ws lim dn) (hws : ws.length ≤ 1000000) :
    Calls Try.prog 30 #[.pointer (some ⟨D, 0, none⟩)] w fun e w' => e = .returned (.int .i64 (ws.length : Int)) ∧ w' = w := by
  obtain ⟨left, hd, _⟩ := h.dev
  obtain ⟨_, c1, _⟩ := pd_at hd
  obtain ⟨aw, capw, rfl, _⟩ := pd_form h
  have nI : (ws.length : Int) ≤ 1000000 := by omega
  generalize ws.length = N at *
  clear h hd
  go_enter Try.func30, Try.ntmps30
  go_wp2_with fail
  go_ret
  exact ⟨rfl, rfl⟩
set_option maxHeartbeats 800000 in
theorem pdown_any (D gl bm n : Nat) (vw : Value) (F : List (BitVec 8)) (ws : List (Nat × List (BitVec 8))) (lim : Int) (dn : Bool) (w : World) (h : PD w D gl bm n vw F ws lim dn) :
    Calls Try.prog 31 #[.pointer (some ⟨D, 0, none⟩)] w fun e w' => e = .returned (.bool dn) ∧ w' = w := by
  obtain ⟨left, hd, _⟩ := h.dev
  obtain ⟨_, _, _, _, _, c5⟩ := pd_at hd
  clear h hd
  go_enter Try.func31, Try.ntmps31
  go_wp2_with fail
  go_ret
  exact ⟨rfl, rfl⟩
set_option maxHeartbeats 800000 in
theorem plimit_any (D gl bm n : Nat) (vw : Value) (F : List (BitVec 8)) (ws : List (Nat × List (BitVec 8))) (lim x : Int) (dn : Bool) (w : World) (h : PD w D gl bm n vw F ws lim dn) (hx : x ≤ 9223372036854775807) :
    Calls Try.prog 17 #[.pointer (some ⟨D, 0, none⟩), .int .i64 x] w fun e w' => e = .returned (.tuple #[]) ∧ PD w' D gl bm n vw F ws (if x < 0 then -1 else x) dn ∧ Only D w w' := by
  obtain ⟨left, hd, _⟩ := h.dev
  obtain ⟨_, _, _, c3, c4, _⟩ := pd_at hd
  have f3 := pd_free hd 3
  have f4 := pd_free hd 4
  have H := Lib.hid h
  have HS := Lib.hid (heap_setCell_same _ D 4 _ _ (.int .i64 x) (heap_setCell_same w D 3 _ _ (.bool (decide (0 ≤ x))) hd))
  have hO : Only D w ((w.setCell ⟨D, 3, none⟩ (.bool (decide (0 ≤ x)))).setCell ⟨D, 4, none⟩ (.int .i64 x)) := ((Only.refl _ _).setCell _ _).setCell _ _
  have HO := Lib.hid hO
  obtain ⟨L, hL⟩ : ∃ L, (if x < 0 then -1 else x) = L := ⟨_, rfl⟩
  have HL1 := Lib.hid (show decide (0 ≤ L) = decide (0 ≤ x) by rw [← hL]; split <;> simp <;> omega)
  have HL2 := Lib.hid (show 0 ≤ L → x = L by rw [← hL]; split <;> omega)
  have HL3 := Lib.hid (show L ≤ 9223372036854775807 by rw [← hL]; split <;> omega)
  rw [hL]
  clear h hd hO hL
  go_enter Try.func17, Try.ntmps17
  go_wp2_with fail
  go_end0
  exact ⟨rfl, H.out.redev (left' := x) HO.out (by rw [HL1.out]; exact HS.out) HL2.out HL3.out, HO.out⟩

/-- A slice of a new block that holds a sector's bytes, and no error. -/
def Fresh6 (w : World) (L : List (BitVec 8)) (e : Ending) (w' : World) : Prop := e = .returned (.tuple #[.slice (some ⟨w.heap.size, 0, none⟩) 512 512, .int .i64 0]) ∧ ArrY w' w.heap.size 74 L ∧ L.length = 512 ∧ Below w.heap.size w w'
theorem Fresh6.sect {w : World} {L : List (BitVec 8)} {e : Ending} {w' : World} (h : Fresh6 w L e w') : Sect w L 0 e w' := ⟨_, h.1, BS.of_arr0 h.2.1 h.2.2.1, h.2.2.2⟩
set_option maxRecDepth 100000 in
set_option maxHeartbeats 1600000 in
theorem ppeek_ok (D gl bm n a : Nat) (vw : Value) (F : List (BitVec 8)) (ws : List (Nat × List (BitVec 8))) (lim : Int) (dn : Bool) (w : World) (h : PD w D gl bm n vw F ws lim dn) (hlt : a < n) :
    Calls Try.prog 25 #[.pointer (some ⟨D, 0, none⟩), .int .u32 (a : Int)] w (Fresh6 w (secY F a)) := by
  have hbig := h.big
  have ha : a < 4294967296 := by omega
  have HT := Lib.hid (placks_any D gl bm n a vw F ws lim dn w h ha)
  obtain ⟨left, hd, _⟩ := h.dev
  obtain ⟨c0, _⟩ := pd_at hd
  have HT2 := Lib.hid (show Calls Try.prog 38 #[.pointer (some ⟨D, 0, none⟩), .int .u32 (a : Int)] w fun e w' => e = .returned (.int .i64 0) ∧ w' = w by have q := HT.out; rwa [if_pos hlt] at q)
  have hsl : ∀ g W, _ := fun g W => pslice_sec g 0 W
  have hix := pindex_sec gl n a hlt
  have hz := pzero_sec
  have HSL := Lib.hid (secY_length F a n h.len hlt)
  have HRG := Lib.hid (show w.rangeAt gl (a * 512) (yvs (secY F a)).toList from h.lay.range (a * 512) 512)
  generalize secY F a = SA at *
  have SWC := Lib.hid (show (Try.prog.info? 74).map (·.size) = some (yvs SA).toList.length by rw [Array.length_toList]; exact psize_sec _ HSL.out)
  have SWR := Lib.hid (show (Try.prog.info? 74).map (·.size) = some (yvs SA).toList.toArray.size by rw [Array.toArray_toList]; exact psize_sec _ HSL.out)
  have WO := Lib.hid (show (yvs SA).toList.toArray.all (·.oneCell') = true by rw [Array.toArray_toList]; exact yvs_one SA)
  have EW := Lib.hid (show (yvs (zeroY 512)).size = (yvs SA).toList.toArray.size by rw [Array.toArray_toList, yvs_size, yvs_size, HSL.out]; rfl)
  have HSS := Lib.hid (show (yvs SA).toList.toArray = yvs SA from Array.toArray_toList)
  generalize (yvs SA).toList = SL at *
  generalize yvs (zeroY 512) = ZW at *
  clear h ha hlt HT hd hbig
  go_enter Try.func25, Try.ntmps25
  go_wp2_with fail
  refine HT2.out.mono ?_
  rintro e w1 ⟨rfl, rfl⟩
  go_upto_region 5 with (first
    | (with_reducible refine wpList_load_mid (op := ⟨some 20, _, _, _, _, _⟩) rfl 74 _ rfl gl (a * 512) rfl SL _ HRG.out Try.underlying74 rfl SWC.out ?_)
    | (with_reducible refine wpList_store_row (o := ⟨none, .store _ (.tmp 7) _, _, _, _, _⟩) rfl 74 _ _ rfl w1.heap.size SL.toArray rfl rfl 74 ZW (heap_alloc_new w1 _) SWR.out EW.out WO.out ?_))
  clear hix
  generalize hW7 : World.setRow _ w1.heap.size _ = W7
  have h7 : ArrY W7 w1.heap.size 74 SA ∧ Below w1.heap.size w1 W7 := by
    obtain ⟨e1, e2, e3⟩ := ygen_row (w := w1) (old := ZW) (cs := SL.toArray) (T := 74)
    rw [← hW7]
    exact ⟨by unfold ArrY; rw [← HSS.out]; exact e1, e3⟩
  have H7 := Lib.hid h7
  clear hW7 h7 c0 hz
  go_wp2_with fail
  go_ret2
  exact ⟨rfl, H7.out.1, HSL.out, H7.out.2⟩
set_option maxHeartbeats 800000 in
theorem ppeek_far (D gl bm n a : Nat) (vw : Value) (F : List (BitVec 8)) (ws : List (Nat × List (BitVec 8))) (lim : Int) (dn : Bool) (w : World) (h : PD w D gl bm n vw F ws lim dn) (ha : a < 4294967296) (hlt : ¬ a < n) :
    Calls Try.prog 25 #[.pointer (some ⟨D, 0, none⟩), .int .u32 (a : Int)] w fun e w' => e = .returned (.tuple #[.slice none 0 0, .int .i64 2]) ∧ w' = w := by
  have HT := Lib.hid (placks_any D gl bm n a vw F ws lim dn w h ha)
  obtain ⟨left, hd, _⟩ := h.dev
  obtain ⟨c0, _⟩ := pd_at hd
  have HT2 := Lib.hid (show Calls Try.prog 38 #[.pointer (some ⟨D, 0, none⟩), .int .u32 (a : Int)] w fun e w' => e = .returned (.int .i64 2) ∧ w' = w by have q := HT.out; rwa [if_neg hlt] at q)
  clear h ha hlt HT hd
  go_enter Try.func25, Try.ntmps25
  go_wp2_with fail
  refine HT2.out.mono ?_
  rintro e w1 ⟨rfl, rfl⟩
  go_wp2_with fail
  go_ret2
  exact ⟨rfl, rfl⟩
set_option maxHeartbeats 800000 in
theorem pread_far (D gl bm n a : Nat) (vw : Value) (F : List (BitVec 8)) (ws : List (Nat × List (BitVec 8))) (lim : Int) (dn : Bool) (w : World) (h : PD w D gl bm n vw F ws lim dn) (ha : a < 4294967296) (hn : n ≤ a) :
    Calls Try.prog 23 #[.pointer (some ⟨D, 0, none⟩), .int .u32 (a : Int)] w fun e w' => e = .returned (.tuple #[.slice none 0 0, .int .i64 2]) ∧ w' = w := by
  have HT := Lib.hid (show Calls Try.prog 38 #[.pointer (some ⟨D, 0, none⟩), .int .u32 (a : Int)] w fun e w' => e = .returned (.int .i64 2) ∧ w' = w by have q := placks_any D gl bm n a vw F ws lim dn w h ha; rwa [if_neg (by omega)] at q)
  clear h ha hn
  go_enter Try.func23, Try.ntmps23
  go_wp2_with fail
  refine HT.out.mono ?_
  rintro e w1 ⟨rfl, rfl⟩
  go_wp2_with fail
  go_ret2
  exact ⟨rfl, rfl⟩
set_option maxHeartbeats 800000 in
theorem pread_down (D gl bm n a : Nat) (vw : Value) (F : List (BitVec 8)) (ws : List (Nat × List (BitVec 8))) (lim : Int) (w : World) (h : PD w D gl bm n vw F ws lim true) (ha : a < n) :
    Calls Try.prog 23 #[.pointer (some ⟨D, 0, none⟩), .int .u32 (a : Int)] w fun e w' => e = .returned (.tuple #[.slice none 0 0, .int .i64 7]) ∧ w' = w := by
  have HT := Lib.hid (show Calls Try.prog 38 #[.pointer (some ⟨D, 0, none⟩), .int .u32 (a : Int)] w fun e w' => e = .returned (.int .i64 0) ∧ w' = w by have hb := h.big; have q := placks_any D gl bm n a vw F ws lim true w h (by omega); rwa [if_pos ha] at q)
  obtain ⟨left, hd, _⟩ := h.dev
  obtain ⟨_, _, _, _, _, c5⟩ := pd_at hd
  clear h ha hd
  go_enter Try.func23, Try.ntmps23
  go_wp2_with fail
  refine HT.out.mono ?_
  rintro e w1 ⟨rfl, rfl⟩
  go_wp2_with fail
  go_ret2
  exact ⟨rfl, rfl⟩
theorem key_u32 (a : Nat) (ha : a < 4294967296) : keyOf Try.prog 32 (.int .u32 (a : Int)) = some (.int .u32 (a : Int)) := Maps.keyOf_int_mk Try.underlying32 (by simp [Lit.wf, IntKind.min, IntKind.max, IntKind.bits, IntKind.signed]; omega)
set_option maxRecDepth 100000 in
set_option maxHeartbeats 3200000 in
theorem pread_ok (D gl bm n a : Nat) (vw : Value) (F : List (BitVec 8)) (ws : List (Nat × List (BitVec 8))) (lim : Int) (w : World) (h : PD w D gl bm n vw F ws lim false) (ha : a < n) :
    Calls Try.prog 23 #[.pointer (some ⟨D, 0, none⟩), .int .u32 (a : Int)] w (Fresh6 w (readM F ws a)) := by
  have hbig := h.big
  have HT2 := Lib.hid (show Calls Try.prog 38 #[.pointer (some ⟨D, 0, none⟩), .int .u32 (a : Int)] w fun e w' => e = .returned (.int .i64 0) ∧ w' = w by have q := placks_any D gl bm n a vw F ws lim false w h (by omega); rwa [if_pos ha] at q)
  have hkey := key_u32 a (by omega)
  obtain ⟨left, hd, _⟩ := h.dev
  obtain ⟨c0, _, _, _, _, c5⟩ := pd_at hd
  have H := Lib.hid h
  have hsl : ∀ g W, _ := fun g W => pslice_sec g 0 W
  have hix := pindex_sec gl n a ha
  have hz := pzero_sec
  have HSL := Lib.hid (secY_length F a n h.len ha)
  have HRG := Lib.hid (show w.rangeAt gl (a * 512) (yvs (secY F a)).toList from h.lay.range (a * 512) 512)
  obtain ⟨SA, hSA⟩ : ∃ y, secY F a = y := ⟨_, rfl⟩
  have HSA := Lib.hid hSA
  rw [hSA] at HSL HRG
  have SWC := Lib.hid (show (Try.prog.info? 74).map (·.size) = some (yvs SA).toList.length by rw [Array.length_toList]; exact psize_sec _ HSL.out)
  have SWR := Lib.hid (show (Try.prog.info? 74).map (·.size) = some (yvs SA).toList.toArray.size by rw [Array.toArray_toList]; exact psize_sec _ HSL.out)
  have WO := Lib.hid (show (yvs SA).toList.toArray.all (·.oneCell') = true by rw [Array.toArray_toList]; exact yvs_one SA)
  have EW := Lib.hid (show (yvs (zeroY 512)).size = (yvs SA).toList.toArray.size by rw [Array.toArray_toList, yvs_size, yvs_size, HSL.out]; rfl)
  have HSS := Lib.hid (show (yvs SA).toList.toArray = yvs SA from Array.toArray_toList)
  generalize (yvs SA).toList = SL at *
  generalize yvs (zeroY 512) = ZW at *
  clear h ha hd hSA hbig
  go_enter Try.func23, Try.ntmps23
  go_wp2_with fail
  refine HT2.out.mono ?_
  rintro e w1 ⟨rfl, rfl⟩
  go_upto_region 7 with (first
    | (with_reducible refine wpList_load_mid (op := ⟨some 26, _, _, _, _, _⟩) rfl 74 _ rfl gl (a * 512) rfl SL _ HRG.out Try.underlying74 rfl SWC.out ?_)
    | (with_reducible refine wpList_store_row (o := ⟨none, .store _ (.tmp 7) _, _, _, _, _⟩) rfl 74 _ _ rfl w1.heap.size SL.toArray rfl rfl 74 ZW (heap_alloc_new w1 _) SWR.out EW.out WO.out ?_))
  clear hix
  generalize hW7 : World.setRow _ w1.heap.size _ = W7
  have h7 : ArrY W7 w1.heap.size 74 SA ∧ Below w1.heap.size w1 W7 := by
    obtain ⟨e1, e2, e3⟩ := ygen_row (w := w1) (old := ZW) (cs := SL.toArray) (T := 74)
    rw [← hW7]
    exact ⟨by unfold ArrY; rw [← HSS.out]; exact e1, e3⟩
  have HR := H.out.below h7.2
  obtain ⟨left, hd, _⟩ := HR.dev
  obtain ⟨_, c1, c2, _⟩ := pd_at hd
  obtain ⟨m, hm, hown⟩ := HR.map
  obtain ⟨aw, capw, rfl, hag⟩ := pd_form HR
  have HAG := Lib.hid hag
  have HR7 := Lib.hid HR
  have H7 := Lib.hid h7
  have HOWN := Lib.hid hown
  clear hW7 h7 c0 hz c5 HR hd hown hag
  rcases map_read hm a (.lit (.int .i64 0)) with ⟨hhas, hr⟩ | ⟨hhas, i, hi, hat, hr⟩
  · have HR2 := Lib.hid (hr F)
    clear hr
    go_wp2_with (first
      | (at_lookup; refine wpList_lookup_own_ok_int _ rfl _ _ 68 rfl 32 3 .i64 (Maps.int_keyed Try.underlying32) Try.underlying68 Try.underlying3 (by kernel_rfl) bm _ m rfl HOWN.out _ _ rfl hkey ?_; intro c hat hwc))
    go_ret2
    exact ⟨rfl, by rw [HR2.out, HSA.out]; exact H7.out.1, by rw [HR2.out, HSA.out]; exact HSL.out, H7.out.2⟩
  · obtain ⟨g, rfl⟩ := HAG.out (by omega)
    have HR2 := Lib.hid (hr F)
    have hpw := HR7.out.wok _ (List.getElem_mem hi)
    have hrg := range_tail (own_range (by have q := HR7.out.wai; exact q) (fun p hp => (HR7.out.wok p hp).1) i hi)
    have hix := pindex_wait g ws.length capw i hi
    generalize ws[i] = p at *
    have hiI : (i : Int) < (ws.length : Int) := by omega
    generalize ws.length = N at *
    have HRG := Lib.hid (show W7.rangeAt g (i * 513 + 1) (yvs p.2).toList from by simpa [wcell, yvs] using hrg)
    have SWC := Lib.hid (show (Try.prog.info? 74).map (·.size) = some (yvs p.2).toList.length by rw [Array.length_toList]; exact psize_sec _ hpw.1)
    have SWR := Lib.hid (show (Try.prog.info? 74).map (·.size) = some (yvs p.2).toList.toArray.size by rw [Array.toArray_toList]; exact psize_sec _ hpw.1)
    have WO := Lib.hid (show (yvs p.2).toList.toArray.all (·.oneCell') = true by rw [Array.toArray_toList]; exact yvs_one p.2)
    have EW := Lib.hid (show (yvs SA).size = (yvs p.2).toList.toArray.size by rw [Array.toArray_toList, yvs_size, yvs_size, HSL.out, hpw.1])
    have HSS := Lib.hid (show (yvs p.2).toList.toArray = yvs p.2 from Array.toArray_toList)
    have HPL := Lib.hid hpw.1
    have HX := Lib.hid (show W7.heap[w1.heap.size]? = some (.cells (yvs SA) 74 (0, 0)) from H7.out.1)
    have HB := Lib.hid (ybelow_row H7.out.2 (Nat.le_refl _) (yvs p.2))
    have HN := Lib.hid (show ArrY (W7.setRow w1.heap.size (yvs p.2)) w1.heap.size 74 p.2 from setRow_heap W7 _ _ _ _ _ HX.out)
    generalize (yvs p.2).toList = PL at *
    clear hr hpw hrg hi
    generalize hX : w1.heap.size = X at *
    have HXX := Lib.hid hX
    clear hX
    go_upto_region 10 with (first
      | (at_lookup; refine wpList_lookup_own_ok_int _ rfl _ _ 68 rfl 32 3 .i64 (Maps.int_keyed Try.underlying32) Try.underlying68 Try.underlying3 (by kernel_rfl) bm _ m rfl HOWN.out _ _ rfl hkey ?_; intro c hat' hwc; rw [hat] at hat'; injection hat' with e1; injection e1 with _ e1; subst e1)
      | (with_reducible refine wpList_load_mid (op := ⟨some 44, _, _, _, _, _⟩) rfl 74 _ rfl g (i * 513 + 1) rfl PL _ HRG.out Try.underlying74 rfl SWC.out ?_)
      | (with_reducible refine wpList_store_row (o := ⟨none, .store _ (.tmp 7) _, _, _, _, _⟩) rfl 74 _ _ rfl X PL.toArray rfl rfl 74 (yvs SA) HX.out SWR.out EW.out WO.out ?_))
    rw [HSS.out]
    clear hix c1 c2
    go_wp2_with fail
    go_ret2
    unfold Fresh6
    rw [HXX.out]
    exact ⟨rfl, by rw [HR2.out]; exact HN.out, by rw [HR2.out]; exact HPL.out, HB.out⟩
end Go.Proofs.Ytmfpdbmohebodaa
