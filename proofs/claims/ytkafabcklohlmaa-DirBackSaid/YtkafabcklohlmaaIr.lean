/-
  Datasets as keys and values: plain; Put, of the program and of the document. (Written by tools/XIr.make.py.)
-/
import Derived.Test.YtkafabcklohlmaaIo
namespace Go.Proofs.Ytkafabcklohlmaa
set_option maxRecDepth 4000
set_option linter.unusedVariables false
open Go.ChangeShapes Go.WideShapes Go.ChangeAt Go.RowKit

def kB (s : SetV) : Int := if s.sn then 2 else 1
theorem kB_two (s : SetV) : kB s = 1 ∨ kB s = 2 := by unfold kB; split; exact .inr rfl; exact .inl rfl
/-- A dataset's value, as bytes, as a text. -/
def setB (s : SetV) : List Int := ([kB s] ++ ((s.fr.size : Int) :: btxt s.fr)) ++ ptrB s.rt
def putV (s : SetV) : ByteArray := strOfNums (setB s)
def putD (s : SetV) : (ByteArray × ByteArray) × Int := if okS s then ((s.nm, putV s), 0) else ((noS, noS), 4)
theorem setB_len (s : SetV) : (setB s).length = 46 + s.fr.size := by
  simp [setB, btxt_length, ptrB_length]
  omega
theorem setB_byt {s : SetV} (h : s.fr.size ≤ 255) : Byt (setB s) := by
  intro z hz
  unfold setB at hz
  rw [List.mem_append, List.mem_append, List.mem_singleton, List.mem_cons] at hz
  rcases hz with (rfl | rfl | hz) | hz
  · rcases kB_two s with e | e <;> rw [e] <;> decide
  · omega
  · exact btxt_byt _ z hz
  · exact ptrB_byt _ z hz
theorem putV_size (s : SetV) : (putV s).size = 46 + s.fr.size := by
  have := congrArg List.length (strOfNums_data (setB s))
  rw [List.length_map, setB_len] at this
  exact this
theorem size_kv (a b : ByteArray) : (Try.prog.info? 45).map (·.size) = some (#[Value.string a, .string b] : Array Value).size := by kernel_rfl
theorem kv_one (a b : ByteArray) : (#[Value.string a, Value.string b] : Array Value).all (·.oneCell') = true := all_oneCell_toArray (cs := [.string a, .string b]) (by intro v hv; simp at hv; rcases hv with rfl | rfl <;> rfl)
theorem kv_sz (a b c d : ByteArray) : (#[Value.string a, Value.string b] : Array Value).size = (#[Value.string c, Value.string d] : Array Value).size := rfl
theorem kv_rows (w : World) (AR : Array Value) (o2 : Obj) : ((w.alloc (.cells AR 38)).alloc o2).heap[w.heap.size]? = some (.cells AR 38 (0, 0)) ∧ ((w.alloc (.cells AR 38)).alloc o2).heap[w.heap.size + 1]? = some o2 ∧ Below w.heap.size w ((w.alloc (.cells AR 38)).alloc o2) := by
  have hs : (w.alloc (.cells AR 38)).heap.size = w.heap.size + 1 := by simp
  refine ⟨((ba15 (w.alloc (.cells AR 38)) o2).block w.heap.size (by rw [hs]; exact Nat.lt_succ_self _)).trans (new15 w _), ?_, bt15 (ba15 w _) (ba15 _ _)⟩
  have := new15 (w.alloc (.cells AR 38)) o2
  rwa [hs] at this
def KvPost (w : World) (X : (ByteArray × ByteArray) × Int) (e : Ending) (w' : World) : Prop := e = .returned (.tuple #[.agg #[.string X.1.1, .string X.1.2], .int .i64 X.2]) ∧ Below w.heap.size w w'
set_option maxRecDepth 100000 in
set_option maxHeartbeats 3200000 in
theorem pkind15 (s : SetV) (w : World) : Calls Try.prog 39 #[.agg (setRow s).toArray] w fun e w' => e = .returned (.int .u8 (kB s)) ∧ Below w.heap.size w w' := by
  obtain ⟨AR, har⟩ := setR s
  rw [har.eq]
  have hnw := new15 w (.cells AR 38)
  obtain ⟨_, _, c2, _⟩ := set_atR hnw har
  have HB := Lib.hid (ba15 w (.cells AR 38))
  clear har hnw
  cases hs : s.sn with
  | true =>
    have HE := Lib.hid (show kB s = 2 by unfold kB; rw [hs]; rfl)
    rw [hs] at c2
    clear hs
    go_enter Try.func39, Try.ntmps39
    go_wp2_with fail
    go_ret
    exact ⟨by rw [HE.out]; rfl, HB.out⟩
  | false =>
    have HE := Lib.hid (show kB s = 1 by unfold kB; rw [hs]; rfl)
    rw [hs] at c2
    clear hs
    go_enter Try.func39, Try.ntmps39
    go_wp2_with fail
    go_ret
    exact ⟨by rw [HE.out]; rfl, HB.out⟩
set_option maxRecDepth 100000 in
set_option maxHeartbeats 3200000 in
theorem pput15 (s : SetV) (ho : SetOk s) (w : World) : Calls Try.prog 19 #[.agg (setRow s).toArray] w fun e w' => KvPost w (putD s) e w' := by
  have HK := Lib.hid (fun W => pkind15 s W)
  have HC := Lib.hid (fun W => pcheck15 s ho W)
  obtain ⟨AR, har⟩ := setR s
  rw [har.eq] at HK HC ⊢
  have HAR := Lib.hid har
  have HO := Lib.hid ho
  obtain ⟨hx, hr, hb⟩ := kv_rows w AR (.cells #[.string ⟨#[]⟩, .string ⟨#[]⟩] 45)
  have HX := Lib.hid hx
  have HR := Lib.hid hr
  have HB := Lib.hid hb
  clear har hx hr hb ho
  go_enter Try.func19, Try.ntmps19
  go_upto_region 1 with fail
  generalize World.alloc (World.alloc w (.cells AR 38)) (.cells #[.string ⟨#[]⟩, .string ⟨#[]⟩] 45) = w1 at *
  have HXR := Lib.hid (show w.heap.size ≠ w.heap.size + 1 by omega)
  have HRW := Lib.hid (show w.heap.size ≤ w.heap.size + 1 by omega)
  have HRL := Lib.hid (lt_of_block HR.out)
  have HXL := Lib.hid (lt_of_block HX.out)
  generalize hRR : w.heap.size + 1 = R at *
  generalize hXX : w.heap.size = X at *
  have HXS := Lib.hid (show X ≤ w1.heap.size from hXX ▸ HB.out.size)
  clear hRR
  cases hok : okS s with
  | false =>
    have HE := Lib.hid (show putD s = ((noS, noS), 4) by unfold putD; rw [hok]; rfl)
    have hck : checkS s = 4 := by unfold checkS; rw [hok]; rfl
    rw [hck] at HC
    clear hok hck
    go_wp2_with (first
      | (with_reducible refine wpList_load_row (o := ⟨some 6, _, _, _, _, _⟩) rfl 38 _ rfl X rfl 38 AR (0, 0) _ HX.out Try.underlying38 rfl HAR.out.sz ?_))
    refine (HC.out _).mono ?_
    rintro e w2 ⟨rfl, hb2⟩
    have HB2 := Lib.hid (HB.out.trans (hb2.mono HXS.out))
    have HXS2 := Lib.hid (Nat.le_trans HXS.out hb2.size)
    have HR2 := Lib.hid ((hb2.block _ HRL.out).trans HR.out)
    clear hb2
    go_wp2_with (first
      | (with_reducible refine wpList_store_row (o := ⟨none, .store _ (.tmp 2) _, _, _, _, _⟩) rfl 45 _ _ rfl R #[.string ⟨#[]⟩, .string ⟨#[]⟩] rfl rfl 45 #[.string ⟨#[]⟩, .string ⟨#[]⟩] HR2.out (size_kv _ _) (kv_sz _ _ _ _) (kv_one _ _) ?_))
    refine bodyPost_ret (v := .tuple #[.agg #[.string ⟨#[]⟩, .string ⟨#[]⟩], .int .i64 4]) (results_cell_two Try.results19 _ _ R 45 #[.string ⟨#[]⟩, .string ⟨#[]⟩] (0, 0) _ rfl (setRow_heap _ R _ #[.string ⟨#[]⟩, .string ⟨#[]⟩] _ _ HR2.out) Try.underlying45 rfl (size_kv _ _) _ (by simp)) rfl ?_
    exact ⟨by rw [HE.out]; rfl, by rw [hXX]; exact ybelow_row HB2.out HRW.out _⟩
  | true =>
    have HE := Lib.hid (show putD s = ((s.nm, putV s), 0) by unfold putD; rw [hok]; rfl)
    have hck : checkS s = 0 := by unfold checkS; rw [hok]; rfl
    rw [hck] at HC
    have hp := (ok_parts hok).1
    have HFR := Lib.hid hp
    clear hok hck hp
    go_wp2_with (first
      | (with_reducible refine wpList_load_row (o := ⟨some 6, _, _, _, _, _⟩) rfl 38 _ rfl X rfl 38 AR (0, 0) _ HX.out Try.underlying38 rfl HAR.out.sz ?_))
    refine (HC.out _).mono ?_
    rintro e w2 ⟨rfl, hb2⟩
    have HB2 := Lib.hid (HB.out.trans (hb2.mono HXS.out))
    have HXS2 := Lib.hid (Nat.le_trans HXS.out hb2.size)
    have HR2 := Lib.hid ((hb2.block _ HRL.out).trans HR.out)
    have HX2 := Lib.hid ((hb2.block _ HXL.out).trans HX.out)
    clear hb2 HC HB HR HX
    have HW := Lib.hid (wl_new (Below.refl w2.heap.size w2))
    have HZ := Lib.hid (ba15 w2 (.cells #[.slice none 0 0] 66))
    go_upto_region 5 with fail
    generalize World.alloc w2 (.cells #[.slice none 0 0] 66) = w3 at *
    obtain ⟨PP, hPP⟩ : ∃ z, w2.heap.size = z := ⟨_, rfl⟩
    rw [hPP] at HW ⊢
    have HPP := Lib.hid hPP
    clear hPP
    have HX3 := Lib.hid ((HZ.out.block _ (lt_of_block HX2.out)).trans HX2.out)
    go_wp2_with (first
      | (with_reducible refine wpList_load_row (o := ⟨some 12, _, _, _, _, _⟩) rfl 38 _ rfl X rfl 38 AR (0, 0) _ HX3.out Try.underlying38 rfl HAR.out.sz ?_))
    refine (HK.out _).mono ?_
    rintro e w4 ⟨rfl, hb4⟩
    have HW4 := Lib.hid (HW.out.below hb4)
    have HN := Lib.hid (wl_num w2 w4 PP [] (kB s) 1 HW4.out (by rcases kB_two s with h | h <;> rw [h] <;> decide) (by decide))
    have hnw : numW (kB s) 1 = ([kB s], 0) := by rcases kB_two s with h | h <;> rw [h] <;> rfl
    rw [hnw] at HN
    have hkw : IntKind.u64.wrap (kB s) = kB s := by rcases kB_two s with h | h <;> rw [h] <;> rfl
    clear hb4 HW HZ HX3 hnw HK
    go_wp2_with fail
    refine HN.out.mono ?_
    rintro e w5 ⟨rfl, hw5⟩
    have HW5 := Lib.hid hw5
    have HX5 := Lib.hid ((hw5.bel.block _ (lt_of_block HX2.out)).trans HX2.out)
    obtain ⟨_, c1, _, _⟩ := set_atR HX5.out HAR.out
    have HS := Lib.hid (wl_str w2 w5 PP _ s.fr HW5.out HO.out.fs (by simp))
    have hsw : strW s.fr = ((s.fr.size : Int) :: btxt s.fr, 0) := by unfold strW; rw [if_neg (by have := HFR.out; omega)]
    rw [hsw] at HS
    clear hw5 HN hkw HW4 hsw
    go_wp2_with fail
    refine HS.out.mono ?_
    rintro e w6 ⟨rfl, hw6⟩
    have HW6 := Lib.hid hw6
    have HX6 := Lib.hid ((hw6.bel.block _ (lt_of_block HX2.out)).trans HX2.out)
    obtain ⟨_, _, _, c3⟩ := set_atR HX6.out HAR.out
    have HP6 := Lib.hid c3
    obtain ⟨PR, hPR⟩ : ∃ z, (ptrRow s.rt).toArray = z := ⟨_, rfl⟩
    have HPR := Lib.hid hPR
    have HPU := Lib.hid (wl_ptr w2 w6 PP _ s.rt HW6.out (by simp [btxt_length]; have := HFR.out; omega))
    rw [hPR] at HPU
    clear hw6 HS HW5 c1 c3 HX5 hPR
    go_wp2_with (first
      | (with_reducible refine ld_ptr15 (op := ⟨some 20, _, _, _, _, _⟩) (by kernel_rfl) _ rfl X 3 rfl s.rt _ HPR.out HP6.out ?_))
    refine HPU.out.mono ?_
    rintro e w7 ⟨rfl, hw7⟩
    have hw7' : WL w2 w7 PP (setB s) := hw7
    have HW7 := Lib.hid hw7'
    have HX7 := Lib.hid ((hw7.bel.block _ (lt_of_block HX2.out)).trans HX2.out)
    obtain ⟨c0, _, _, _⟩ := set_atR HX7.out HAR.out
    clear hw7 hw7' HPU HP6 HX6 HW6
    go_upto_region 8 with fail
    have HBY := Lib.hid (wl_bytes w2 w7.drew PP (setB s) (HW7.out.below (Below.refl _ w7).drew) (by rw [setB_len]; have := HFR.out; omega))
    try simp only [Act.put]
    refine wp_region_noPanic ?_
    refine wp_region_held_drew (S := fun W => W.cell? ⟨X, 0, none⟩ = some (.string s.nm)) (by kernel_rfl) c0 (fun hHeld => ?_)
    refine wpAnyH_take (i := 0) (oi := ⟨some 22, _, _, _, _, _⟩) (v := ?_) rfl (by kernel_rfl) (by decide +kernel) (by decide +kernel) (fun _ _ _ h => h) (Or.inl ⟨by rfl, ?_⟩) (by assumption) ?_
    rotate_left 1
    · (intro w' hSw; go_simp; try with_reducible rfl)
    try simp only [Act.put, List.setIfInBounds_toArray, List.set_cons_zero, List.set_cons_succ]
    refine wpAnyH_take (i := 1) (oi := ⟨some 23, _, _, _, _, _⟩) (v := ?_) rfl (by kernel_rfl) (by decide +kernel) (by decide +kernel) (fun _ _ _ h => h) (Or.inl ⟨by rfl, ?_⟩) (by assumption) ?_
    rotate_left 1
    · (intro w' hSw; go_simp; try with_reducible rfl)
    try simp only [Act.put, List.setIfInBounds_toArray, List.set_cons_zero, List.set_cons_succ]
    refine wpAnyH_ready (rs := [2]) (by decide +kernel) (by simp) ?_
    refine AllReadyH.cons rfl (fun K hK => ?_) AllReadyH.nil
    go_simp
    refine HBY.out.mono ?_
    rintro e w8 ⟨a, c, rfl, hc, hbs, hw8, hb8⟩
    have HBS := Lib.hid hbs
    have HW8 := Lib.hid hw8
    have e0 : w8.cell? ⟨X, 0, none⟩ = some (.string s.nm) := (set_atR ((hw8.bel.block _ (lt_of_block HX2.out)).trans HX2.out) HAR.out).1
    clear hc hbs hw8 hb8 HBY
    go_wp2_with fail
    refine hK.out _ _ e0 (fun hHeld => ?_)
    clear hK K
    try simp only [Act.put, List.setIfInBounds_toArray, List.set_cons_zero, List.set_cons_succ]
    refine wpAnyH_ready (rs := [3]) (by decide +kernel) (by simp) ?_
    refine AllReadyH.cons rfl (fun K hK => ?_) AllReadyH.nil
    have hcv := conv_BS HBS.out
    go_simp
    rw [show strOfNums (setB s) = putV s from rfl]
    refine hK.out _ _ e0 (fun hHeld => ?_)
    clear hK K
    try simp only [Act.put, List.setIfInBounds_toArray, List.set_cons_zero, List.set_cons_succ]
    refine wpAnyH_take (i := 4) (oi := ⟨some 26, _, _, _, _, _⟩) (v := ?_) rfl (by kernel_rfl) (by decide +kernel) (by decide +kernel) (fun _ _ _ h => h) (Or.inl ⟨by rfl, ?_⟩) (by assumption) ?_
    rotate_left 1
    · (intro w' hSw; go_simp; try with_reducible rfl)
    try simp only [Act.put, List.setIfInBounds_toArray, List.set_cons_zero, List.set_cons_succ]
    refine wpAnyH_ready (rs := [5]) (by decide +kernel) (by simp) ?_
    refine AllReadyH.cons rfl (fun K hK => ?_) AllReadyH.nil
    refine wp_store_row (o := ⟨none, .store _ (.tmp 2) _, _, _, _, _⟩) 45 _ _ rfl R #[.string s.nm, .string (putV s)] rfl rfl 45 #[.string ⟨#[]⟩, .string ⟨#[]⟩] ((HW8.out.bel.block _ (lt_of_block HR2.out)).trans HR2.out) (size_kv _ _) (kv_sz _ _ _ _) (kv_one _ _) ?_
    have f0 : (World.setRow w8 R #[.string s.nm, .string (putV s)]).cell? ⟨X, 0, none⟩ = some (.string s.nm) := by have h := (setRow_other w8 R X #[.string s.nm, .string (putV s)] HXR.out).trans ((HW8.out.bel.block _ (lt_of_block HX2.out)).trans HX2.out); exact (set_atR h HAR.out).1
    refine hK.out _ _ f0 (fun hHeld => ?_)
    clear hK K
    try simp only [Act.put]
    refine wpAnyH_take (i := 6) (oi := ⟨some 3, _, _, _, _, _⟩) (v := ?_) rfl (by kernel_rfl) (by decide +kernel) (by decide +kernel) (fun _ _ _ h => h) (Or.inl ⟨by rfl, ?_⟩) (by assumption) ?_
    rotate_left 1
    · (intro w' hSw; go_simp; try with_reducible rfl)
    try simp only [Act.put, List.setIfInBounds_toArray, List.set_cons_zero, List.set_cons_succ]
    refine wpAnyH_done (by decide +kernel) ?_ _
    refine NoPanic.normal ?_
    go_wp2_with fail
    refine bodyPost_ret (v := .tuple #[.agg #[.string s.nm, .string (putV s)], .int .i64 0]) (results_cell_two Try.results19 _ _ R 45 #[.string s.nm, .string (putV s)] (0, 0) _ rfl (setRow_heap _ R _ #[.string s.nm, .string (putV s)] _ _ ((HW8.out.bel.block _ (lt_of_block HR2.out)).trans HR2.out)) Try.underlying45 rfl (size_kv _ _) _ (by simp)) rfl ?_
    exact ⟨by rw [HE.out], by rw [hXX]; exact ybelow_row (HB2.out.trans (HW8.out.bel.mono HXS2.out)) HRW.out _⟩
end Go.Proofs.Ytkafabcklohlmaa
