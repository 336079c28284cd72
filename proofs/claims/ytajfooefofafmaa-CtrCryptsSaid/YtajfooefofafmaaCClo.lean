/-
  The closure of CtrBlocks: of a number the block sealed, and whether the stream has it there.
-/
import Derived.Test.YtajfooefofafmaaCUse
import Derived.Test.YtajfooefofafmaaYEq
namespace Go.Proofs.Ytajfooefofafmaa
open Go.RowKit

theorem results_cell_two {P : Program} {fn : Func} {p q : Tmp} {ty : TypeId} (h : fn.results = #[.cell p ty, .tmp q]) (tmps : Array Value) (w : World) (g : Nat) (t : TypeId) (cs : Array Value) (fr : Nat × Nat) (d : TypeDesc)
    (hp : tmps.getD p undef = .pointer (some ⟨g, 0, none⟩)) (hg : w.heap[g]? = some (.cells cs t fr))
    (hu : P.underlying ty = some d) (hd : (match d with | .struct _ | .array _ _ => true | _ => false) = true) (hi : (P.info? ty).map (·.size) = some cs.size) (v : Value) (hv : tmps.getD q undef = v) :
    (results fn tmps).run P w = .ok (.tuple #[.agg cs, v]) w := by
  have hp' : tmps[p]?.getD undef = .pointer (some ⟨g, 0, none⟩) := by simpa using hp
  have hv' : tmps[q]?.getD undef = v := by simpa using hv
  simp [results, h, hp', hv', asAddr, run_loadVar_row w g t ty cs fr d hg hu hd hi]
theorem wpList_copy_y {P : Program} {ops : Array Oper} {rest : List Oper} {o : Oper} {a : Act} {w : World} {Q : Exit → Act → World → Prop} (hgd : o.guard = none) (d s : Operand) (dT sT : TypeId)
    (ho : o.op = .call { callee := .builtin .copy, args := #[d, s], argTypes := #[dT, sT] }) (elem : TypeId) (hu : P.underlying dT = some (.slice elem)) (hsz : (P.info? elem).map (·.size) = some 1)
    (g off dLen dCap : Nat) (ad : Addr) (sLen sCap : Nat) (hd : a.eval d = .slice (some ⟨g, off, none⟩) dLen dCap) (hs : a.eval s = .slice (some ad) sLen sCap)
    (cur : List Value) (t : TypeId) (hg : w.heap[g]? = some (.cells cur.toArray t (0, 0))) (cs : List Value) (hn : cs.length = Nat.min sLen dLen)
    (hsrc : ∀ j v, cs[j]? = some v → w.cell? (ad.add j) = some v) (hfit : off + cs.length ≤ cur.length) (h1 : ∀ v ∈ cs, v.oneCell' = true)
    (h : wpList P ops Q rest (a.put o.dst (goInt cs.length)) (w.setRow g (List.take off cur ++ (cs ++ List.drop (off + cs.length) cur)).toArray)) : wpList P ops Q (o :: rest) a w := by
  refine wpList_plain hgd fun K hK => ?_
  have hrun := run_copy_row (P := P) w dT sT o.type elem g off dLen dCap ad sLen sCap cur.toArray t cs hu hsz hg hn hsrc (by simpa using hfit) h1
  unfold Oper.wp
  simp [execOp, ho, resolve, invoke, builtin, hd, hs, hrun, Result.andThen]
  exact hK _ _ h
theorem wpList_load_guarded {P : Program} {ops : Array Oper} {rest : List Oper} {o : Oper} {a : Act} {w : World} {Q : Exit → Act → World → Prop} (hw : Region.wanted o (yielded ops a.tmps) = true) (ty : TypeId) (x : Operand) (ho : o.op = .load ty x)
    (g : Nat) (hx : a.eval x = .pointer (some ⟨g, 0, none⟩)) (t : TypeId) (cs : Array Value) (fr : Nat × Nat) (d : TypeDesc) (hg : w.heap[g]? = some (.cells cs t fr))
    (hu : P.underlying ty = some d) (hd : (match d with | .struct _ | .array _ _ => true | _ => false) = true) (hi : (P.info? ty).map (·.size) = some cs.size)
    (h : wpList P ops Q rest (a.put o.dst (.agg cs)) w) : wpList P ops Q (o :: rest) a w :=
  wpList_step fun _ hK => by rw [if_pos hw]; exact wp_load_row ty x ho g hx t cs fr d hg hu hd hi (hK _ _ h)
theorem slice_u12 (g : Nat) (W : World) : (Instr.sliceAt 29 (.pointer (some ⟨g, 0, none⟩)) none none none).run Try.prog W = .ok (.slice (some ⟨g, 0, none⟩) 12 12) W := by
  obtain ⟨i0, hi0, _⟩ := Option.map_eq_some_iff.1 yone
  simp [Instr.sliceAt, run_underlying Try.underlying29, Instr.sureAddr, Instr.sliceBounds, sizeOf, typeInfo, hi0, Addr.add_mid]
theorem slice_b12 (g : Nat) (W : World) : (Instr.sliceAt 55 (.pointer (some ⟨g, 0, none⟩)) (some (.int .i64 12)) none none).run Try.prog W = .ok (.slice (some ⟨g, 12, none⟩) 4 4) W := slice_block g 12 (by omega) W

set_option maxRecDepth 100000 in
set_option maxHeartbeats 1600000 in
theorem clo_any (k m : List (BitVec 8)) (X Y x : Nat) (w : World) (hk : k.length = 32) (hm : m.length = 12) (hx : x < 256) (hX : ArrY w X 22 k) (hY : ArrY w Y 29 m) :
    Calls Try.prog 20 #[.int .u8 (x : Int), .pointer (some ⟨Y, 0, none⟩), .pointer (some ⟨X, 0, none⟩)] w fun e w' => e = .returned (.tuple #[.agg (yvs (sealB (keysL k) (m ++ beY 4 x))), .bool true]) ∧ Below w.heap.size w w' := by
  have HT := Lib.hid (block_put m hm x)
  have hbl : (m ++ beY 4 x).length = 16 := by simp [beY_length, hm]
  have hTL := keysL_length k hk
  have hse := fun w => seal_any k (m ++ beY 4 x) w hk hbl
  have hst := fun w => stream_ok k m (16 * x) 16 w hk hm (by omega) (by omega)
  rw [strL_block _ _ hTL] at hst
  have hfl := sealB_length (keysL k) (m ++ beY 4 x) hTL
  have hpt := fun w => put_ok (x : Int) 4 w (by omega) (by omega) (by omega)
  rw [← beY_put] at hpt
  have h4l := beY_length 4 x
  generalize sealB (keysL k) (m ++ beY 4 x) = F at *
  have HSE := Lib.hid hse
  have HST := Lib.hid (show ∀ w : World, Calls Try.prog 13 #[.agg (yvs k), .agg (yvs m), .int .i64 (16 * (x : Int)), .int .i64 16] w fun e w' => e = .returned (.tuple #[.slice (some ⟨w.heap.size + 1 + 1, 0, none⟩) 16 16, .int .i64 0]) ∧ ArrY w' (w.heap.size + 1 + 1) 5 F ∧ Below w.heap.size w w' from fun w => by have h := hst w; rw [show ((16 * x : Nat) : Int) = 16 * (x : Int) by omega] at h; exact h)
  have HPT := Lib.hid hpt
  have H4L := Lib.hid h4l
  have HBL := Lib.hid hbl
  have HFL := Lib.hid hfl
  have SF := Lib.hid (size_block F hfl)
  have IF := Lib.hid (show (Try.prog.info? 55).map (·.size) = some (yvs F).toList.length by rw [Array.length_toList]; exact size_block F hfl)
  have EF := Lib.hid (show (yvs (zeroY 16)).size = (yvs F).size by rw [yvs_size, yvs_size, hfl]; simp [zeroY])
  have SB := Lib.hid (size_block _ hbl)
  have SK := Lib.hid (size_k32 k hk)
  have SM := Lib.hid (size_n12 m hm)
  have HML := Lib.hid hm
  have H0 := Lib.hid (And.intro hX hY)
  have xI : (x : Int) < 256 := by omega
  have hs1 := slice_b16 (w.heap.size + 1)
  have hs2 := slice_u12 Y
  generalize beY 4 x = B4 at *
  generalize m ++ B4 = MB at *
  clear hse hst hpt hk hm hx hX hY hTL hfl hbl h4l
  go_enter Try.func20, Try.ntmps20
  go_upto_region 2 with fail
  have htwo := ytwo w (.cells (yvs (zeroY 16)) 55) (.cells (yvs (zeroY 16)) 55)
  generalize hW0 : World.alloc (World.alloc w _) _ = W0
  have h0 : ArrY W0 w.heap.size 55 (zeroY 16) ∧ ArrY W0 (w.heap.size + 1) 55 (zeroY 16) ∧ Below w.heap.size w W0 := by
    rw [← hW0]; exact ⟨htwo.1, htwo.2.1, htwo.2.2.2⟩
  have H1 := Lib.hid h0
  have HK0 := Lib.hid (And.intro (H0.out.1.below h0.2.2 (zlt H0.out.1)) (H0.out.2.below h0.2.2 (zlt H0.out.2)))
  have HXY := Lib.hid (And.intro (zlt H0.out.1) (zlt H0.out.2))
  have HA0 := Lib.hid (show W0.drew.heap[w.heap.size + 1]? = some (.cells (yvs (zeroY 16)).toList.toArray 55 (0, 0)) from h0.2.1)
  have HRG := Lib.hid (show ∀ j v, (yvs m).toList[j]? = some v → W0.drew.cell? ((⟨Y, 0, none⟩ : Addr).add j) = some v from fun j v hv => by rw [Addr.add_mid]; exact HK0.out.2.all j v hv)
  have HCP := Lib.hid (show (yvs m).toList.length = Nat.min 12 16 ∧ 0 + (yvs m).toList.length ≤ (yvs (zeroY 16)).toList.length ∧ ∀ v ∈ (yvs m).toList, v.oneCell' = true from
    ⟨by rw [Array.length_toList, yvs_size, HML.out]; rfl, by rw [Array.length_toList, Array.length_toList, yvs_size, yvs_size, HML.out]; simp [zeroY], fun v hv => Array.all_eq_true_iff_forall_mem.1 (yvs_one m) v (by simpa using hv)⟩)
  clear htwo hW0 h0
  go_region_held3 (fun _ => True) (exact trivial)
    ((refine ystep_copy rfl (.tmp 12) (.tmp 13) 32 32 (by rfl) 5 Try.underlying32 yone (w.heap.size + 1) 0 16 16 ⟨Y, 0, none⟩ 12 12 (by rfl) (by rfl) (yvs (zeroY 16)).toList 55 HA0.out (yvs m).toList HCP.out.1 HRG.out HCP.out.2.1 HCP.out.2.2 ?_))
  rw [yvs_putL]
  clear hs1 hs2
  go_upto_region 3 with fail
  generalize hW1 : World.setRow _ (w.heap.size + 1) _ = W1
  have h1 : ArrY W1 X 22 k ∧ ArrY W1 Y 29 m ∧ ArrY W1 w.heap.size 55 (zeroY 16) ∧ ArrY W1 (w.heap.size + 1) 55 (putL (zeroY 16) 0 m) ∧ Below w.heap.size w W1 := by
    have hxy := HXY.out
    rw [← hW1]
    exact ⟨(setRow_other _ _ _ _ (by omega)).trans HK0.out.1, (setRow_other _ _ _ _ (by omega)).trans HK0.out.2, (setRow_other _ _ _ _ (by omega)).trans H1.out.1, setRow_heap _ _ _ _ _ _ HA0.out, ybelow_row H1.out.2.2.drew (by omega) _⟩
  have H2 := Lib.hid h1
  clear hW1 h1 H1 HA0 HRG HCP HK0
  go_wp2_with fail
  refine (HPT.out _).mono ?_
  rintro e w3 ⟨rfl, ho3, hb3⟩
  have B3 := BS.of_own ho3 (by rw [List.length_map]; exact H4L.out) (byt_yv _)
  have HG3 := Lib.hid (show ∀ j v, (yvs B4).toList[j]? = some v → w3.cell? ((⟨W1.heap.size, 0, none⟩ : Addr).add j) = some v from fun j v hv => by
    have hj : j < B4.length := by
      have := (List.getElem?_eq_some_iff.1 hv).1
      rwa [Array.length_toList, yvs_size] at this
    rw [Addr.add_mid, Nat.zero_add, ho3.cellAt j (by have := H4L.out; omega)]
    simpa [yvs] using hv)
  have HZ3 := Lib.hid (show ArrY w3 X 22 k ∧ ArrY w3 Y 29 m ∧ ArrY w3 w.heap.size 55 (zeroY 16) ∧ ArrY w3 (w.heap.size + 1) 55 (putL (zeroY 16) 0 m) ∧ Below w.heap.size w w3 from
    ⟨H2.out.1.below hb3 (zlt H2.out.1), H2.out.2.1.below hb3 (zlt H2.out.2.1), H2.out.2.2.1.below hb3 (zlt H2.out.2.2.1), H2.out.2.2.2.1.below hb3 (zlt H2.out.2.2.2.1), H2.out.2.2.2.2.trans (hb3.mono H2.out.2.2.2.2.size)⟩)
  have HCP := Lib.hid (show (yvs B4).toList.length = Nat.min 4 4 ∧ 12 + (yvs B4).toList.length ≤ (yvs (putL (zeroY 16) 0 m)).toList.length ∧ ∀ v ∈ (yvs B4).toList, v.oneCell' = true from
    ⟨by rw [Array.length_toList, yvs_size, H4L.out]; rfl, by rw [Array.length_toList, Array.length_toList, yvs_size, yvs_size, H4L.out, putL_length _ _ _ (by rw [HML.out]; simp [zeroY])]; simp [zeroY], fun v hv => Array.all_eq_true_iff_forall_mem.1 (yvs_one B4) v (by simpa using hv)⟩)
  have HA3 := Lib.hid (show w3.heap[w.heap.size + 1]? = some (.cells (yvs (putL (zeroY 16) 0 m)).toList.toArray 55 (0, 0)) from HZ3.out.2.2.2.1)
  clear ho3 hb3 B3 H2
  have hs3 := slice_b12 (w.heap.size + 1)
  go_upto_region 5 with (first
    | (refine wpList_copy_y (o := ⟨some 23, _, _, _, _, _⟩) rfl (.tmp 21) (.tmp 22) 32 32 (by rfl) 5 Try.underlying32 yone (w.heap.size + 1) 12 4 4 ⟨W1.heap.size, 0, none⟩ 4 4 (by rfl) (by rfl) (yvs (putL (zeroY 16) 0 m)).toList 55 HA3.out (yvs B4).toList HCP.out.1 HG3.out HCP.out.2.1 HCP.out.2.2 ?_))
  rw [yvs_putL, HT.out]
  clear hs3
  generalize hW4 : World.setRow _ (w.heap.size + 1) _ = W4
  have h4 : W4.heap[X]? = some (.cells (yvs k) 22 (0, 0)) ∧ W4.heap[Y]? = some (.cells (yvs m) 29 (0, 0)) ∧ ArrY W4 w.heap.size 55 (zeroY 16) ∧ W4.heap[w.heap.size + 1]? = some (.cells (yvs MB) 55 (0, 0)) ∧ Below w.heap.size w W4 := by
    have hxy := HXY.out
    rw [← hW4]
    exact ⟨(setRow_other _ _ _ _ (by omega)).trans HZ3.out.1, (setRow_other _ _ _ _ (by omega)).trans HZ3.out.2.1, (setRow_other _ _ _ _ (by omega)).trans HZ3.out.2.2.1, setRow_heap _ _ _ _ _ _ HA3.out, ybelow_row HZ3.out.2.2.2.2 (by omega) _⟩
  have H4 := Lib.hid h4
  clear hW4 h4 HZ3 HA3 HCP HG3
  go_wp2_with (first
    | (with_reducible refine wpList_load_row (o := ⟨some 24, _, _, _, _, _⟩) rfl 22 _ rfl X rfl 22 (yvs k) (0, 0) _ H4.out.1 Try.underlying22 rfl SK.out ?_)
    | (with_reducible refine wpList_load_row (o := ⟨some 25, _, _, _, _, _⟩) rfl 55 _ rfl (w.heap.size + 1) rfl 55 (yvs MB) (0, 0) _ H4.out.2.2.2.1 Try.underlying55 rfl SB.out ?_))
  refine (HSE.out _).mono ?_
  rintro e w5 ⟨rfl, hb5⟩
  have H5 := Lib.hid (show ArrY w5 X 22 k ∧ ArrY w5 Y 29 m ∧ ArrY w5 w.heap.size 55 (zeroY 16) ∧ Below w.heap.size w w5 from
    ⟨(show ArrY W4 X _ k from H4.out.1).below hb5 (zlt (show ArrY W4 X _ k from H4.out.1)), (show ArrY W4 Y _ m from H4.out.2.1).below hb5 (zlt (show ArrY W4 Y _ m from H4.out.2.1)), H4.out.2.2.1.below hb5 (zlt H4.out.2.2.1), H4.out.2.2.2.2.trans (hb5.mono H4.out.2.2.2.2.size)⟩)
  clear hb5 H4
  go_upto_region 6 with (first
    | (with_reducible refine wpList_store_row (o := ⟨none, .store _ (.tmp 9) _, _, _, _, _⟩) rfl 55 _ _ rfl w5.heap.size (yvs F) rfl rfl 55 (yvs (zeroY 16)) (heap_alloc_new w5 _) SF.out EF.out (yvs_one _) ?_))
  generalize hW6 : World.setRow _ w5.heap.size _ = W6
  have h6 : W6.heap[X]? = some (.cells (yvs k) 22 (0, 0)) ∧ W6.heap[Y]? = some (.cells (yvs m) 29 (0, 0)) ∧ ArrY W6 w.heap.size 55 (zeroY 16) ∧ ArrY W6 w5.heap.size 55 F ∧ Below w.heap.size w W6 ∧ w.heap.size < w5.heap.size := by
    obtain ⟨e1, e2, e3⟩ := ygen_row (w := w5) (old := yvs (zeroY 16)) (cs := yvs F) (T := 55)
    rw [← hW6]
    exact ⟨H5.out.1.below e3 (zlt H5.out.1), H5.out.2.1.below e3 (zlt H5.out.2.1), H5.out.2.2.1.below e3 (zlt H5.out.2.2.1), e1, H5.out.2.2.2.trans (e3.mono H5.out.2.2.2.size), zlt H5.out.2.2.1⟩
  have H6 := Lib.hid h6
  clear hW6 h6 H5
  generalize w5.heap.size = P9 at *
  go_wp2_with (first
    | (with_reducible refine wpList_load_row (o := ⟨some 28, _, _, _, _, _⟩) rfl 22 _ rfl X rfl 22 (yvs k) (0, 0) _ H6.out.1 Try.underlying22 rfl SK.out ?_)
    | (with_reducible refine wpList_load_row (o := ⟨some 29, _, _, _, _, _⟩) rfl 29 _ rfl Y rfl 29 (yvs m) (0, 0) _ H6.out.2.1 Try.underlying29 rfl SM.out ?_))
  refine (HST.out _).mono ?_
  rintro e w7 ⟨rfl, hA7, hb7⟩
  generalize W6.heap.size + 1 + 1 = PS at *
  have HR7 := Lib.hid (show w7.heap[w.heap.size]? = some (.cells (yvs (zeroY 16)) 55 (0, 0)) from H6.out.2.2.1.below hb7 (zlt H6.out.2.2.1))
  have HP9 := Lib.hid (show ArrY w7 P9 55 F from H6.out.2.2.2.1.below hb7 (zlt H6.out.2.2.2.1))
  have HB7 := Lib.hid (H6.out.2.2.2.2.1.trans (hb7.mono H6.out.2.2.2.2.1.size))
  have HNE := Lib.hid (show P9 ≠ w.heap.size by have := H6.out.2.2.2.2.2; omega)
  have HSM := Lib.hid (same_eq w7.drew _ _ _ (BS.of_arr0 (n := 16) (cap := 16) (show ArrY w7.drew PS 5 F from hA7) HFL.out) (BS.of_arr0 (n := 16) (cap := 16) (show ArrY w7.drew P9 55 F from HP9.out) HFL.out))
  have HS7 := Lib.hid (show ∀ W, Below w7.heap.size w7 W → W.rangeAt P9 0 (yvs F).toList from fun W hW => (HP9.out.below hW (zlt HP9.out)).all)
  have hsl9 := slice_b16 P9
  clear hA7 hb7 H6
  go_upto_region 7 with fail
  try simp only [Act.put]
  refine wp_region_noPanic ?_
  refine wp_region_held_drew (S := fun W => W.rangeAt P9 0 (yvs F).toList) (by kernel_rfl) (HS7.out _ (Below.refl _ w7).drew) (fun hHeld => ?_)
  refine wpAnyH_take (i := 0) (oi := ⟨some 36, _, _, _, _, _⟩) rfl (by kernel_rfl) (by decide +kernel) (by decide +kernel) (fun _ _ _ h => h) (yieldsIf_load_mid (by rfl) _ _ rfl (P9) (0) rfl (yvs F).toList _ (fun w' h => h) Try.underlying55 rfl IF.out) (by assumption) ?_
  try simp only [Act.put, List.setIfInBounds_toArray, List.set_cons_zero, List.set_cons_succ, Array.toArray_toList]
  refine wpAnyH_take (i := 1) (oi := ⟨some 37, _, _, _, _, _⟩) (v := ?_) rfl (by kernel_rfl) (by decide +kernel) (by decide +kernel) (fun _ _ _ h => h) (Or.inl ⟨by rfl, ?_⟩) (by assumption) ?_
  rotate_left 1
  · (intro w' hSw; go_simp; try with_reducible rfl)
  try simp only [Act.put, List.setIfInBounds_toArray, List.set_cons_zero, List.set_cons_succ]
  refine wpAnyH_take (i := 2) (oi := ⟨some 38, _, _, _, _, _⟩) (v := ?_) rfl (by kernel_rfl) (by decide +kernel) (by decide +kernel) (fun _ _ _ h => h) (Or.inl ⟨by rfl, ?_⟩) (by assumption) ?_
  rotate_left 1
  · (intro w' hSw; go_simp; try with_reducible rfl)
  try simp only [Act.put, List.setIfInBounds_toArray, List.set_cons_zero, List.set_cons_succ]
  refine wpAnyH_take (i := 3) (oi := ⟨some 39, _, _, _, _, _⟩) (v := ?_) rfl (by kernel_rfl) (by decide +kernel) (by decide +kernel) (fun _ _ _ h => h) (Or.inl ⟨by rfl, ?_⟩) (by assumption) ?_
  rotate_left 1
  · (intro w' hSw; go_simp; try with_reducible rfl)
  try simp only [Act.put, List.setIfInBounds_toArray, List.set_cons_zero, List.set_cons_succ]
  refine wpAnyH_take (i := 4) (oi := ⟨some 40, _, _, _, _, _⟩) (v := ?_) rfl (by kernel_rfl) (by decide +kernel) (by decide +kernel) (fun _ _ _ h => h) (Or.inl ⟨by rfl, ?_⟩) (by assumption) ?_
  rotate_left 1
  · (intro w' hSw; go_simp; try with_reducible rfl)
  try simp only [Act.put, List.setIfInBounds_toArray, List.set_cons_zero, List.set_cons_succ]
  refine wpAnyH_take (i := 5) (oi := ⟨some 41, _, _, _, _, _⟩) (v := ?_) rfl (by kernel_rfl) (by decide +kernel) (by decide +kernel) (fun _ _ _ h => h) (Or.inl ⟨by rfl, ?_⟩) (by assumption) ?_
  rotate_left 1
  · (intro w' hSw; go_simp; try with_reducible rfl)
  try simp only [Act.put, List.setIfInBounds_toArray, List.set_cons_zero, List.set_cons_succ]
  refine wpAnyH_take (i := 6) (oi := ⟨some 42, _, _, _, _, _⟩) (v := ?_) rfl (by kernel_rfl) (by decide +kernel) (by decide +kernel) (fun _ _ _ h => h) (Or.inl ⟨by rfl, ?_⟩) (by assumption) ?_
  rotate_left 1
  · (intro w' hSw; go_simp; try with_reducible rfl)
  try simp only [Act.put, List.setIfInBounds_toArray, List.set_cons_zero, List.set_cons_succ]
  refine wpAnyH_take (i := 7) (oi := ⟨some 43, _, _, _, _, _⟩) (v := ?_) rfl (by kernel_rfl) (by decide +kernel) (by decide +kernel) (fun _ _ _ h => h) (Or.inl ⟨by rfl, ?_⟩) (by assumption) ?_
  rotate_left 1
  · (intro w' hSw; go_simp; try with_reducible rfl)
  try simp only [Act.put, List.setIfInBounds_toArray, List.set_cons_zero, List.set_cons_succ]
  refine wpAnyH_take (i := 8) (oi := ⟨some 44, _, _, _, _, _⟩) (v := ?_) rfl (by kernel_rfl) (by decide +kernel) (by decide +kernel) (fun _ _ _ h => h) (Or.inl ⟨by rfl, ?_⟩) (by assumption) ?_
  rotate_left 1
  · (intro w' hSw; go_simp; try with_reducible rfl)
  try simp only [Act.put, List.setIfInBounds_toArray, List.set_cons_zero, List.set_cons_succ]
  refine wpAnyH_take (i := 9) (oi := ⟨some 45, _, _, _, _, _⟩) (v := ?_) rfl (by kernel_rfl) (by decide +kernel) (by decide +kernel) (fun _ _ _ h => h) (Or.inl ⟨by rfl, ?_⟩) (by assumption) ?_
  rotate_left 1
  · (intro w' hSw; go_simp; try with_reducible rfl)
  try simp only [Act.put, List.setIfInBounds_toArray, List.set_cons_zero, List.set_cons_succ]
  clear hHeld hsl9
  refine wpAnyH_ready (rs := [10]) (by decide +kernel) (by simp) ?_
  refine AllReadyH.cons rfl (fun K hK => ?_) AllReadyH.nil
  go_simp
  go_at_call 17
  refine (HSM.out).mono ?_
  rintro e w8 ⟨rfl, rfl⟩
  go_wp2_with fail
  refine hK.out _ _ (HS7.out _ (Below.refl _ w7).drew) (fun hHeld => ?_)
  clear hK K
  try simp only [Act.put, List.setIfInBounds_toArray, List.set_cons_zero, List.set_cons_succ]
  refine wpAnyH_take (i := 11) (oi := ⟨some 47, _, _, _, _, _⟩) (v := ?_) rfl (by kernel_rfl) (by decide +kernel) (by decide +kernel) (fun _ _ _ h => h) (Or.inl ⟨by rfl, ?_⟩) (by assumption) ?_
  rotate_left 1
  · (intro w' hSw; go_simp; try with_reducible rfl)
  try simp only [Act.put, List.setIfInBounds_toArray, List.set_cons_zero, List.set_cons_succ]
  clear hHeld
  refine wpAnyH_ready (rs := [12]) (by decide +kernel) (by simp) ?_
  refine AllReadyH.cons rfl (fun K hK => ?_) AllReadyH.nil
  rw [if_pos (by kernel_rfl)]
  refine wp_store_row (o := ⟨none, .store _ (.tmp 4) _, _, _, _, _⟩) 55 _ _ rfl (w.heap.size) (yvs F) rfl rfl 55 (yvs (zeroY 16)) (show w7.drew.heap[w.heap.size]? = _ from HR7.out) SF.out EF.out (yvs_one _) ?_
  refine hK.out _ _ (show (w7.drew.setRow w.heap.size (yvs F)).rangeAt P9 0 (yvs F).toList from ArrY.all (t := 55) ((setRow_other _ _ _ _ HNE.out).trans HP9.out)) (fun hHeld => ?_)
  clear hK K
  simp only [Act.put]
  refine wpAnyH_take (i := 13) (oi := ⟨some 5, _, _, _, _, _⟩) (v := ?_) rfl (by kernel_rfl) (by decide +kernel) (by decide +kernel) (fun _ _ _ h => h) (Or.inl ⟨by rfl, ?_⟩) (by assumption) ?_
  rotate_left 1
  · (intro w' hSw; go_simp; try with_reducible rfl)
  try simp only [Act.put, List.setIfInBounds_toArray, List.set_cons_zero, List.set_cons_succ]
  clear hHeld
  refine wpAnyH_done (by decide +kernel) ?_ _
  refine NoPanic.normal ?_
  go_wp2_with fail
  refine bodyPost_ret (v := .tuple #[.agg (yvs F), .bool true]) (results_cell_two Try.results20 _ _ w.heap.size 55 (yvs F) (0, 0) _ rfl (setRow_heap _ w.heap.size _ (yvs F) _ _ (show w7.drew.heap[w.heap.size]? = _ from HR7.out)) Try.underlying55 rfl SF.out _ (by simp)) rfl ⟨rfl, ?_⟩
  exact ybelow_row HB7.out.drew (Nat.le_refl _) _
end Go.Proofs.Ytajfooefofafmaa
