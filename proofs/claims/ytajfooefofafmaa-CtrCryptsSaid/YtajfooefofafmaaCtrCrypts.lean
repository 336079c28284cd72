/-
  'CtrCrypts' returns true at every input, and each argument reads behind the call as it read before. Conditions: none.
-/
import Derived.Test.YtajfooefofafmaaRows
import Derived.Test.YtajfooefofafmaaYLaid
import Derived.Test.YtajfooefofafmaaCOpen
import Derived.Test.YtajfooefofafmaaCRef3
import Derived.Test.YtajfooefofafmaaRTable
import Derived.Deep.CutRange
namespace Go.Proofs.Ytajfooefofafmaa.ctrCrypts
open Go.ChangeShapes Go.WideShapes Go.ChangeAt Go.RowKit
set_option linter.unusedVariables false

/-- A slice that reads as bytes, and an error. -/
def Gives (w : World) (L : List (BitVec 8)) (err : Int) (e : Ending) (w' : World) : Prop := ∃ v, e = .returned (.tuple #[v, .int .i64 err]) ∧ BS w' v (L.map yv) ∧ Below w.heap.size w w'
theorem bs_nil (w : World) : BS w (.slice none 0 0) (([] : List (BitVec 8)).map yv) := ⟨none, 0, rfl, by intro z hz; simp at hz, fun _ => rfl, .inl rfl⟩
/-- Whatever bytes: the code's and the document's, enciphered, or the error, are the same. -/
theorem crypts (k n l : List (BitVec 8)) (hk : k.length = 32) (hn : n.length = 12) (a : Option Addr) (len cap : Nat) (hl : l.length = len) (hle : len ≤ 140737488351232) :
    ∃ L err, (∀ w, BS w (.slice a len cap) (l.map yv) → Calls Try.prog 18 #[.agg (yvs k), .agg (yvs n), .slice a len cap] w (Gives w L err)) ∧
      (∀ w, BS w (.slice a len cap) (l.map yv) → Calls Try.prog 19 #[.agg (yvs boxesL), .agg (yvs k), .agg (yvs n), .slice a len cap] w (Gives w L err)) := by
  by_cases h : 65536 < len
  · exact ⟨[], 2, fun w _ => (crypt_bad k n a len cap w h hle hk hn).mono fun e w' ⟨h1, h2⟩ => ⟨_, h1, bs_nil _, h2⟩, fun w _ => (rcrypt_bad boxesL k n a len cap w h hle boxes_length hk hn).mono fun e w' ⟨h1, h2⟩ => ⟨_, h1, bs_nil _, h2⟩⟩
  · exact ⟨sumB l (strL (keysL k) n 0 len), 0, fun w hB => (crypt_ok k n l a len cap w hB hl (by omega) hk hn).mono fun e w' ⟨h1, h2, h3⟩ => ⟨_, h1, BS.of_arr0 h2 (sumB_length _ _ _ hl (strL_length _ _ _ _)), h3⟩,
      fun w hB => (rcrypt_ok k n l a len cap w hB hl (by omega) hk hn).mono fun e w' ⟨a', cap', h1, h2, _, h3⟩ => ⟨_, h1, h2, h3⟩⟩

set_option maxRecDepth 100000 in
set_option maxHeartbeats 3200000 in
theorem walk (w : World) (x0 : List (BitVec 8)) (hx0 : x0.length = 32) (x1 : List (BitVec 8)) (hx1 : x1.length = 12) (a2 : Option Addr) (len2 cap2 : Nat) (x2 : List (BitVec 8)) (e2 : x2.length = len2) (b2 : BS w (.slice a2 len2 cap2) (x2.map yv)) (m2 : len2 ≤ cap2) (n2 : cap2 ≤ 140737488351232) :
    Calls Try.prog 4 #[.agg (yvs x0), .agg (yvs x1), .slice a2 len2 cap2] w fun e w' => e = .returned (.bool true) ∧ Below w.heap.size w w' := by
  have H32 := Lib.hid hx0
  have H12 := Lib.hid hx1
  have HE := Lib.hid e2
  have HB0 := Lib.hid b2
  have HM := Lib.hid (And.intro m2 n2)
  have Sk := Lib.hid (size_k32 x0 hx0)
  have Sm := Lib.hid (size_n12 x1 hx1)
  have Ik := Lib.hid (show (Try.prog.info? 22).map (·.size) = some (yvs x0).toList.length by rw [Array.length_toList]; exact size_k32 x0 hx0)
  have Im := Lib.hid (show (Try.prog.info? 29).map (·.size) = some (yvs x1).toList.length by rw [Array.length_toList]; exact size_n12 x1 hx1)
  obtain ⟨L, err, hc1, hc2⟩ := crypts x0 x1 x2 hx0 hx1 a2 len2 cap2 e2 (by omega)
  obtain ⟨BX, hBX⟩ : ∃ z, boxesL = z := ⟨_, rfl⟩
  have htb := fun w => rtable_any w
  rw [hBX] at hc2 htb
  have HC1 := Lib.hid hc1
  have HC2 := Lib.hid hc2
  have HTB := Lib.hid htb
  have lI : (len2 : Int) ≤ 140737488351232 := by omega
  clear hc1 hc2 htb hBX hx0 hx1 e2 b2 m2 n2
  go_enter Try.func4, Try.ntmps4
  go_wp2_with fail
  obtain ⟨h0, h1, hsz, hbel⟩ := ytwo w (.cells (yvs x0) 22) (.cells (yvs x1) 29)
  generalize (w.alloc (.cells (yvs x0) 22)).alloc (.cells (yvs x1) 29) = W0 at *
  refine (alive5_any _).mono ?_
  rintro e w1 ⟨rfl, hb1⟩
  have H1 := Lib.hid (show ArrY w1 w.heap.size 22 x0 ∧ ArrY w1 (w.heap.size + 1) 29 x1 ∧ Below w.heap.size w w1 from
    ⟨(show ArrY W0 _ _ _ from h0).below hb1 (by omega), (show ArrY W0 _ _ _ from h1).below hb1 (by omega), hbel.trans (hb1.mono (by omega))⟩)
  clear h0 h1 hsz hbel hb1
  by_cases h60 : 100 < len2 ∧ len2 ≤ 65536
  · have y60 : (100 : Int) < (len2 : Int) := by omega
    have y65 : (len2 : Int) ≤ 65536 := by omega
    clear h60
    go_wp2_with fail
    go_ret
    exact ⟨rfl, H1.out.2.2⟩
  go_upto_region 3 with fail
  go_cut [20] from 13 (fun v20 wx => v20 = .bool false ∧ Below w1.heap.size w1 wx)
  case first =>
    by_cases y60 : (100 : Int) < (len2 : Int)
    · have y65 : (65536 : Int) < (len2 : Int) := by omega
      clear h60
      go_wp2_with fail
      go_meet
      case rel => exact ⟨by first | rfl | (simp; omega), Below.refl _ _⟩
    · have y61 : (len2 : Int) ≤ 100 := by omega
      clear h60 y60
      go_wp2_with fail
      go_meet
      case rel => exact ⟨rfl, Below.refl _ _⟩
  case rest =>
    clear h60
    obtain ⟨rfl, hcut⟩ := hcut
    have H2 := Lib.hid (show wc.heap[w.heap.size]? = some (.cells (yvs x0) 22 (0, 0)) ∧ wc.heap[w.heap.size + 1]? = some (.cells (yvs x1) 29 (0, 0)) ∧ Below w.heap.size w wc from ⟨H1.out.1.below hcut (zlt H1.out.1), H1.out.2.1.below hcut (zlt H1.out.2.1), H1.out.2.2.trans (hcut.mono H1.out.2.2.size)⟩)
    have BL2 := Lib.hid (HB0.out.kept H2.out.2.2)
    clear hcut H1
    go_wp2_with (first
      | (with_reducible refine wpList_load_row (o := ⟨some 22, _, _, _, _, _⟩) rfl 22 _ rfl w.heap.size rfl 22 (yvs x0) (0, 0) _ H2.out.1 Try.underlying22 rfl Sk.out ?_)
      | (with_reducible refine wpList_load_row (o := ⟨some 23, _, _, _, _, _⟩) rfl 29 _ rfl (w.heap.size + 1) rfl 29 (yvs x1) (0, 0) _ H2.out.2.1 Try.underlying29 rfl Sm.out ?_))
    refine (HC1.out _ BL2.out).mono ?_
    intro e w5 hg5
    unfold Gives at hg5
    obtain ⟨v5, rfl, B5, hb5⟩ := hg5
    have H5 := Lib.hid (show ArrY w5 w.heap.size 22 x0 ∧ ArrY w5 (w.heap.size + 1) 29 x1 ∧ Below w.heap.size w w5 from
      ⟨(show ArrY wc _ _ x0 from H2.out.1).below hb5 (zlt (show ArrY wc _ _ x0 from H2.out.1)), (show ArrY wc _ _ x1 from H2.out.2.1).below hb5 (zlt (show ArrY wc _ _ x1 from H2.out.2.1)), H2.out.2.2.trans (hb5.mono H2.out.2.2.size)⟩)
    have BL5 := Lib.hid (BL2.out.kept hb5)
    have BV5 := Lib.hid B5
    have HS5 := Lib.hid (show ∀ W, Below w5.heap.size w5 W → W.rangeAt w.heap.size 0 (yvs x0).toList ∧ W.rangeAt (w.heap.size + 1) 0 (yvs x1).toList from fun W hW => ⟨(H5.out.1.below hW (zlt H5.out.1)).all, (H5.out.2.1.below hW (zlt H5.out.2.1)).all⟩)
    clear B5 hb5 H2 BL2
    go_upto_region 6 with fail
    try simp only [Act.put]
    refine wp_region_noPanic ?_
    refine wp_region_held_drew (S := fun W => W.rangeAt w.heap.size 0 (yvs x0).toList ∧ W.rangeAt (w.heap.size + 1) 0 (yvs x1).toList) (by kernel_rfl) (HS5.out _ (Below.refl _ w5).drew) (fun hHeld => ?_)
    refine wpAnyH_take (i := 1) (oi := ⟨some 30, _, _, _, _, _⟩) rfl (by kernel_rfl) (by decide +kernel) (by decide +kernel) (fun _ _ _ h => h) (yieldsIf_load_mid (by rfl) _ _ rfl (w.heap.size) (0) rfl (yvs x0).toList _ (fun w' h => h.1) Try.underlying22 rfl Ik.out) (by assumption) ?_
    try simp only [Act.put, List.setIfInBounds_toArray, List.set_cons_zero, List.set_cons_succ, Array.toArray_toList]
    refine wpAnyH_take (i := 2) (oi := ⟨some 31, _, _, _, _, _⟩) rfl (by kernel_rfl) (by decide +kernel) (by decide +kernel) (fun _ _ _ h => h) (yieldsIf_load_mid (by rfl) _ _ rfl (w.heap.size + 1) (0) rfl (yvs x1).toList _ (fun w' h => h.2) Try.underlying29 rfl Im.out) (by assumption) ?_
    try simp only [Act.put, List.setIfInBounds_toArray, List.set_cons_zero, List.set_cons_succ, Array.toArray_toList]
    refine wpAnyH_take (i := 3) (oi := ⟨some 32, _, _, _, _, _⟩) (v := ?_) rfl (by kernel_rfl) (by decide +kernel) (by decide +kernel) (fun _ _ _ h => h) (Or.inl ⟨by rfl, ?_⟩) (by assumption) ?_
    rotate_left 1
    · (intro w' hSw; go_simp; try with_reducible rfl)
    try simp only [Act.put, List.setIfInBounds_toArray, List.set_cons_zero, List.set_cons_succ]
    clear hHeld
    have HB1 := Lib.hid (Below.refl w5.heap.size w5).drew
    refine wpAnyH_ready (rs := [0]) (by decide +kernel) (by simp) ?_
    refine AllReadyH.cons rfl (fun K hK => ?_) AllReadyH.nil
    go_simp
    go_at_call 15
    refine (HTB.out _).mono ?_
    rintro e wa ⟨rfl, hb⟩
    have HBa := Lib.hid (HB1.out.trans (hb.mono HB1.out.size))
    clear hb
    go_wp2_with fail
    refine hK.out _ _ (HS5.out _ HBa.out) (fun hHeld => ?_)
    clear hK K
    try simp only [Act.put, List.setIfInBounds_toArray, List.set_cons_zero, List.set_cons_succ]
    clear hHeld
    refine wpAnyH_ready (rs := [4]) (by decide +kernel) (by simp) ?_
    refine AllReadyH.cons rfl (fun K hK => ?_) AllReadyH.nil
    go_simp
    go_at_call 19
    refine (HC2.out _ (BL5.out.kept HBa.out)).mono ?_
    intro e w9 hg9
    unfold Gives at hg9
    obtain ⟨v9, rfl, B9, hb⟩ := hg9
    have HB9 := Lib.hid (HBa.out.trans (hb.mono HBa.out.size))
    have BV9 := Lib.hid B9
    clear hb B9
    go_wp2_with fail
    refine hK.out _ _ (HS5.out _ HB9.out) (fun hHeld => ?_)
    clear hK K
    try simp only [Act.put, List.setIfInBounds_toArray, List.set_cons_zero, List.set_cons_succ]
    refine wpAnyH_take (i := 5) (oi := ⟨some 28, _, _, _, _, _⟩) (v := ?_) rfl (by kernel_rfl) (by decide +kernel) (by decide +kernel) (fun _ _ _ h => h) (Or.inl ⟨by rfl, ?_⟩) (by assumption) ?_
    rotate_left 1
    · (intro w' hSw; go_simp; try with_reducible rfl)
    try simp only [Act.put, List.setIfInBounds_toArray, List.set_cons_zero, List.set_cons_succ]
    refine wpAnyH_take (i := 6) (oi := ⟨some 34, _, _, _, _, _⟩) (v := ?_) rfl (by kernel_rfl) (by decide +kernel) (by decide +kernel) (fun _ _ _ h => h) (Or.inl ⟨by rfl, ?_⟩) (by assumption) ?_
    rotate_left 1
    · (intro w' hSw; go_simp; try with_reducible rfl)
    try simp only [Act.put, List.setIfInBounds_toArray, List.set_cons_zero, List.set_cons_succ]
    refine wpAnyH_take (i := 7) (oi := ⟨some 35, _, _, _, _, _⟩) (v := ?_) rfl (by kernel_rfl) (by decide +kernel) (by decide +kernel) (fun _ _ _ h => h) (Or.inl ⟨by rfl, ?_⟩) (by assumption) ?_
    rotate_left 1
    · (intro w' hSw; go_simp; try with_reducible rfl)
    try simp only [Act.put, List.setIfInBounds_toArray, List.set_cons_zero, List.set_cons_succ]
    refine wpAnyH_take (i := 8) (oi := ⟨some 9, _, _, _, _, _⟩) (v := ?_) rfl (by kernel_rfl) (by decide +kernel) (by decide +kernel) (fun _ _ _ h => h) (Or.inl ⟨by rfl, ?_⟩) (by assumption) ?_
    rotate_left 1
    · (intro w' hSw; go_simp; try with_reducible rfl)
    try simp only [Act.put, List.setIfInBounds_toArray, List.set_cons_zero, List.set_cons_succ]
    refine wpAnyH_take (i := 9) (oi := ⟨some 10, _, _, _, _, _⟩) (v := ?_) rfl (by kernel_rfl) (by decide +kernel) (by decide +kernel) (fun _ _ _ h => h) (Or.inl ⟨by rfl, ?_⟩) (by assumption) ?_
    rotate_left 1
    · (intro w' hSw; go_simp; try with_reducible rfl)
    try simp only [Act.put, List.setIfInBounds_toArray, List.set_cons_zero, List.set_cons_succ]
    clear hHeld
    refine wpAnyH_done (by decide +kernel) ?_ _
    refine NoPanic.normal ?_
    have HSM := Lib.hid (same_eq w9 _ _ _ (BV5.out.kept HB9.out) BV9.out)
    have HEND := Lib.hid (H5.out.2.2.trans (HB9.out.mono H5.out.2.2.size))
    go_wp2_with fail
    refine HSM.out.mono ?_
    rintro e w10 ⟨rfl, rfl⟩
    go_wp2_with fail
    go_ret
    exact ⟨by simp, HEND.out⟩
set_option maxRecDepth 100000 in
theorem lifted (os : Os) (started : os.Started) (H : Type) (enc : TypeId × Value → H) :
    ReturnsInHanded {} Try.checked os 4 .any (Rows.ctrCryptsSpec.pre6 enc Try.prog Try.f4 Rows.ctrCryptsRow.domain false) (Rows.ctrCryptsSpec.post enc Try.prog Try.f4 false true false false) := by
  refine returnsInHanded_of_change_sized (C := Try.checked) own started (by kernel_rfl) Try.func4
    (ChangeSpec.witness6 (enc := enc) (C := Try.checked) false ⟨#[], #[.agg (Array.replicate 32 (.int .u8 0)), .agg (Array.replicate 12 (.int .u8 0)), .slice none 0 0], []⟩ 8 (by kernel_rfl) (by kernel_rfl) (by kernel_rfl) (by kernel_rfl)) ?_
  intro W base args ds gs before hval0 hW hcnd hsz0 _
  have hsz : (DataW.weightsEach Try.prog (Try.f4.params.toList ++ Rows.ctrCryptsSpec.plain.varTypes Try.prog) (ds ++ gs)).all (· ≤ reachBytes) = true := hsz0
  clear hsz0
  have hval : ∀ (j : Nat) t v, Try.f4.params[j]? = some t → args[j]? = some v → Value.okWide Try.prog W .any base t v := hval0
  have hW' := hW
  obtain ⟨p, q, hA0, hV, rfl, hfz, hnd⟩ := hW
  have hA : DataW.TrodAll enc Try.prog W 0 (fun _ => true) true Try.f4.params.toList args.toList ds p := hA0
  rw [Try.params4] at hA hval hsz
  obtain ⟨v0, vs0, d0, ds0, p0, q0, hargs, rfl, rfl, h0, r0⟩ := trodAll_cons hA
  obtain ⟨v1, vs1, d1, ds1, p1, q1, rfl, rfl, rfl, h1, r1⟩ := trodAll_cons r0
  obtain ⟨v2, vs2, d2, ds2, p2, q2, rfl, rfl, rfl, h2, r2⟩ := trodAll_cons r1
  obtain ⟨rfl, rfl, rfl⟩ := trodAll_nil r2
  obtain rfl : args = #[v0, v1, v2] := by cases args; simp_all
  obtain ⟨rfl, rfl⟩ := trodVars_none hV
  have k0 := h0
  have lt0 : ∀ x ∈ p0, x.block < W.heap.size := by obtain ⟨m, hm⟩ := k0; exact DataW.trod_lt m _ _ _ hm
  have k1 := h1
  have lt1 : ∀ x ∈ p1, x.block < W.heap.size := by obtain ⟨m, hm⟩ := k1; exact DataW.trod_lt m _ _ _ hm
  have k2 := h2
  have lt2 : ∀ x ∈ p2, x.block < W.heap.size := by obtain ⟨m, hm⟩ := k2; exact DataW.trod_lt m _ _ _ hm
  obtain ⟨x0, rfl, hx0⟩ := open_yrow Try.underlying22 (by kernel_rfl) (by decide) h0
  obtain ⟨x1, rfl, hx1⟩ := open_yrow Try.underlying29 (by kernel_rfl) (by decide) h1
  obtain ⟨a2, len2, cap2, l2, rfl, e2, b2, m2, n2⟩ := open_yslice (j := 2) (hval 2 32 v2 rfl rfl) h2 hsz rfl rfl
  clear hA0 hval0
  simp only [List.append_nil] at hW'
  refine (walk W x0 hx0 x1 hx1 a2 len2 cap2 (toY l2) e2 b2 m2 n2).mono fun e W' ⟨he, bel⟩ => ?_
  subst he
  exact ⟨_, rfl, _, _, _, [], _, [], hW', trodAll_mk1 (shut_bool Try.underlying4 _), (trodAll_cons_mk (Below.trod laidOut (by kernel_rfl) (of_decide_eq_true (by kernel_rfl)) k0 bel lt0) (trodAll_cons_mk (Below.trod laidOut (by kernel_rfl) (of_decide_eq_true (by kernel_rfl)) k1 bel lt1) (trodAll_cons_mk (Below.trod laidOut (by kernel_rfl) (of_decide_eq_true (by kernel_rfl)) k2 bel lt2) trodAll_mk0))), rfl, bel.frame _, fun h => by cases h⟩

theorem over : Rows.ctrCryptsRow.holds Try.pinned (OpenSpec.ofChange Rows.ctrCryptsSpec) :=
  OpenClaim.holds_of_wide 4 Try.f4 rfl rfl rfl rfl rfl rfl rfl ⟨rfl, rfl, rfl, rfl, rfl⟩ rfl rfl rfl rfl rfl (by kernel_rfl) Try.func4 (by kernel_rfl)
    (of_decide_eq_true (by kernel_rfl)) (by unfold Func.isWrapper; first | (rw [if_pos (by decide +kernel)]; kernel_rfl) | (rw [if_neg (by decide +kernel)]; exact ⟨rfl, rfl⟩))
    (fun os started H enc _ => lifted os started H enc)

/-- The statement. -/
theorem proved : Rows.CtrCryptsSaid := over
#print axioms proved
end Go.Proofs.Ytajfooefofafmaa.ctrCrypts
