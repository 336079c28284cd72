/-
  'NodePuts' returns true at every input, and each argument reads behind the call as it read before. Conditions: none.
-/
import Derived.Test.YtcgddhainmnebaaRows
import Derived.Test.YtcgddhainmnebaaAes0
import Derived.Test.YtcgddhainmnebaaRz
import Derived.Test.YtcgddhainmnebaaQy
namespace Go.Proofs.Ytcgddhainmnebaa.nodePuts
open Go.ChangeShapes Go.WideShapes Go.ChangeAt Go.RowKit
set_option linter.unusedVariables false

theorem BS.nil0 (w : World) : BS w (.slice none 0 0) [] := ⟨none, 0, rfl, fun z hz => by simp at hz, fun _ => rfl, .inl rfl⟩

set_option maxRecDepth 100000 in
set_option maxHeartbeats 3200000 in
theorem walk (w : World) (k0 v0 p0 : Value) (n0 : NodeV) (nr0 : NR w k0 v0 p0 n0) (nb0 : NB n0) (k1 v1 p1 : Value) (n1 : NodeV) (nr1 : NR w k1 v1 p1 n1) (nb1 : NB n1) :
    Calls Try.prog 3 #[.agg #[.bool n0.lf, k0, v0, p0], .agg #[.bool n1.lf, k1, v1, p1]] w fun e w' => e = .returned (.bool true) ∧ Below w.heap.size w w' := by
  obtain ⟨wa, wb, hwa, hwb, hs1, hA, hB, hb2, hs2⟩ := two_box w #[.bool n0.lf, k0, v0, p0] #[.bool n1.lf, k1, v1, p1]
  have SE := Lib.hid (size_node n0.lf k0 v0 p0)
  have SF := Lib.hid (size_node n1.lf k1 v1 p1)
  have ra := nr0.below hb2
  have rb := nr1.below hb2
  have HAL := Lib.hid (alive9_any wb)
  have HAT := Lib.hid (fun W (q : Below wb.heap.size wb W) => (q.block w.heap.size (by omega)).trans hA)
  have HBT := Lib.hid (fun W (q : Below wb.heap.size wb W) => (q.block (w.heap.size + 1) (by omega)).trans hB)
  have HBW := Lib.hid (show ∀ W, Below wb.heap.size wb W → Below w.heap.size w W from fun W q => hb2.trans (q.mono hb2.size))
  have HGA := Lib.hid (fun W (b : Below wb.heap.size wb W) => great9_any k0 v0 p0 n0 W (ra.below b) nb0)
  have HGB := Lib.hid (fun W (b : Below wb.heap.size wb W) => great9_any k1 v1 p1 n1 W (rb.below b) nb1)
  have HPT := Lib.hid (fun W (b : Below wb.heap.size wb W) => nput_any k0 v0 p0 n0 W (ra.below b) nb0)
  have HPB := Lib.hid (fun W (b : Below wb.heap.size wb W) => nput_bad k0 v0 p0 n0 W (ra.below b) nb0)
  have HRP := Lib.hid (fun (hf : Few n0) W (b : Below wb.heap.size wb W) => rput9_ok k0 v0 p0 n0 W (ra.below b) nb0 hf)
  have HRB := Lib.hid (fun (hf : Few n0) W (b : Below wb.heap.size wb W) => rput9_bad k0 v0 p0 n0 W (ra.below b) nb0 hf)
  have HSZ := Lib.hid (fun W (b : Below wb.heap.size wb W) => nsize_any k0 v0 p0 n0 W (ra.below b) nb0)
  have HRS := Lib.hid (fun (hf : Few n0) W (b : Below wb.heap.size wb W) => rsize9_any k0 v0 p0 n0 W (ra.below b) nb0 hf)
  have HCK := Lib.hid (fun W (b : Below wb.heap.size wb W) => ncheck_any k0 v0 p0 n0 W (ra.below b) nb0)
  have HRC := Lib.hid (fun (hf : Few n0) W (b : Below wb.heap.size wb W) => rcheck9_any k0 v0 p0 n0 W (ra.below b) nb0 hf)
  have HSM := Lib.hid (fun (hf : Few n0) (hg : Few n1) W (b : Below wb.heap.size wb W) => nsame_any k0 v0 p0 k1 v1 p1 n0 n1 W (ra.below b) (rb.below b) nb0 nb1 (by have := hf.2.2; omega) (by have := hg.2.2; omega))
  have HRM := Lib.hid (fun (hf : Few n0) (hg : Few n1) W (b : Below wb.heap.size wb W) => rsame9_any k0 v0 p0 k1 v1 p1 n0 n1 W (ra.below b) (rb.below b) nb0 nb1 (by have := hf.2.2; omega) (by have := hg.2.2; omega))
  clear nr0 nr1 nb0 nb1 ra rb hA hB hs2
  go_enter Try.func3, Try.ntmps3
  go_upto_region 1 with fail
  try simp only [← hwa, ← hwb]
  clear hwa hwb hs1 hb2
  go_wp2_with fail
  refine HAL.out.mono ?_
  rintro e w2 ⟨rfl, hb2⟩
  have HB2 := Lib.hid hb2
  have HA2 := Lib.hid (HAT.out w2 hb2)
  clear hb2 HAL
  go_wp2_with (first
    | (with_reducible refine wpList_load_row (o := ⟨some 15, _, _, _, _, _⟩) rfl 25 _ rfl w.heap.size rfl 25 _ (0, 0) _ HA2.out Try.underlying25 rfl SE.out ?_))
  refine (HGA.out w2 HB2.out).mono ?_
  rintro e w3 ⟨ga, rfl, hfa, hb3⟩
  have HB3 := Lib.hid (HB2.out.trans (hb3.mono HB2.out.size))
  have HD3 := Lib.hid (HBT.out w3 HB3.out)
  clear hb3 HB2 HA2 HGA
  cases ga with
  | true =>
    go_wp2_with fail
    go_ret
    exact ⟨rfl, HBW.out _ HB3.out⟩
  | false =>
    have HFA := Lib.hid (hfa rfl)
    clear hfa
    go_wp2_with (first
      | (with_reducible refine wpList_load_guarded (o := ⟨some 18, _, _, _, _, _⟩) (by kernel_rfl) 25 _ rfl (w.heap.size + 1) rfl 25 _ (0, 0) _ HD3.out Try.underlying25 rfl SF.out ?_))
    refine (HGB.out w3 HB3.out).mono ?_
    rintro e w4 ⟨gb, rfl, hfb, hb4⟩
    have HB4 := Lib.hid (HB3.out.trans (hb4.mono HB3.out.size))
    have HA4 := Lib.hid (HAT.out w4 HB4.out)
    clear hb4 HB3 HD3 HGB
    cases gb with
    | true =>
      go_wp2_with fail
      go_ret
      exact ⟨rfl, HBW.out _ HB4.out⟩
    | false =>
      have HFB := Lib.hid (hfb rfl)
      clear hfb
      by_cases hck : checkN n0 = 0
      · skip
        have HPC := Lib.hid (HPT.out w4 HB4.out hck)
        have HRC1 := Lib.hid (HRP.out HFA.out)
        have HCK0 := Lib.hid hck
        clear hck HPT HPB HRB
        go_wp2_with (first
          | (with_reducible refine wpList_load_row (o := ⟨some 22, _, _, _, _, _⟩) rfl 25 _ rfl w.heap.size rfl 25 _ (0, 0) _ HA4.out Try.underlying25 rfl SE.out ?_))
        refine HPC.out.mono ?_
        rintro e w5 ⟨a5, c5, rfl, hc5, hx5, hb5⟩
        have HB5 := Lib.hid (HB4.out.trans (hb5.mono HB4.out.size))
        have HA5 := Lib.hid (HAT.out w5 HB5.out)
        have HX5 := Lib.hid hx5
        clear hx5 hb5 hc5 HPC HA4
        go_wp2_with (first
          | (with_reducible refine wpList_load_row (o := ⟨some 27, _, _, _, _, _⟩) rfl 25 _ rfl w.heap.size rfl 25 _ (0, 0) _ HA5.out Try.underlying25 rfl SE.out ?_))
        refine (HRC1.out w5 HB5.out HCK0.out).mono ?_
        rintro e w6 ⟨a6, c6, rfl, hc6, hx6, hb6⟩
        have HB6 := Lib.hid (HB5.out.trans (hb6.mono HB5.out.size))
        have HA6 := Lib.hid (HAT.out w6 HB6.out)
        have HX6 := Lib.hid (HX5.out.kept hb6)
        have HY6 := Lib.hid hx6
        clear hx6 hb6 hc6 HRC1 HRP HA5 HX5 HB5
        go_wp2_with (first
          | (with_reducible refine wpList_load_row (o := ⟨some 32, _, _, _, _, _⟩) rfl 25 _ rfl w.heap.size rfl 25 _ (0, 0) _ HA6.out Try.underlying25 rfl SE.out ?_))
        refine (HSZ.out w6 HB6.out).mono ?_
        rintro e w7 ⟨rfl, hb7⟩
        have HB7 := Lib.hid (HB6.out.trans (hb7.mono HB6.out.size))
        have HA7 := Lib.hid (HAT.out w7 HB7.out)
        have HQ7 := Lib.hid hb7
        clear hb7 HSZ HA6
        go_wp2_with (first
          | (with_reducible refine wpList_load_row (o := ⟨some 37, _, _, _, _, _⟩) rfl 25 _ rfl w.heap.size rfl 25 _ (0, 0) _ HA7.out Try.underlying25 rfl SE.out ?_))
        refine (HRS.out HFA.out w7 HB7.out).mono ?_
        rintro e w8 ⟨rfl, hb8⟩
        have HB8 := Lib.hid (HB7.out.trans (hb8.mono HB7.out.size))
        have HQ8 := Lib.hid (HQ7.out.trans (hb8.mono HQ7.out.size))
        clear hb8 HRS HA7 HB7 HQ7
        have HC2 := Lib.hid (show ∀ p : BelowBy w8, Calls Try.prog 19 _ p.now _ from fun p => HCK.out p.now (HB8.out.trans (p.bel.mono HB8.out.size)))
        have HC3 := Lib.hid (show ∀ p : BelowBy w8, Calls Try.prog 20 _ p.now _ from fun p => HRC.out HFA.out p.now (HB8.out.trans (p.bel.mono HB8.out.size)))
        have HC4 := Lib.hid (show ∀ p : BelowBy w8, Calls Try.prog 21 _ p.now _ from fun p => HSM.out HFA.out HFB.out p.now (HB8.out.trans (p.bel.mono HB8.out.size)))
        have HC5 := Lib.hid (show ∀ p : BelowBy w8, Calls Try.prog 22 _ p.now _ from fun p => HRM.out HFA.out HFB.out p.now (HB8.out.trans (p.bel.mono HB8.out.size)))
        obtain ⟨c0, c1, c2, c3⟩ := node_at (HAT.out w8 HB8.out)
        obtain ⟨d0, d1, d2, d3⟩ := node_at (HBT.out w8 HB8.out)
        have e0 := fun p => by_cell c0 p
        have e1 := fun p => by_cell c1 p
        have e2 := fun p => by_cell c2 p
        have e3 := fun p => by_cell c3 p
        have f0 := fun p => by_cell d0 p
        have f1 := fun p => by_cell d1 p
        have f2 := fun p => by_cell d2 p
        have f3 := fun p => by_cell d3 p
        clear c0 c1 c2 c3 d0 d1 d2 d3 HCK HRC HSM HRM HAT HBT HFA HFB
        obtain ⟨s1, hs1⟩ : ∃ s1, (sizeA n0).1 = s1 := ⟨_, rfl⟩
        obtain ⟨s2, hs2⟩ : ∃ s2, (sizeA n0).2 = s2 := ⟨_, rfl⟩
        try rw [hs1, hs2]
        clear hs1 hs2
        have q1 : (s1 == s1) = true := by simp
        have q2 : (s2 == s2) = true := by simp
        rw [HCK0.out] at HC2 HC3
        have HC1 := Lib.hid (show ∀ p : BelowBy w8, Calls Try.prog 18 _ p.now _ from fun p => same_eq p.now _ _ (secB n0) ((HX6.out.kept HQ8.out).kept p.bel) ((HY6.out.kept HQ8.out).kept p.bel))
        clear HX6 HY6 HQ8
        generalize sameN n0 n1 = sb at *
        cases sb <;>
        · go_upto_region 9 with fail
          refine wp_region_below (by kernel_rfl) (by kernel_rfl) ?_
          repeat (go_big_quiet_step ((first | (go_at_call 18; exact calls_below_same (HC1.out _)) | (go_at_call 19; exact calls_below (HC2.out _)) | (go_at_call 20; exact calls_below (HC3.out _)) | (go_at_call 21; exact calls_below (HC4.out _)) | (go_at_call 22; exact calls_below (HC5.out _)))))
          refine wpQuiet_nil ?_
          intro _ hw'
          obtain ⟨p, hw''⟩ := hw'
          subst hw''
          go_wp2_with fail
          go_ret
          exact ⟨rfl, HBW.out _ (HB8.out.trans (p.bel.mono HB8.out.size))⟩
      · skip
        have HPC := Lib.hid (HPB.out w4 HB4.out hck)
        have HRC1 := Lib.hid (HRB.out HFA.out)
        have HCK0 := Lib.hid hck
        clear hck HPT HPB HRP
        go_wp2_with (first
          | (with_reducible refine wpList_load_row (o := ⟨some 22, _, _, _, _, _⟩) rfl 25 _ rfl w.heap.size rfl 25 _ (0, 0) _ HA4.out Try.underlying25 rfl SE.out ?_))
        refine HPC.out.mono ?_
        rintro e w5 ⟨rfl, hb5⟩
        have HB5 := Lib.hid (HB4.out.trans (hb5.mono HB4.out.size))
        have HA5 := Lib.hid (HAT.out w5 HB5.out)
        clear hb5 HPC HA4
        go_wp2_with (first
          | (with_reducible refine wpList_load_row (o := ⟨some 27, _, _, _, _, _⟩) rfl 25 _ rfl w.heap.size rfl 25 _ (0, 0) _ HA5.out Try.underlying25 rfl SE.out ?_))
        refine (HRC1.out w5 HB5.out HCK0.out).mono ?_
        rintro e w6 ⟨rfl, hb6⟩
        have HB6 := Lib.hid (HB5.out.trans (hb6.mono HB5.out.size))
        have HA6 := Lib.hid (HAT.out w6 HB6.out)
        clear hb6 HRC1 HRB HA5 HB5
        go_wp2_with (first
          | (with_reducible refine wpList_load_row (o := ⟨some 32, _, _, _, _, _⟩) rfl 25 _ rfl w.heap.size rfl 25 _ (0, 0) _ HA6.out Try.underlying25 rfl SE.out ?_))
        refine (HSZ.out w6 HB6.out).mono ?_
        rintro e w7 ⟨rfl, hb7⟩
        have HB7 := Lib.hid (HB6.out.trans (hb7.mono HB6.out.size))
        have HA7 := Lib.hid (HAT.out w7 HB7.out)
        have HQ7 := Lib.hid hb7
        clear hb7 HSZ HA6
        go_wp2_with (first
          | (with_reducible refine wpList_load_row (o := ⟨some 37, _, _, _, _, _⟩) rfl 25 _ rfl w.heap.size rfl 25 _ (0, 0) _ HA7.out Try.underlying25 rfl SE.out ?_))
        refine (HRS.out HFA.out w7 HB7.out).mono ?_
        rintro e w8 ⟨rfl, hb8⟩
        have HB8 := Lib.hid (HB7.out.trans (hb8.mono HB7.out.size))
        have HQ8 := Lib.hid (HQ7.out.trans (hb8.mono HQ7.out.size))
        clear hb8 HRS HA7 HB7 HQ7
        have HC2 := Lib.hid (show ∀ p : BelowBy w8, Calls Try.prog 19 _ p.now _ from fun p => HCK.out p.now (HB8.out.trans (p.bel.mono HB8.out.size)))
        have HC3 := Lib.hid (show ∀ p : BelowBy w8, Calls Try.prog 20 _ p.now _ from fun p => HRC.out HFA.out p.now (HB8.out.trans (p.bel.mono HB8.out.size)))
        have HC4 := Lib.hid (show ∀ p : BelowBy w8, Calls Try.prog 21 _ p.now _ from fun p => HSM.out HFA.out HFB.out p.now (HB8.out.trans (p.bel.mono HB8.out.size)))
        have HC5 := Lib.hid (show ∀ p : BelowBy w8, Calls Try.prog 22 _ p.now _ from fun p => HRM.out HFA.out HFB.out p.now (HB8.out.trans (p.bel.mono HB8.out.size)))
        obtain ⟨c0, c1, c2, c3⟩ := node_at (HAT.out w8 HB8.out)
        obtain ⟨d0, d1, d2, d3⟩ := node_at (HBT.out w8 HB8.out)
        have e0 := fun p => by_cell c0 p
        have e1 := fun p => by_cell c1 p
        have e2 := fun p => by_cell c2 p
        have e3 := fun p => by_cell c3 p
        have f0 := fun p => by_cell d0 p
        have f1 := fun p => by_cell d1 p
        have f2 := fun p => by_cell d2 p
        have f3 := fun p => by_cell d3 p
        clear c0 c1 c2 c3 d0 d1 d2 d3 HCK HRC HSM HRM HAT HBT HFA HFB
        obtain ⟨s1, hs1⟩ : ∃ s1, (sizeA n0).1 = s1 := ⟨_, rfl⟩
        obtain ⟨s2, hs2⟩ : ∃ s2, (sizeA n0).2 = s2 := ⟨_, rfl⟩
        try rw [hs1, hs2]
        clear hs1 hs2
        have q1 : (s1 == s1) = true := by simp
        have q2 : (s2 == s2) = true := by simp
        have HC1 := Lib.hid (show ∀ p : BelowBy w8, Calls Try.prog 18 _ p.now _ from fun p => same_eq p.now _ _ [] (BS.nil0 p.now) (BS.nil0 p.now))
        have h3 := check_three n0
        have hne := HCK0.out
        generalize checkN n0 = ce at *
        have q3 : (ce == ce) = true := by simp
        clear HCK0 HQ8 h3 hne
        generalize sameN n0 n1 = sb at *
        cases sb <;>
        · go_upto_region 9 with fail
          refine wp_region_below (by kernel_rfl) (by kernel_rfl) ?_
          repeat (go_big_quiet_step ((first | (go_at_call 18; exact calls_below_same (HC1.out _)) | (go_at_call 19; exact calls_below (HC2.out _)) | (go_at_call 20; exact calls_below (HC3.out _)) | (go_at_call 21; exact calls_below (HC4.out _)) | (go_at_call 22; exact calls_below (HC5.out _)))))
          refine wpQuiet_nil ?_
          intro _ hw'
          obtain ⟨p, hw''⟩ := hw'
          subst hw''
          go_wp2_with fail
          go_ret
          exact ⟨rfl, HBW.out _ (HB8.out.trans (p.bel.mono HB8.out.size))⟩
set_option maxRecDepth 100000 in
theorem lifted (os : Os) (started : os.Started) (H : Type) (enc : TypeId × Value → H) :
    ReturnsInHanded {} Try.checked os 3 .any (Rows.nodePutsSpec.pre6 enc Try.prog Try.f3 Rows.nodePutsRow.domain false) (Rows.nodePutsSpec.post enc Try.prog Try.f3 false true false false) := by
  refine returnsInHanded_of_change_sized (C := Try.checked) own started (by kernel_rfl) Try.func3
    (ChangeSpec.witness6 (enc := enc) (C := Try.checked) false ⟨#[], #[.agg #[.bool false, .slice none 0 0, .slice none 0 0, .slice none 0 0], .agg #[.bool false, .slice none 0 0, .slice none 0 0, .slice none 0 0]], []⟩ 8 (by kernel_rfl) (by kernel_rfl) (by kernel_rfl) (by kernel_rfl)) ?_
  intro W base args ds gs before hval0 hW hcnd hsz0 _
  have hsz : (DataW.weightsEach Try.prog (Try.f3.params.toList ++ Rows.nodePutsSpec.plain.varTypes Try.prog) (ds ++ gs)).all (· ≤ reachBytes) = true := hsz0
  clear hsz0
  have hval : ∀ (j : Nat) t v, Try.f3.params[j]? = some t → args[j]? = some v → Value.okWide Try.prog W .any base t v := hval0
  have hW' := hW
  obtain ⟨p, q, hA0, hV, rfl, hfz, hnd⟩ := hW
  have hA : DataW.TrodAll enc Try.prog W 0 (fun _ => true) true Try.f3.params.toList args.toList ds p := hA0
  rw [Try.params3] at hA hval hsz
  obtain ⟨v0, vs0, d0, ds0, p0, q0, hargs, rfl, rfl, h0, r0⟩ := trodAll_cons hA
  obtain ⟨v1, vs1, d1, ds1, p1, q1, rfl, rfl, rfl, h1, r1⟩ := trodAll_cons r0
  obtain ⟨rfl, rfl, rfl⟩ := trodAll_nil r1
  obtain rfl : args = #[v0, v1] := by cases args; simp_all
  obtain ⟨rfl, rfl⟩ := trodVars_none hV
  have k0 := h0
  have lt0 : ∀ x ∈ p0, x.block < W.heap.size := by obtain ⟨m, hm⟩ := k0; exact DataW.trod_lt m _ _ _ hm
  have k1 := h1
  have lt1 : ∀ x ∈ p1, x.block < W.heap.size := by obtain ⟨m, hm⟩ := k1; exact DataW.trod_lt m _ _ _ hm
  obtain ⟨kk0, vv0, pp0, n0, rfl, nr0, nb0⟩ := par_node (j := 0) (hval 0 25 v0 rfl rfl) h0 hsz rfl rfl
  obtain ⟨kk1, vv1, pp1, n1, rfl, nr1, nb1⟩ := par_node (j := 1) (hval 1 25 v1 rfl rfl) h1 hsz rfl rfl
  clear hA0 hval0
  simp only [List.append_nil] at hW'
  refine (walk W kk0 vv0 pp0 n0 nr0 nb0 kk1 vv1 pp1 n1 nr1 nb1).mono fun e W' ⟨he, bel⟩ => ?_
  subst he
  exact ⟨_, rfl, _, _, _, [], _, [], hW', trodAll_mk1 (shut_bool Try.underlying4 _), (trodAll_cons_mk (Below.trod laidOut (by kernel_rfl) (of_decide_eq_true (by kernel_rfl)) k0 bel lt0) (trodAll_cons_mk (Below.trod laidOut (by kernel_rfl) (of_decide_eq_true (by kernel_rfl)) k1 bel lt1) trodAll_mk0)), rfl, bel.frame _, fun h => by cases h⟩

theorem over : Rows.nodePutsRow.holds Try.pinned (OpenSpec.ofChange Rows.nodePutsSpec) :=
  OpenClaim.holds_of_wide 3 Try.f3 rfl rfl rfl rfl rfl rfl rfl ⟨rfl, rfl, rfl, rfl, rfl⟩ rfl rfl rfl rfl rfl (by kernel_rfl) Try.func3 (by kernel_rfl)
    (of_decide_eq_true (by kernel_rfl)) (by unfold Func.isWrapper; first | (rw [if_pos (by decide +kernel)]; kernel_rfl) | (rw [if_neg (by decide +kernel)]; exact ⟨rfl, rfl⟩))
    (fun os started H enc _ => lifted os started H enc)

/-- The statement. -/
theorem proved : Rows.NodePutsSaid := over
#print axioms proved
end Go.Proofs.Ytcgddhainmnebaa.nodePuts
