/-
  'PtrChecks' returns true at every input, and each argument reads behind the call as it read before. Conditions: none.
-/
import Derived.Test.YtbnclmlbennhaaaRows
import Derived.Test.YtbnclmlbennhaaaYLaid
import Derived.Test.YtbnclmlbennhaaaPl
namespace Go.Proofs.Ytbnclmlbennhaaa.ptrChecks
open Go.ChangeShapes Go.WideShapes Go.ChangeAt Go.RowKit
set_option linter.unusedVariables false

theorem check_more (q : PtrV) (n m : Int) (h : mayB q n = true) (hm : 0 ≤ m) : mayB q (n + m) = true := by
  unfold mayB at *
  by_cases h0 : q.ad = 0
  · rw [if_pos h0] at *; exact h
  · rw [if_neg h0] at *
    simp only [Bool.and_eq_true, decide_eq_true_eq] at *
    omega
theorem check_zero (q : PtrV) (n : Int) : (checkE q n = 0 ∧ mayB q n = true) ∨ checkE q n = 4 := by
  unfold checkE
  cases mayB q n
  · exact .inr rfl
  · exact .inl ⟨rfl, rfl⟩

set_option maxRecDepth 100000 in
set_option maxHeartbeats 3200000 in
theorem walk (w : World) (q0 : PtrV) (z1 : Int) (za1 : 0 ≤ z1) (zb1 : z1 ≤ 65535) (z2 : Int) (za2 : 0 ≤ z2) (zb2 : z2 ≤ 65535) :
    Calls Try.prog 6 #[.agg (ptrRow q0).toArray, .int .u16 z1, .int .u16 z2] w fun e w' => e = .returned (.bool true) ∧ Below w.heap.size w w' := by
  have hb0 := (Below.refl w.heap.size w).alloc (Nat.le_refl _) (.cells (ptrRow q0).toArray 27)
  have hA := heap_alloc_new w (.cells (ptrRow q0).toArray 27)
  have HB0 := Lib.hid hb0
  have HA0 := Lib.hid hA
  have hT : w.heap.size < (w.alloc (.cells (ptrRow q0).toArray 27)).heap.size := by simp
  have HT := Lib.hid hT
  have hAL := alive8_any (w.alloc (.cells (ptrRow q0).toArray 27))
  have HA := Lib.hid hAL
  have SE := Lib.hid (size_ptrA q0)
  have HC1 := Lib.hid (fun W => pcheck_any q0 z1 W)
  have HC2 := Lib.hid (fun W => pcheck_any q0 (z1 + z2) W)
  have HN := Lib.hid (fun W => pnull_any q0 W)
  have HEQ := Lib.hid (fun W => eq_zero q0 W)
  have HZ := Lib.hid (check_zero q0 z1)
  have HM := Lib.hid (fun h => check_more q0 z1 z2 h (by omega))
  have HMB := Lib.hid (show mayB q0 z1 = if q0.ad = 0 then decide (q0 = zeroPtr) else decide (2 ≤ q0.ad) && decide (q0.ad < z1) && decide (q0.bi ≠ 0) from rfl)
  have HCE := Lib.hid (show checkE q0 (z1 + z2) = if mayB q0 (z1 + z2) then 0 else 4 from rfl)
  have HPA := Lib.hid (fun (W : World) (t : Nat) (h : W.heap[w.heap.size]? = some (.cells (ptrRow q0).toArray t (0, 0))) => ptr_at h)
  have HQ := Lib.hid (And.intro q0.a0 q0.b0)
  have x1 : IntKind.i64.wrap z1 = z1 := IntWalk.i64_in _ (by omega)
  have x2 : IntKind.i64.wrap z2 = z2 := IntWalk.i64_in _ (by omega)
  have x3 : IntKind.i64.wrap (z1 + z2) = z1 + z2 := IntWalk.i64_in _ (by omega)
  have HZB := Lib.hid (And.intro za1 (And.intro zb1 (And.intro za2 zb2)))
  clear hb0 hA hT hAL za1 zb1 za2 zb2
  generalize decide (q0 = zeroPtr) = dz at *
  generalize (ptrRow q0).toArray = AR at *
  go_enter Try.func6, Try.ntmps6
  go_wp2_with fail
  refine HA.out.mono ?_
  rintro e w1 ⟨rfl, hb1⟩
  have HA1 := Lib.hid ((hb1.block w.heap.size HT.out).trans HA0.out)
  have HB1 := Lib.hid (HB0.out.trans (hb1.mono HB0.out.size))
  have HT1 := Lib.hid (Nat.lt_of_lt_of_le HT.out hb1.size)
  clear hb1 HA HA0 HB0 HT
  go_wp2_with (first
    | (with_reducible refine wpList_load_row (o := ⟨some 13, _, _, _, _, _⟩) rfl 27 _ rfl w.heap.size rfl 27 AR (0, 0) _ HA1.out Try.underlying27 rfl SE.out ?_))
  refine (HC1.out _).mono ?_
  rintro e w2 ⟨rfl, hb2⟩
  have HA2 := Lib.hid ((hb2.block w.heap.size HT1.out).trans HA1.out)
  have HB2 := Lib.hid (HB1.out.trans (hb2.mono HB1.out.size))
  have HT2 := Lib.hid (Nat.lt_of_lt_of_le HT1.out hb2.size)
  clear hb2 HA1 HB1 HT1 HC1
  rcases HZ.out with ⟨e0, m0⟩ | e4
  · rw [e0]
    have HM2 := Lib.hid (HM.out m0)
    have HM0 := Lib.hid m0
    have HCE2 := Lib.hid (show checkE q0 (z1 + z2) = 0 by rw [HCE.out, HM2.out]; rfl)
    clear e0 m0 HZ HM HCE
    go_wp2_with (first
      | (with_reducible refine wpList_load_row (o := ⟨some 20, _, _, _, _, _⟩) rfl 27 _ rfl w.heap.size rfl 27 AR (0, 0) _ HA2.out Try.underlying27 rfl SE.out ?_))
    refine (HC2.out _).mono ?_
    rintro e w3 ⟨rfl, hb3⟩
    have HA3 := Lib.hid ((hb3.block w.heap.size HT2.out).trans HA2.out)
    have HB3 := Lib.hid (HB2.out.trans (hb3.mono HB2.out.size))
    clear hb3 HA2 HB2 HT2 HC2
    rw [HCE2.out]
    obtain ⟨c0, c1, _⟩ := HPA.out _ _ HA3.out
    have heq := HEQ.out
    cases dz with
    | true =>
      clear HMB HM2 HM0 HN HQ x1 x2 x3 c0 c1
      go_wp2_with (first
        | (with_reducible refine wpList_load_row (o := ⟨some 27, _, _, _, _, _⟩) rfl 27 _ rfl w.heap.size rfl 27 AR (0, 0) _ HA3.out Try.underlying27 rfl SE.out ?_))
      go_ret
      exact ⟨rfl, HB3.out⟩
    | false =>
      obtain ⟨h2, hn, hbi⟩ : 2 ≤ q0.ad ∧ q0.ad < z1 ∧ 0 < q0.bi := by
        have h := HMB.out
        rw [HM0.out] at h
        by_cases h0 : q0.ad = 0
        · rw [if_pos h0] at h; simp at h
        · rw [if_neg h0] at h
          have h9 := h.symm
          simp at h9
          have := HQ.out
          omega
      have hnz : (q0.ad == 0) = false := by simp; omega
      have x4 : IntKind.i64.wrap q0.ad = q0.ad := IntWalk.i64_in _ (by have := HQ.out; omega)
      rw [hnz] at HN
      clear HMB HM2 HM0 HQ x1 x2 x3 hnz
      generalize q0.ad = ad at *
      generalize q0.bi = bi at *
      go_wp2_with (first
        | (with_reducible refine wpList_load_row (o := ⟨some 27, _, _, _, _, _⟩) rfl 27 _ rfl w.heap.size rfl 27 AR (0, 0) _ HA3.out Try.underlying27 rfl SE.out ?_)
        | (with_reducible refine wpList_load_guarded (o := ⟨some 47, _, _, _, _, _⟩) (by kernel_rfl) 27 _ rfl w.heap.size rfl 27 AR (0, 0) _ HA3.out Try.underlying27 rfl SE.out ?_))
      refine (HN.out _).mono ?_
      rintro e w4 ⟨rfl, hb4⟩
      have HB4 := Lib.hid (HB3.out.trans (hb4.mono HB3.out.size))
      clear hb4 HB3
      go_wp2_with fail
      go_ret
      exact ⟨rfl, HB4.out⟩
  · rw [e4]
    clear e4 HZ HM HCE
    go_wp2_with fail
    go_ret
    exact ⟨rfl, HB2.out⟩
set_option maxRecDepth 100000 in
theorem lifted (os : Os) (started : os.Started) (H : Type) (enc : TypeId × Value → H) :
    ReturnsInHanded {} Try.checked os 6 .any (Rows.ptrChecksSpec.pre6 enc Try.prog Try.f6 Rows.ptrChecksRow.domain false) (Rows.ptrChecksSpec.post enc Try.prog Try.f6 false true false false) := by
  refine returnsInHanded_of_change_sized (C := Try.checked) own started (by kernel_rfl) Try.func6
    (ChangeSpec.witness6 (enc := enc) (C := Try.checked) false ⟨#[], #[.agg (#[.int .u32 0, .int .u64 0] ++ Array.replicate 32 (.int .u8 0)), .int .u16 0, .int .u16 0], []⟩ 8 (by kernel_rfl) (by kernel_rfl) (by kernel_rfl) (by kernel_rfl)) ?_
  intro W base args ds gs before hval0 hW hcnd hsz0 _
  have hsz : (DataW.weightsEach Try.prog (Try.f6.params.toList ++ Rows.ptrChecksSpec.plain.varTypes Try.prog) (ds ++ gs)).all (· ≤ reachBytes) = true := hsz0
  clear hsz0
  have hval : ∀ (j : Nat) t v, Try.f6.params[j]? = some t → args[j]? = some v → Value.okWide Try.prog W .any base t v := hval0
  have hW' := hW
  obtain ⟨p, q, hA0, hV, rfl, hfz, hnd⟩ := hW
  have hA : DataW.TrodAll enc Try.prog W 0 (fun _ => true) true Try.f6.params.toList args.toList ds p := hA0
  rw [Try.params6] at hA hval hsz
  obtain ⟨v0, vs0, d0, ds0, p0, q0, hargs, rfl, rfl, h0, r0⟩ := trodAll_cons hA
  obtain ⟨v1, vs1, d1, ds1, p1, q1, rfl, rfl, rfl, h1, r1⟩ := trodAll_cons r0
  obtain ⟨v2, vs2, d2, ds2, p2, q2, rfl, rfl, rfl, h2, r2⟩ := trodAll_cons r1
  obtain ⟨rfl, rfl, rfl⟩ := trodAll_nil r2
  obtain rfl : args = #[v0, v1, v2] := by cases args; simp_all
  obtain ⟨rfl, rfl⟩ := trodVars_none hV
  have k0 := h0
  have lt0 : ∀ x ∈ p0, x.block < W.heap.size := by obtain ⟨m, hm⟩ := k0; exact DataW.trod_lt m _ _ _ hm
  have k1 := h1
  have lt1 : ∀ x ∈ p1, x.block < W.heap.size := by obtain ⟨m, hm⟩ := k1; exact DataW.trod_lt m _ _ _ hm
  have k2 := h2
  have lt2 : ∀ x ∈ p2, x.block < W.heap.size := by obtain ⟨m, hm⟩ := k2; exact DataW.trod_lt m _ _ _ hm
  obtain ⟨q0, rfl⟩ := par_ptr (j := 0) (hval 0 27 v0 rfl rfl) h0 hsz rfl rfl
  obtain ⟨z1, rfl, za1, zb1⟩ := par_int (j := 1) .u16 _ _ Try.underlying66 wf_u16 (hval 1 66 v1 rfl rfl) h1 hsz rfl rfl
  obtain ⟨z2, rfl, za2, zb2⟩ := par_int (j := 2) .u16 _ _ Try.underlying66 wf_u16 (hval 2 66 v2 rfl rfl) h2 hsz rfl rfl
  clear hA0 hval0
  simp only [List.append_nil] at hW'
  refine (walk W q0 z1 za1 zb1 z2 za2 zb2).mono fun e W' ⟨he, bel⟩ => ?_
  subst he
  exact ⟨_, rfl, _, _, _, [], _, [], hW', trodAll_mk1 (shut_bool Try.underlying4 _), (trodAll_cons_mk (Below.trod laidOut (by kernel_rfl) (of_decide_eq_true (by kernel_rfl)) k0 bel lt0) (trodAll_cons_mk (Below.trod laidOut (by kernel_rfl) (of_decide_eq_true (by kernel_rfl)) k1 bel lt1) (trodAll_cons_mk (Below.trod laidOut (by kernel_rfl) (of_decide_eq_true (by kernel_rfl)) k2 bel lt2) trodAll_mk0))), rfl, bel.frame _, fun h => by cases h⟩

theorem over : Rows.ptrChecksRow.holds Try.pinned (OpenSpec.ofChange Rows.ptrChecksSpec) :=
  OpenClaim.holds_of_wide 6 Try.f6 rfl rfl rfl rfl rfl rfl rfl ⟨rfl, rfl, rfl, rfl, rfl⟩ rfl rfl rfl rfl rfl (by kernel_rfl) Try.func6 (by kernel_rfl)
    (of_decide_eq_true (by kernel_rfl)) (by unfold Func.isWrapper; first | (rw [if_pos (by decide +kernel)]; kernel_rfl) | (rw [if_neg (by decide +kernel)]; exact ⟨rfl, rfl⟩))
    (fun os started H enc _ => lifted os started H enc)

/-- The statement. -/
theorem proved : Rows.PtrChecksSaid := over
#print axioms proved
end Go.Proofs.Ytbnclmlbennhaaa.ptrChecks
