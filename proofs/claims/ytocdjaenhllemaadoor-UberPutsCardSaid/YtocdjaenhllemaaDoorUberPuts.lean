/-
  'UberPuts' returns true at every input, and each argument reads behind the call as it read before. Conditions: the package-level variable that the row lists starts as the program's text lays it (the card ties that).
-/
import Derived.Test.YtocdjaenhllemaaDoorLaid
import Derived.Test.YtocdjaenhllemaaDoorCards
import Derived.Test.YtocdjaenhllemaaDoorTie
import Derived.Test.YtocdjaenhllemaaDoorUk
namespace Go.Proofs.YtocdjaenhllemaaDoor.uberPuts
open Go.ChangeShapes Go.WideShapes Go.ChangeAt Go.RowKit
set_option linter.unusedVariables false


set_option maxRecDepth 100000 in
set_option maxHeartbeats 1600000 in
theorem walk (w : World) (a0 : Option Addr) (len0 cap0 : Nat) (x0 : List Int) (e0 : x0.length = len0) (m0 : len0 ≤ cap0) (n0 : cap0 ≤ 140737488351232) (b0 : BS w (.slice a0 len0 cap0) x0) (u1 : UbV) (hK : KT w) :
    Calls Tryd.prog 3 #[.slice a0 len0 cap0, .agg (ubRow u1).toArray] w fun e w' => e = .returned (.bool true) ∧ Below w.heap.size w w' := by
  have HAL := Lib.hid (fun (W : World) (hb : Below w.heap.size w W) => alive10_any W (hK.below hb hK.pos))
  have hb1 := (Below.refl w.heap.size w).alloc (Nat.le_refl _) (.cells (ubRow u1).toArray 30)
  have hA1 := heap_alloc_new w (.cells (ubRow u1).toArray 30)
  have l0 : (0 : Int) ≤ (len0 : Int) := by omega
  have lI : (len0 : Int) ≤ 140737488351232 := by omega
  by_cases hbig : 200 < len0
  · have hbI : (200 : Int) < (len0 : Int) := by omega
    have HB1 := Lib.hid hb1
    have HA1 := Lib.hid (HAL.out _ hb1)
    clear hbig e0 m0 n0 b0 hb1 hA1 HAL hK
    go_enter Tryd.func3, Tryd.ntmps3
    go_wp2_with fail
    refine HA1.out.mono ?_
    rintro e w2 ⟨rfl, hb2⟩
    have HB2 := Lib.hid (HB1.out.trans (hb2.mono HB1.out.size))
    clear hb2 HA1 HB1
    go_wp2_with fail
    go_ret
    exact ⟨rfl, HB2.out⟩
  have hsI : (len0 : Int) ≤ 200 := by omega
  have HP := Lib.hid (fun (W : World) (hb : Below w.heap.size w W) => uput_any x0 (.slice a0 len0 cap0) u1 W (hK.below hb hK.pos) (b0.kept hb) (room_of _ _ _ m0 (by omega)) (by omega))
  have HR := Lib.hid (fun (W : World) (hb : Below w.heap.size w W) => ruput_any x0 (.slice a0 len0 cap0) u1 W (b0.kept hb) (room_of _ _ _ m0 (by omega)) (by omega))
  have HCK := Lib.hid (fun W => ucheck_any u1 W)
  have HRC := Lib.hid (fun W => rucheck_any u1 W)
  have HSL := Lib.hid (fun W => uslot_any u1.tx W u1.t0.1)
  have hm : u1.tx.tmod 2 = u1.tx % 2 := Int.tmod_eq_emod_of_nonneg u1.t0.1
  have hw : IntKind.u64.wrap (u1.tx % 2) = u1.tx % 2 := IntWalk.u64_in _ (by omega)
  have hee : (u1.tx % 2 == u1.tx % 2) = true := by simp
  have hcc : ((putA10 x0 u1).2 == (putA10 x0 u1).2) = true := by simp
  have hkk : (checkU u1 == checkU u1) = true := by simp
  have SEA := Lib.hid (size_ubA u1)
  have SE := Lib.hid (size_ub u1)
  have HAT := Lib.hid (fun (W : World) (T : Nat) (h : W.heap[T]? = some (.cells (ubRow u1).toArray 30 (0, 0))) => And.intro (range_of_row h) (ub_at h).1)
  have HB1 := Lib.hid hb1
  have HA1 := Lib.hid hA1
  have hx0 := u1.t0.1
  clear hbig lI e0 m0 n0 b0 hb1 hA1 hK
  generalize putA10 x0 u1 = PA at *
  generalize checkU u1 = CE at *
  generalize ubRow u1 = UL at *
  generalize u1.tx = tx at *
  generalize hw1 : w.alloc (.cells UL.toArray 30) = w1 at *
  go_enter Tryd.func3, Tryd.ntmps3
  go_upto_region 1 with fail
  try rw [hw1]
  clear hw1
  go_wp2_with fail
  refine (HAL.out w1 HB1.out).mono ?_
  rintro e w2 ⟨rfl, hb2⟩
  have HB2 := Lib.hid (HB1.out.trans (hb2.mono HB1.out.size))
  have HA2 := Lib.hid ((hb2.block w.heap.size (Array.getElem?_eq_some_iff.1 HA1.out).1).trans HA1.out)
  clear hb2 HA1 HB1 HAL
  go_wp2_with (first
    | (with_reducible refine wpList_load_row (o := ⟨some 16, _, _, _, _, _⟩) rfl 30 _ rfl w.heap.size rfl 30 UL.toArray (0, 0) _ HA2.out Tryd.underlying30 rfl SEA.out ?_))
  refine (HP.out w2 HB2.out).mono ?_
  rintro e w3 ⟨va, rfl, hba, hb3⟩
  have HB3 := Lib.hid (HB2.out.trans (hb3.mono HB2.out.size))
  have HA3 := Lib.hid ((hb3.block w.heap.size (Array.getElem?_eq_some_iff.1 HA2.out).1).trans HA2.out)
  have HBA := Lib.hid hba
  clear hb3 hba HA2 HB2 HP
  go_wp2_with (first
    | (with_reducible refine wpList_load_row (o := ⟨some 22, _, _, _, _, _⟩) rfl 30 _ rfl w.heap.size rfl 30 UL.toArray (0, 0) _ HA3.out Tryd.underlying30 rfl SEA.out ?_))
  refine (HR.out w3 HB3.out).mono ?_
  rintro e w4 ⟨vb, rfl, hbb, hb4⟩
  have HB4 := Lib.hid (HB3.out.trans (hb4.mono HB3.out.size))
  have HA4 := Lib.hid ((hb4.block w.heap.size (Array.getElem?_eq_some_iff.1 HA3.out).1).trans HA3.out)
  have hba4 := HBA.out.kept hb4
  have HC1 := Lib.hid (show ∀ p : BelowBy w4, Calls Tryd.prog 12 #[va, vb] p.now _ from fun p => same_eq p.now va vb _ (hba4.kept p.bel) (hbb.kept p.bel))
  have HRG := Lib.hid (by_range (HAT.out w4 _ HA4.out).1)
  have hc0 := fun p => by_cell (HAT.out w4 _ HA4.out).2 p
  clear hb4 hbb hba4 HBA HA3 HB3 HR HA4 HAT
  go_upto_region 7 with fail
  refine wp_region_below (by kernel_rfl) (by kernel_rfl) ?_
  repeat (first
    | (with_reducible refine quiet_load_row (o := ⟨some 35, _, _, _, _, _⟩) (by kernel_rfl) 30 _ rfl w.heap.size 0 rfl UL _ HRG.out Tryd.underlying30 rfl SE.out ?_
       simp only [Act.put, List.setIfInBounds_toArray, List.set_cons_zero, List.set_cons_succ])
    | (with_reducible refine quiet_load_row (o := ⟨some 37, _, _, _, _, _⟩) (by kernel_rfl) 30 _ rfl w.heap.size 0 rfl UL _ HRG.out Tryd.underlying30 rfl SE.out ?_
       simp only [Act.put, List.setIfInBounds_toArray, List.set_cons_zero, List.set_cons_succ])
    | (go_big_quiet_step (first
        | (go_at_call 12; exact calls_below_same (HC1.out _))
        | (go_at_call 13; exact calls_below (HCK.out _))
        | (go_at_call 14; exact calls_below (HRC.out _))
        | (go_at_call 15; exact calls_below_same (HSL.out _)))))
  refine wpQuiet_nil ?_
  intro _ hw'
  obtain ⟨p, hw''⟩ := hw'
  subst hw''
  go_wp2_with fail
  go_ret
  exact ⟨rfl, HB4.out.trans (p.bel.mono HB4.out.size)⟩
set_option maxRecDepth 100000 in
theorem lifted (os : Os) (started : os.Started) (H : Type) (enc : TypeId × Value → H) :
    ReturnsInHanded {} Tryd.checked os 3 .any (fun w args => (Rows.uberPutsSpec.pre enc Tryd.prog Tryd.f3 [] false w args ∧ laidMetH Tryd.prog [("banyan/sha.roundNumbers", Rows.laid_banyan_sha_roundNumbers)] w) ∧ sizedMet enc Tryd.prog Tryd.f3 (OpenSpec.ofChange Rows.uberPutsSpec) false w args)
      (Rows.uberPutsSpec.post enc Tryd.prog Tryd.f3 false true false false) := by
  refine returnsInHanded_of_change_and (C := Tryd.checked) (X := fun w _ => laidMetH Tryd.prog [("banyan/sha.roundNumbers", Rows.laid_banyan_sha_roundNumbers)] w) (fun _ _ _ hh h => h.of_heap hh) own2 started (by kernel_rfl) Tryd.func3
    (ChangeSpec.witness_shaped (enc := enc) (C := Tryd.checked) (os := os) (X := fun w _ => laidMetH Tryd.prog [("banyan/sha.roundNumbers", Rows.laid_banyan_sha_roundNumbers)] w) false (World.doorLaid Tryd.prog 400 os) #[.slice none 0 0, .agg (#[.int .u64 0, .int .u32 0, .int .u32 0, .int .u64 0] ++ Array.replicate 32 (.int .u8 0))] 8 rfl (World.shaped_of_RefB (by kernel_rfl) (by kernel_rfl)) (by kernel_rfl) (by kernel_rfl) (by kernel_rfl) (door_met os _)) ?_
  intro W base args ds gs before hval0 hW _ hsz0 hL _
  have hval : ∀ (j : Nat) t v, Tryd.f3.params[j]? = some t → args[j]? = some v → Value.okWide Tryd.prog W .any base t v := hval0
  have hsz : (DataW.weightsEach Tryd.prog (Tryd.f3.params.toList ++ Rows.uberPutsSpec.plain.varTypes Tryd.prog) (ds ++ gs)).all (· ≤ reachBytes) = true := hsz0
  clear hsz0
  have hW' := hW
  obtain ⟨p, q, hA0, hV, rfl, hfz, hnd⟩ := hW
  have hA : DataW.TrodAll enc Tryd.prog W 0 (fun _ => true) true Tryd.f3.params.toList args.toList ds p := hA0
  rw [Tryd.params3] at hA hval hsz
  obtain ⟨v0, vs0, d0, ds0, p0, q0, hargs, rfl, rfl, h0, r0⟩ := trodAll_cons hA
  obtain ⟨v1, vs1, d1, ds1, p1, q1, rfl, rfl, rfl, h1, r1⟩ := trodAll_cons r0
  obtain ⟨rfl, rfl, rfl⟩ := trodAll_nil r1
  obtain rfl : args = #[v0, v1] := by cases args; simp_all
  obtain ⟨rfl, rfl⟩ := trodVars_none hV
  have k0 := h0
  have lt0 : ∀ x ∈ p0, x.block < W.heap.size := by obtain ⟨m, hm⟩ := k0; exact DataW.trod_lt m _ _ _ hm
  have k1 := h1
  have lt1 : ∀ x ∈ p1, x.block < W.heap.size := by obtain ⟨m, hm⟩ := k1; exact DataW.trod_lt m _ _ _ hm
  obtain ⟨a0, len0, cap0, x0, rfl, e0, m0, n0, b0⟩ := par_bytes (j := 0) (hval 0 22 v0 rfl rfl) h0 hsz rfl rfl
  obtain ⟨u1, rfl⟩ := par_ub (j := 1) (hval 1 30 v1 rfl rfl) h1 hsz rfl rfl
  have hK := of_laid hL
  clear hA0 hval0
  refine (walk W a0 len0 cap0 x0 e0 m0 n0 b0 u1 hK).mono fun e W' ⟨he, bel⟩ => ?_
  subst he
  exact ⟨_, rfl, _, _, _, [], _, [], hW', trodAll_mk1 (shut_bool Tryd.underlying4 _), (trodAll_cons_mk (Below.trod laidOut2 (by kernel_rfl) (of_decide_eq_true (by kernel_rfl)) k0 bel lt0) (trodAll_cons_mk (Below.trod laidOut2 (by kernel_rfl) (of_decide_eq_true (by kernel_rfl)) k1 bel lt1) trodAll_mk0)), rfl, bel.frame _, fun h => by cases h⟩

theorem over : Rows.UberPutsSaid :=
  OpenClaim.holds_of_wide 3 Tryd.f3 rfl rfl rfl rfl rfl rfl rfl ⟨rfl, rfl, rfl, rfl, rfl⟩ rfl rfl rfl rfl rfl (by kernel_rfl) Tryd.func3 (by kernel_rfl)
    (of_decide_eq_true (by kernel_rfl)) (by unfold Func.isWrapper; first | (rw [if_pos (by decide +kernel)]; kernel_rfl) | (rw [if_neg (by decide +kernel)]; exact ⟨rfl, rfl⟩))
    (fun os started H enc _ => lifted os started H enc)

/-- The statement. -/
theorem proved : Rows.UberPutsCardSaid :=
  Claim7.holds_tied_plain_at .later [] [.data] true (true, "c9a66c9fc03c74372b55c74d61d048c4ab6c3d06d9801e353e7a9c1603144487") false
    over (fun _ h => by cases h) (by kernel_rfl) (fun _ h => by cases h) uberPuts_row_tie rfl ⟨rfl, rfl⟩ (by kernel_rfl) rfl
    (fun f fn hf hfn => by
      obtain rfl : f = 3 := Option.some.inj ((show Tryd.prog.funcNamed "banyan/banyanlaw10.UberPuts" = some 3 by kernel_rfl).symm.trans hf) |>.symm
      obtain rfl : fn = Tryd.f3 := (Option.some.inj (Tryd.func3.symm.trans hfn)).symm
      exact ⟨by kernel_rfl, fun j t ht => by
        rw [Tryd.params3] at ht
        have hm : t ∈ [22, 30] := by simpa using Array.mem_of_getElem? ht
        have hall : ([22, 30].all fun u => !Tryd.prog.wantsStandIn u) = true := by kernel_rfl
        exact (show Tryd.prog.wantsStandIn t = false by simpa using List.all_eq_true.1 hall t hm)⟩)
    (by kernel_rfl)
#print axioms proved
end Go.Proofs.YtocdjaenhllemaaDoor.uberPuts
