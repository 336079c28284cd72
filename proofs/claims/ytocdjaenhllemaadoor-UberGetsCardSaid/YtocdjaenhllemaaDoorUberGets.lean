/-
  'UberGets' returns true at every input, and each argument reads behind the call as it read before. Conditions: the package-level variable that the row lists starts as the program's text lays it (the card ties that).
-/
import Derived.Test.YtocdjaenhllemaaDoorLaid
import Derived.Test.YtocdjaenhllemaaDoorCards
import Derived.Test.YtocdjaenhllemaaDoorTie
import Derived.Test.YtocdjaenhllemaaDoorUl
import Derived.Test.YtocdjaenhllemaaDoorUj
namespace Go.Proofs.YtocdjaenhllemaaDoor.uberGets
open Go.ChangeShapes Go.WideShapes Go.ChangeAt Go.RowKit
set_option linter.unusedVariables false


set_option maxRecDepth 100000 in
set_option maxHeartbeats 1600000 in
theorem walk (w : World) (a0 : Option Addr) (len0 cap0 : Nat) (x0 : List Int) (e0 : x0.length = len0) (m0 : len0 ≤ cap0) (n0 : cap0 ≤ 140737488351232) (b0 : BS w (.slice a0 len0 cap0) x0) (a1 : Option Addr) (len1 cap1 : Nat) (x1 : List Int) (e1 : x1.length = len1) (m1 : len1 ≤ cap1) (n1 : cap1 ≤ 140737488351232) (b1 : BS w (.slice a1 len1 cap1) x1) (o2 : Bool) (hK : KT w) :
    Calls Tryd.prog 4 #[.slice a0 len0 cap0, .slice a1 len1 cap1, .bool o2] w fun e w' => e = .returned (.bool true) ∧ Below w.heap.size w w' := by
  have HA1 := Lib.hid (alive10_any w hK)
  have i0 : (0 : Int) ≤ (len0 : Int) := by omega
  have i1 : (len0 : Int) ≤ 140737488351232 := by omega
  have j0 : (0 : Int) ≤ (len1 : Int) := by omega
  have j1 : (len1 : Int) ≤ 140737488351232 := by omega
  by_cases hbig : 200 < len0
  · have hbI : (200 : Int) < (len0 : Int) := by omega
    clear hbig
    clear e0 m0 n0 b0 e1 m1 n1 b1 hK
    go_enter Tryd.func4, Tryd.ntmps4
    go_wp2_with fail
    refine HA1.out.mono ?_
    rintro e w2 ⟨rfl, hb2⟩
    have HB2 := Lib.hid hb2
    clear hb2 HA1
    go_wp2_with fail
    go_ret
    exact ⟨rfl, HB2.out⟩
  by_cases hbig1 : 600 < len1
  · have hsI : (len0 : Int) ≤ 200 := by omega
    have hbI : (600 : Int) < (len1 : Int) := by omega
    clear hbig hbig1
    clear e0 m0 n0 b0 e1 m1 n1 b1 hK
    go_enter Tryd.func4, Tryd.ntmps4
    go_wp2_with fail
    refine HA1.out.mono ?_
    rintro e w2 ⟨rfl, hb2⟩
    have HB2 := Lib.hid hb2
    clear hb2 HA1
    go_wp2_with fail
    go_ret
    exact ⟨rfl, HB2.out⟩
  have hsI : (len0 : Int) ≤ 200 := by omega
  have hsJ : (len1 : Int) ≤ 600 := by omega
  have hz := zero_ub
  have HKT := Lib.hid hK
  have HB0 := Lib.hid b0
  have HRM := Lib.hid (room_of a0 len0 cap0 m0 (by omega))
  have HLX := Lib.hid (show x0.length ≤ 900000 by omega)
  cases o2 with
  | true =>
    have HSE := Lib.hid (fun (W : World) (hb : Below w.heap.size w W) => usealed_any x0 x1 (.slice a0 len0 cap0) a1 len1 cap1 W (hK.below hb hK.pos) (b0.kept hb) HRM.out HLX.out (b1.kept hb) e1 m1 (by omega) (by omega))
    clear hbig hbig1 e0 m0 n0 b0 e1 m1 n1 b1 hK i1 j1
    go_enter Tryd.func4, Tryd.ntmps4
    go_wp2_with fail
    refine HA1.out.mono ?_
    rintro e w2 ⟨rfl, hb2⟩
    have HB2 := Lib.hid hb2
    have HS2 := Lib.hid (HSE.out w2 hb2)
    clear hb2 HA1 HSE
    unfold Looks at HS2
    go_wp2_with fail
    refine HS2.out.mono ?_
    rintro e w3 ⟨a, n, c, l, rfl, hl3, hln, hc3, hn3, hm3, hb3⟩
    have HB3 := Lib.hid (HB2.out.trans (hb3.mono HB2.out.size))
    have HL3 := Lib.hid hl3
    have HLN := Lib.hid (And.intro hln (And.intro hc3 (And.intro (show n ≤ 140737488351232 by omega) hm3)))
    clear hl3 hln hc3 hn3 hm3 hb3 HS2 HB2
    have HG := Lib.hid (uget_any x0 l (.slice a0 len0 cap0) a n c w3 (HKT.out.below HB3.out HKT.out.pos) (HB0.out.kept HB3.out) HRM.out HLX.out HL3.out HLN.out.1 HLN.out.2.1 HLN.out.2.2.1 HLN.out.2.2.2)
    have HR := Lib.hid (fun (W : World) (hb : Below w3.heap.size w3 W) => ruget_any x0 l (.slice a0 len0 cap0) a n c W (HB0.out.kept (HB3.out.trans (hb.mono HB3.out.size))) HRM.out HLX.out (HL3.out.kept hb) HLN.out.1 HLN.out.2.1 HLN.out.2.2.1)
    generalize getU x0 l = G at *
    have heq := eq_ub G.1 G.1
    rw [show decide (G.1 = G.1) = true by simp] at heq
    have hcc : (G.2 == G.2) = true := by simp
    have SE := Lib.hid (size_ubA G.1)
    have SL := Lib.hid (show (ubRow zeroUb).toArray.size = (ubRow G.1).toArray.size by simp [ubRow_length])
    have SO := Lib.hid (ubRow_one G.1)
    generalize (ubRow G.1).toArray = GR at *
    generalize (ubRow zeroUb).toArray = ZU at *
    generalize G.2 = gc at *
    clear HKT HB0 HRM HLX HL3 HLN
    go_wp2_with fail
    refine HG.out.mono ?_
    rintro e w4 ⟨rfl, hb4⟩
    have HB4 := Lib.hid (HB3.out.trans (hb4.mono HB3.out.size))
    have HB34 := Lib.hid hb4
    have HH := Lib.hid (heap_alloc_new w4 (.cells ZU 30))
    clear hb4 HG
    go_upto_region 8 with (first
      | (with_reducible refine wpList_store_row (o := ⟨none, .store _ (.tmp 7) _, _, _, _, _⟩) rfl 30 _ _ rfl w4.heap.size GR rfl rfl 30 ZU HH.out SE.out SL.out SO.out ?_))
    have h5 := setRow_heap (w4.alloc (.cells ZU 30)) w4.heap.size _ GR _ _ HH.out
    have hb5 : Below w4.heap.size w4 ((w4.alloc (.cells ZU 30)).setRow w4.heap.size GR) := ybelow_row ((Below.refl w4.heap.size w4).alloc (Nat.le_refl _) _) (Nat.le_refl _) _
    generalize (w4.alloc (.cells ZU 30)).setRow w4.heap.size GR = w5 at *
    have HB5 := Lib.hid (HB4.out.trans (hb5.mono HB4.out.size))
    have HR5 := Lib.hid (HR.out w5 (HB34.out.trans (hb5.mono HB34.out.size)))
    obtain ⟨T, hT⟩ : ∃ T, w4.heap.size = T := ⟨_, rfl⟩
    rw [hT] at h5 ⊢
    have H5 := Lib.hid h5
    clear h5 hb5 hT HH HB4 HB34 HR HB3
    go_wp2_with fail
    refine HR5.out.mono ?_
    rintro e w6 ⟨rfl, hb6⟩
    have HB6 := Lib.hid (HB5.out.trans (hb6.mono HB5.out.size))
    have H6 := Lib.hid ((hb6.block T (Array.getElem?_eq_some_iff.1 H5.out).1).trans H5.out)
    have HH := Lib.hid (heap_alloc_new w6 (.cells ZU 30))
    clear hb6 HR5 HB5 H5
    go_upto_region 9 with (first
      | (with_reducible refine wpList_store_row (o := ⟨none, .store _ (.tmp 9) _, _, _, _, _⟩) rfl 30 _ _ rfl w6.heap.size GR rfl rfl 30 ZU HH.out SE.out SL.out SO.out ?_))
    have h7 := setRow_heap (w6.alloc (.cells ZU 30)) w6.heap.size _ GR _ _ HH.out
    have hb7 : Below w6.heap.size w6 ((w6.alloc (.cells ZU 30)).setRow w6.heap.size GR) := ybelow_row ((Below.refl w6.heap.size w6).alloc (Nat.le_refl _) _) (Nat.le_refl _) _
    generalize (w6.alloc (.cells ZU 30)).setRow w6.heap.size GR = w7 at *
    have HB7 := Lib.hid (HB6.out.trans (hb7.mono HB6.out.size))
    have H7a := Lib.hid ((hb7.block T (Array.getElem?_eq_some_iff.1 H6.out).1).trans H6.out)
    obtain ⟨U, hU⟩ : ∃ U, w6.heap.size = U := ⟨_, rfl⟩
    rw [hU] at h7 ⊢
    have H7 := Lib.hid h7
    clear h7 hb7 hU HH HB6 H6 hz
    go_wp2_with (first
      | (with_reducible refine wpList_load_row (o := ⟨some 37, _, _, _, _, _⟩) rfl 30 _ rfl T rfl 30 GR (0, 0) _ H7a.out Tryd.underlying30 rfl SE.out ?_)
      | (with_reducible refine wpList_load_row (o := ⟨some 38, _, _, _, _, _⟩) rfl 30 _ rfl U rfl 30 GR (0, 0) _ H7.out Tryd.underlying30 rfl SE.out ?_))
    go_ret
    exact ⟨rfl, HB7.out⟩
  | false =>
    have HBX := Lib.hid (fun (W : World) (hb : Below w.heap.size w W) => b1.kept hb)
    have HLN := Lib.hid (And.intro e1 (And.intro m1 (And.intro (show len1 ≤ 140737488351232 by omega) (show cap1 ≤ 9223372036854775807 by omega))))
    clear hbig hbig1 e0 m0 n0 b0 e1 m1 n1 b1 hK
    go_enter Tryd.func4, Tryd.ntmps4
    go_wp2_with fail
    refine HA1.out.mono ?_
    rintro e w3 ⟨rfl, hb3⟩
    have HB3 := Lib.hid hb3
    have HL3 := Lib.hid (HBX.out w3 hb3)
    clear hb3 HA1 HBX i1 j1
    have HG := Lib.hid (uget_any x0 x1 (.slice a0 len0 cap0) a1 len1 cap1 w3 (HKT.out.below HB3.out HKT.out.pos) (HB0.out.kept HB3.out) HRM.out HLX.out HL3.out HLN.out.1 HLN.out.2.1 HLN.out.2.2.1 HLN.out.2.2.2)
    have HR := Lib.hid (fun (W : World) (hb : Below w3.heap.size w3 W) => ruget_any x0 x1 (.slice a0 len0 cap0) a1 len1 cap1 W (HB0.out.kept (HB3.out.trans (hb.mono HB3.out.size))) HRM.out HLX.out (HL3.out.kept hb) HLN.out.1 HLN.out.2.1 HLN.out.2.2.1)
    generalize getU x0 x1 = G at *
    have heq := eq_ub G.1 G.1
    rw [show decide (G.1 = G.1) = true by simp] at heq
    have hcc : (G.2 == G.2) = true := by simp
    have SE := Lib.hid (size_ubA G.1)
    have SL := Lib.hid (show (ubRow zeroUb).toArray.size = (ubRow G.1).toArray.size by simp [ubRow_length])
    have SO := Lib.hid (ubRow_one G.1)
    generalize (ubRow G.1).toArray = GR at *
    generalize (ubRow zeroUb).toArray = ZU at *
    generalize G.2 = gc at *
    clear HKT HB0 HRM HLX HL3 HLN
    go_wp2_with fail
    refine HG.out.mono ?_
    rintro e w4 ⟨rfl, hb4⟩
    have HB4 := Lib.hid (HB3.out.trans (hb4.mono HB3.out.size))
    have HB34 := Lib.hid hb4
    have HH := Lib.hid (heap_alloc_new w4 (.cells ZU 30))
    clear hb4 HG
    go_upto_region 8 with (first
      | (with_reducible refine wpList_store_row (o := ⟨none, .store _ (.tmp 7) _, _, _, _, _⟩) rfl 30 _ _ rfl w4.heap.size GR rfl rfl 30 ZU HH.out SE.out SL.out SO.out ?_))
    have h5 := setRow_heap (w4.alloc (.cells ZU 30)) w4.heap.size _ GR _ _ HH.out
    have hb5 : Below w4.heap.size w4 ((w4.alloc (.cells ZU 30)).setRow w4.heap.size GR) := ybelow_row ((Below.refl w4.heap.size w4).alloc (Nat.le_refl _) _) (Nat.le_refl _) _
    generalize (w4.alloc (.cells ZU 30)).setRow w4.heap.size GR = w5 at *
    have HB5 := Lib.hid (HB4.out.trans (hb5.mono HB4.out.size))
    have HR5 := Lib.hid (HR.out w5 (HB34.out.trans (hb5.mono HB34.out.size)))
    obtain ⟨T, hT⟩ : ∃ T, w4.heap.size = T := ⟨_, rfl⟩
    rw [hT] at h5 ⊢
    have H5 := Lib.hid h5
    clear h5 hb5 hT HH HB4 HB34 HR HB3
    go_wp2_with fail
    refine HR5.out.mono ?_
    rintro e w6 ⟨rfl, hb6⟩
    have HB6 := Lib.hid (HB5.out.trans (hb6.mono HB5.out.size))
    have H6 := Lib.hid ((hb6.block T (Array.getElem?_eq_some_iff.1 H5.out).1).trans H5.out)
    have HH := Lib.hid (heap_alloc_new w6 (.cells ZU 30))
    clear hb6 HR5 HB5 H5
    go_upto_region 9 with (first
      | (with_reducible refine wpList_store_row (o := ⟨none, .store _ (.tmp 9) _, _, _, _, _⟩) rfl 30 _ _ rfl w6.heap.size GR rfl rfl 30 ZU HH.out SE.out SL.out SO.out ?_))
    have h7 := setRow_heap (w6.alloc (.cells ZU 30)) w6.heap.size _ GR _ _ HH.out
    have hb7 : Below w6.heap.size w6 ((w6.alloc (.cells ZU 30)).setRow w6.heap.size GR) := ybelow_row ((Below.refl w6.heap.size w6).alloc (Nat.le_refl _) _) (Nat.le_refl _) _
    generalize (w6.alloc (.cells ZU 30)).setRow w6.heap.size GR = w7 at *
    have HB7 := Lib.hid (HB6.out.trans (hb7.mono HB6.out.size))
    have H7a := Lib.hid ((hb7.block T (Array.getElem?_eq_some_iff.1 H6.out).1).trans H6.out)
    obtain ⟨U, hU⟩ : ∃ U, w6.heap.size = U := ⟨_, rfl⟩
    rw [hU] at h7 ⊢
    have H7 := Lib.hid h7
    clear h7 hb7 hU HH HB6 H6 hz
    go_wp2_with (first
      | (with_reducible refine wpList_load_row (o := ⟨some 37, _, _, _, _, _⟩) rfl 30 _ rfl T rfl 30 GR (0, 0) _ H7a.out Tryd.underlying30 rfl SE.out ?_)
      | (with_reducible refine wpList_load_row (o := ⟨some 38, _, _, _, _, _⟩) rfl 30 _ rfl U rfl 30 GR (0, 0) _ H7.out Tryd.underlying30 rfl SE.out ?_))
    go_ret
    exact ⟨rfl, HB7.out⟩
set_option maxRecDepth 100000 in
theorem lifted (os : Os) (started : os.Started) (H : Type) (enc : TypeId × Value → H) :
    ReturnsInHanded {} Tryd.checked os 4 .any (fun w args => (Rows.uberGetsSpec.pre enc Tryd.prog Tryd.f4 [] false w args ∧ laidMetH Tryd.prog [("banyan/sha.roundNumbers", Rows.laid_banyan_sha_roundNumbers)] w) ∧ sizedMet enc Tryd.prog Tryd.f4 (OpenSpec.ofChange Rows.uberGetsSpec) false w args)
      (Rows.uberGetsSpec.post enc Tryd.prog Tryd.f4 false true false false) := by
  refine returnsInHanded_of_change_and (C := Tryd.checked) (X := fun w _ => laidMetH Tryd.prog [("banyan/sha.roundNumbers", Rows.laid_banyan_sha_roundNumbers)] w) (fun _ _ _ hh h => h.of_heap hh) own2 started (by kernel_rfl) Tryd.func4
    (ChangeSpec.witness_shaped (enc := enc) (C := Tryd.checked) (os := os) (X := fun w _ => laidMetH Tryd.prog [("banyan/sha.roundNumbers", Rows.laid_banyan_sha_roundNumbers)] w) false (World.doorLaid Tryd.prog 400 os) #[.slice none 0 0, .slice none 0 0, .bool false] 8 rfl (World.shaped_of_RefB (by kernel_rfl) (by kernel_rfl)) (by kernel_rfl) (by kernel_rfl) (by kernel_rfl) (door_met os _)) ?_
  intro W base args ds gs before hval0 hW _ hsz0 hL _
  have hval : ∀ (j : Nat) t v, Tryd.f4.params[j]? = some t → args[j]? = some v → Value.okWide Tryd.prog W .any base t v := hval0
  have hsz : (DataW.weightsEach Tryd.prog (Tryd.f4.params.toList ++ Rows.uberGetsSpec.plain.varTypes Tryd.prog) (ds ++ gs)).all (· ≤ reachBytes) = true := hsz0
  clear hsz0
  have hW' := hW
  obtain ⟨p, q, hA0, hV, rfl, hfz, hnd⟩ := hW
  have hA : DataW.TrodAll enc Tryd.prog W 0 (fun _ => true) true Tryd.f4.params.toList args.toList ds p := hA0
  rw [Tryd.params4] at hA hval hsz
  obtain ⟨v0, vs0, d0, ds0, p0, q0, hargs, rfl, rfl, h0, r0⟩ := trodAll_cons hA
  obtain ⟨v1, vs1, d1, ds1, p1, q1, rfl, rfl, rfl, h1, r1⟩ := trodAll_cons r0
  obtain ⟨v2, vs2, d2, ds2, p2, q2, rfl, rfl, rfl, h2, r2⟩ := trodAll_cons r1
  obtain ⟨rfl, rfl, rfl⟩ := trodAll_nil r2
  obtain rfl : args = #[v0, v1, v2] := by cases args; simp_all
  obtain ⟨rfl, rfl⟩ := trodVars_none hV
  have k0 := h0
  have lt0 : ∀ x ∈ p0, x.block < W.heap.size := by obtain ⟨m, hm⟩ := k0; exact DataW.trod_lt m _ _ _ hm
  have k1 := h1
  have lt1 : ∀ x ∈ p1, x.block < W.heap.size := by obtain ⟨m, hm⟩ := k1; exact DataW.trod_lt m _ _ _ hm
  have k2 := h2
  have lt2 : ∀ x ∈ p2, x.block < W.heap.size := by obtain ⟨m, hm⟩ := k2; exact DataW.trod_lt m _ _ _ hm
  obtain ⟨a0, len0, cap0, x0, rfl, e0, m0, n0, b0⟩ := par_bytes (j := 0) (hval 0 22 v0 rfl rfl) h0 hsz rfl rfl
  obtain ⟨a1, len1, cap1, x1, rfl, e1, m1, n1, b1⟩ := par_bytes (j := 1) (hval 1 22 v1 rfl rfl) h1 hsz rfl rfl
  obtain ⟨o2, rfl⟩ := par_bool (j := 2) Tryd.underlying4 (hval 2 4 v2 rfl rfl) h2 hsz rfl rfl
  have hK := of_laid hL
  clear hA0 hval0
  refine (walk W a0 len0 cap0 x0 e0 m0 n0 b0 a1 len1 cap1 x1 e1 m1 n1 b1 o2 hK).mono fun e W' ⟨he, bel⟩ => ?_
  subst he
  exact ⟨_, rfl, _, _, _, [], _, [], hW', trodAll_mk1 (shut_bool Tryd.underlying4 _), (trodAll_cons_mk (Below.trod laidOut2 (by kernel_rfl) (of_decide_eq_true (by kernel_rfl)) k0 bel lt0) (trodAll_cons_mk (Below.trod laidOut2 (by kernel_rfl) (of_decide_eq_true (by kernel_rfl)) k1 bel lt1) (trodAll_cons_mk (Below.trod laidOut2 (by kernel_rfl) (of_decide_eq_true (by kernel_rfl)) k2 bel lt2) trodAll_mk0))), rfl, bel.frame _, fun h => by cases h⟩

theorem over : Rows.UberGetsSaid :=
  OpenClaim.holds_of_wide 4 Tryd.f4 rfl rfl rfl rfl rfl rfl rfl ⟨rfl, rfl, rfl, rfl, rfl⟩ rfl rfl rfl rfl rfl (by kernel_rfl) Tryd.func4 (by kernel_rfl)
    (of_decide_eq_true (by kernel_rfl)) (by unfold Func.isWrapper; first | (rw [if_pos (by decide +kernel)]; kernel_rfl) | (rw [if_neg (by decide +kernel)]; exact ⟨rfl, rfl⟩))
    (fun os started H enc _ => lifted os started H enc)

/-- The statement. -/
theorem proved : Rows.UberGetsCardSaid :=
  Claim7.holds_tied_plain_at .later [] [.data] true (true, "c9a66c9fc03c74372b55c74d61d048c4ab6c3d06d9801e353e7a9c1603144487") false
    over (fun _ h => by cases h) (by kernel_rfl) (fun _ h => by cases h) uberGets_row_tie rfl ⟨rfl, rfl⟩ (by kernel_rfl) rfl
    (fun f fn hf hfn => by
      obtain rfl : f = 4 := Option.some.inj ((show Tryd.prog.funcNamed "banyan/banyanlaw10.UberGets" = some 4 by kernel_rfl).symm.trans hf) |>.symm
      obtain rfl : fn = Tryd.f4 := (Option.some.inj (Tryd.func4.symm.trans hfn)).symm
      exact ⟨by kernel_rfl, fun j t ht => by
        rw [Tryd.params4] at ht
        have hm : t ∈ [22, 22, 4] := by simpa using Array.mem_of_getElem? ht
        have hall : ([22, 22, 4].all fun u => !Tryd.prog.wantsStandIn u) = true := by kernel_rfl
        exact (show Tryd.prog.wantsStandIn t = false by simpa using List.all_eq_true.1 hall t hm)⟩)
    (by kernel_rfl)
#print axioms proved
end Go.Proofs.YtocdjaenhllemaaDoor.uberGets
