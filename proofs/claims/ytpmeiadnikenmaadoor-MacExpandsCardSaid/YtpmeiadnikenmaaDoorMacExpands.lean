/-
  'MacExpands' returns true at every input, and each argument reads behind the call as it read before. Conditions: the package-level variable that the row lists starts as the program's text lays it (the card ties that).
-/
import Derived.Test.YtpmeiadnikenmaaDoorLaid
import Derived.Test.YtpmeiadnikenmaaDoorCards
import Derived.Test.YtpmeiadnikenmaaDoorTie
import Derived.Test.YtpmeiadnikenmaaDoorRExp
namespace Go.Proofs.YtpmeiadnikenmaaDoor.macExpands
open Go.ChangeShapes Go.WideShapes Go.ChangeAt Go.RowKit
open Go.ChangeMaps (open_string shut_string)
set_option linter.unusedVariables false


set_option maxRecDepth 100000 in
set_option maxHeartbeats 1600000 in
theorem walk (w : World) (a0 : Option Addr) (len0 cap0 : Nat) (l0 : List Int) (e0 : l0.length = len0) (b0 : BS w (.slice a0 len0 cap0) l0) (m0 : len0 ≤ cap0) (n0 : cap0 ≤ 140737488351232) (s1 : ByteArray) (z1 : s1.size ≤ 140737488351232) (a2 : Int) (h20 : -9223372036854775808 ≤ a2) (h21 : a2 ≤ 9223372036854775807) (hK : KT w) :
    Calls Tryd.prog 6 #[.slice a0 len0 cap0, .string s1, .int .i64 a2] w fun e w' => e = .returned (.bool true) ∧ Below w.heap.size w w' := by
  have HK := Lib.hid hK
  have HPOS := Lib.hid hK.pos
  have HB0 := Lib.hid b0
  have HE := Lib.hid e0
  have HM := Lib.hid (And.intro m0 n0)
  have len0I : (len0 : Int) ≤ 140737488351232 := by omega
  have s1I : (s1.size : Int) ≤ 140737488351232 := by omega
  clear hK b0 e0 m0 n0
  by_cases hbig : (500 : Int) < (len0 : Int) + (s1.size : Int)
  · go_enter Tryd.func6, Tryd.ntmps6
    go_wp2_with fail
    refine (alive3_any w HK.out).mono ?_
    rintro e w1 ⟨rfl, hb1⟩
    go_wp2_with fail
    go_ret
    exact ⟨rfl, hb1⟩
  have hle : (len0 : Int) + (s1.size : Int) ≤ 500 := by omega
  have HLE := Lib.hid (show len0 + s1.size ≤ 500 by omega)
  clear hbig z1
  by_cases hlow : (200 : Int) < a2
  · by_cases hup : a2 ≤ 8160
    · go_enter Tryd.func6, Tryd.ntmps6
      go_wp2_with fail
      refine (alive3_any w HK.out).mono ?_
      rintro e w1 ⟨rfl, hb1⟩
      go_wp2_with fail
      go_ret
      exact ⟨rfl, hb1⟩
    · have HBAD := Lib.hid (show a2 < 0 ∨ 8160 < a2 by omega)
      have hup2 : (8160 : Int) < a2 := by omega
      go_enter Tryd.func6, Tryd.ntmps6
      go_wp2_with fail
      refine (alive3_any w HK.out).mono ?_
      rintro e w1 ⟨rfl, hb1⟩
      have HBE := Lib.hid hb1
      clear hb1
      go_wp2_with fail
      refine (exp_bad _ _ _ w1 HBAD.out).mono ?_
      rintro e w2 ⟨rfl, rfl⟩
      go_wp2_with fail
      refine (rexp_bad _ _ _ _ HBAD.out).mono ?_
      rintro e w3 ⟨rfl, rfl⟩
      go_wp2_with fail
      refine (same_eq _ _ _ [] ⟨none, 0, rfl, (by intro z hz; simp at hz), fun _ => rfl, .inl rfl⟩ ⟨none, 0, rfl, (by intro z hz; simp at hz), fun _ => rfl, .inl rfl⟩).mono ?_
      rintro e w4 ⟨rfl, rfl⟩
      go_wp2_with fail
      go_ret
      exact ⟨rfl, HBE.out⟩
  have hlow2 : a2 ≤ 200 := by omega
  by_cases hneg : a2 < 0
  · have HBAD := Lib.hid (show a2 < 0 ∨ 8160 < a2 by omega)
    go_enter Tryd.func6, Tryd.ntmps6
    go_wp2_with fail
    refine (alive3_any w HK.out).mono ?_
    rintro e w1 ⟨rfl, hb1⟩
    have HBE := Lib.hid hb1
    clear hb1
    go_wp2_with fail
    refine (exp_bad _ _ _ w1 HBAD.out).mono ?_
    rintro e w2 ⟨rfl, rfl⟩
    go_wp2_with fail
    refine (rexp_bad _ _ _ _ HBAD.out).mono ?_
    rintro e w3 ⟨rfl, rfl⟩
    go_wp2_with fail
    refine (same_eq _ _ _ [] ⟨none, 0, rfl, (by intro z hz; simp at hz), fun _ => rfl, .inl rfl⟩ ⟨none, 0, rfl, (by intro z hz; simp at hz), fun _ => rfl, .inl rfl⟩).mono ?_
    rintro e w4 ⟨rfl, rfl⟩
    go_wp2_with fail
    go_ret
    exact ⟨rfl, HBE.out⟩
  obtain ⟨n, rfl⟩ : ∃ n : Nat, a2 = (n : Int) := ⟨a2.toNat, by omega⟩
  have HN := Lib.hid (show n ≤ 200 by omega)
  have n0 : (0 : Int) ≤ (n : Int) := by omega
  clear hneg
  go_enter Tryd.func6, Tryd.ntmps6
  go_wp2_with fail
  refine (alive3_any w HK.out).mono ?_
  rintro e w1 ⟨rfl, hb1⟩
  have HBE1 := Lib.hid hb1
  have HEXP := Lib.hid (exp_ok l0 (.slice a0 len0 cap0) s1 n w1 (HK.out.below hb1 HPOS.out) (HB0.out.kept hb1) (room_of _ _ _ HM.out.1 (by have := HM.out.2; omega)) (by rw [HE.out]; have := HLE.out; omega) (by have := HLE.out; omega) (by have := HN.out; omega))
  clear hb1
  go_wp2_with fail
  refine HEXP.out.mono ?_
  rintro e w2 ⟨⟨v2, rfl, ho2⟩, hb2⟩
  obtain ⟨a2, c2, rfl, _⟩ := own_shape ho2
  have HBE2 := Lib.hid (HBE1.out.trans (hb2.mono HBE1.out.size))
  have HBA := Lib.hid (BS.of_own ho2 (expS_length _ _ _) (expS_byt _ _ _))
  have HR := Lib.hid (rexp_ok l0 (.slice a0 len0 cap0) s1 n w2 (HB0.out.kept HBE2.out) (room_of _ _ _ HM.out.1 (by have := HM.out.2; omega)) (by rw [HE.out]; have := HLE.out; omega) (by have := HLE.out; omega) (by have := HN.out; omega))
  clear ho2 hb2
  go_wp2_with fail
  refine HR.out.mono ?_
  rintro e w3 ⟨⟨v3, rfl, hv3⟩, hb3⟩
  have HBE3 := Lib.hid (HBE2.out.trans (hb3.mono HBE2.out.size))
  have HSAME := Lib.hid (same_eq w3 _ _ _ (HBA.out.kept hb3) hv3)
  clear hv3 hb3
  go_wp2_with fail
  refine HSAME.out.mono ?_
  rintro e w4 ⟨rfl, rfl⟩
  go_wp2_with fail
  go_ret
  exact ⟨rfl, HBE3.out⟩
set_option maxRecDepth 100000 in
theorem lifted (os : Os) (started : os.Started) (H : Type) (enc : TypeId × Value → H) :
    ReturnsInHanded {} Tryd.checked os 6 .any (fun w args => (Rows.macExpandsSpec.pre enc Tryd.prog Tryd.f6 [] false w args ∧ laidMetH Tryd.prog [("banyan/sha.roundNumbers", Rows.laid_banyan_sha_roundNumbers)] w) ∧ sizedMet enc Tryd.prog Tryd.f6 (OpenSpec.ofChange Rows.macExpandsSpec) false w args)
      (Rows.macExpandsSpec.post enc Tryd.prog Tryd.f6 false true false false) := by
  refine returnsInHanded_of_change_and (C := Tryd.checked) (X := fun w _ => laidMetH Tryd.prog [("banyan/sha.roundNumbers", Rows.laid_banyan_sha_roundNumbers)] w) (fun _ _ _ hh h => h.of_heap hh) own started (by kernel_rfl) Tryd.func6
    (ChangeSpec.witness_shaped (enc := enc) (C := Tryd.checked) (os := os) (X := fun w _ => laidMetH Tryd.prog [("banyan/sha.roundNumbers", Rows.laid_banyan_sha_roundNumbers)] w) false (World.doorLaid Tryd.prog 400 os) #[.slice none 0 0, .string ⟨#[]⟩, .int .i64 0] 8 rfl (World.shaped_of_RefB (by kernel_rfl) (by kernel_rfl)) (by kernel_rfl) (by kernel_rfl) (by kernel_rfl) (door_met os _)) ?_
  intro W base args ds gs before hval0 hW _ hsz0 hL _
  have hval : ∀ (j : Nat) t v, Tryd.f6.params[j]? = some t → args[j]? = some v → Value.okWide Tryd.prog W .any base t v := hval0
  have hsz : (DataW.weightsEach Tryd.prog (Tryd.f6.params.toList ++ Rows.macExpandsSpec.plain.varTypes Tryd.prog) (ds ++ gs)).all (· ≤ reachBytes) = true := hsz0
  clear hsz0
  have hW' := hW
  obtain ⟨p, q, hA0, hV, rfl, hfz, hnd⟩ := hW
  have hA : DataW.TrodAll enc Tryd.prog W 0 (fun _ => true) true Tryd.f6.params.toList args.toList ds p := hA0
  rw [Tryd.params6] at hA hval hsz
  obtain ⟨v0, vs0, d0, ds0, p0, q0, hargs, rfl, rfl, h0, r0⟩ := trodAll_cons hA
  obtain ⟨v1, vs1, d1, ds1, p1, q1, rfl, rfl, rfl, h1, r1⟩ := trodAll_cons r0
  obtain ⟨v2, vs2, d2, ds2, p2, q2, rfl, rfl, rfl, h2, r2⟩ := trodAll_cons r1
  obtain ⟨rfl, rfl, rfl⟩ := trodAll_nil r2
  obtain rfl : args = #[v0, v1, v2] := by cases args; simp_all
  obtain ⟨rfl, rfl⟩ := trodVars_none hV
  have k0 := h0
  have lt0 : ∀ x ∈ p0, x.block < W.heap.size := by obtain ⟨m, hm⟩ := k0; exact DataW.trod_lt m _ _ _ hm
  obtain ⟨a0, len0, cap0, l0, rfl, e0, b0, m0, n0⟩ := open_bs (hval 0 22 v0 rfl rfl) h0 (fun elems spare hd => sized_slice hsz (j := 0) (t := 22) (e := 5) rfl (by rw [hd]; rfl) Tryd.underlying22)
  obtain ⟨s1, rfl, rfl, rfl, _⟩ := open_string Tryd.underlying9 (hval 1 9 v1 rfl rfl) h1
  have z1 : s1.size ≤ 140737488351232 := by
    have := sized_string hsz (j := 1) (t := 9) rfl rfl
    exact this
  obtain ⟨a2, rfl, rfl, rfl, w2⟩ := open_int Tryd.underlying3 (hval 2 3 v2 rfl rfl) h2
  obtain ⟨h20, h21⟩ : -9223372036854775808 ≤ a2 ∧ a2 ≤ 9223372036854775807 := by
    have := w2
    simp [Lit.wf, IntKind.min, IntKind.max, IntKind.signed, IntKind.bits] at this
    omega
  have hK := of_laid hL
  clear hA0 hval0
  refine (walk W a0 len0 cap0 l0 e0 b0 m0 n0 s1 z1 a2 h20 h21 hK).mono fun e W' ⟨he, bel⟩ => ?_
  subst he
  exact ⟨_, rfl, _, _, _, [], _, [], hW', trodAll_mk1 (shut_bool Tryd.underlying4 _), (trodAll_cons_mk (Below.trod laidOut (by kernel_rfl) (of_decide_eq_true (by kernel_rfl)) k0 bel lt0) (trodAll_cons_mk (shut_string Tryd.underlying9 (by unfold maxLen; omega)) (trodAll_cons_mk (shut_int Tryd.underlying3 w2) trodAll_mk0))), rfl, bel.frame _, fun h => by cases h⟩

theorem over : Rows.MacExpandsSaid :=
  OpenClaim.holds_of_wide 6 Tryd.f6 rfl rfl rfl rfl rfl rfl rfl ⟨rfl, rfl, rfl, rfl, rfl⟩ rfl rfl rfl rfl rfl (by kernel_rfl) Tryd.func6 (by kernel_rfl)
    (of_decide_eq_true (by kernel_rfl)) (by unfold Func.isWrapper; first | (rw [if_pos (by decide +kernel)]; kernel_rfl) | (rw [if_neg (by decide +kernel)]; exact ⟨rfl, rfl⟩))
    (fun os started H enc _ => lifted os started H enc)

/-- The statement. -/
theorem proved : Rows.MacExpandsCardSaid :=
  Claim7.holds_tied_plain_at .later [] [.data] true (true, "e0374d2ffff8b996aa7eb96177f9d43dd083ddb5548ca805c513efc6b04d9a8e") false
    over (fun _ h => by cases h) (by kernel_rfl) (fun _ h => by cases h) macExpands_row_tie rfl ⟨rfl, rfl⟩ (by kernel_rfl) rfl
    (fun f fn hf hfn => by
      obtain rfl : f = 6 := Option.some.inj ((show Tryd.prog.funcNamed "banyan/banyanlaw03.MacExpands" = some 6 by kernel_rfl).symm.trans hf) |>.symm
      obtain rfl : fn = Tryd.f6 := (Option.some.inj (Tryd.func6.symm.trans hfn)).symm
      exact ⟨by kernel_rfl, fun j t ht => by
        rw [Tryd.params6] at ht
        have hm : t ∈ [22, 9, 3] := by simpa using Array.mem_of_getElem? ht
        have hall : ([22, 9, 3].all fun u => !Tryd.prog.wantsStandIn u) = true := by kernel_rfl
        exact (show Tryd.prog.wantsStandIn t = false by simpa using List.all_eq_true.1 hall t hm)⟩)
    (by kernel_rfl)
#print axioms proved
end Go.Proofs.YtpmeiadnikenmaaDoor.macExpands
