/-
  'SealKeys' returns true at every input, and each argument reads behind the call as it read before. Conditions: the package-level variable that the row lists starts as the program's text lays it (the card ties that).
-/
import Derived.Test.YtfgdddejpdjllaaDoorLaid
import Derived.Test.YtfgdddejpdjllaaDoorCards
import Derived.Test.YtfgdddejpdjllaaDoorTie
import Derived.Test.YtfgdddejpdjllaaDoorEi
namespace Go.Proofs.YtfgdddejpdjllaaDoor.sealKeys
open Go.ChangeShapes Go.WideShapes Go.ChangeAt Go.RowKit
set_option linter.unusedVariables false


set_option maxRecDepth 100000 in
set_option maxHeartbeats 1600000 in
theorem walk (w : World) (a0 : Option Addr) (len0 cap0 : Nat) (x0 : List Int) (e0 : x0.length = len0) (m0 : len0 ≤ cap0) (n0 : cap0 ≤ 140737488351232) (b0 : BS w (.slice a0 len0 cap0) x0) (hK : KT w) :
    Calls Tryd.prog 3 #[.slice a0 len0 cap0] w fun e w' => e = .returned (.bool true) ∧ Below w.heap.size w w' := by
  have l0 : (0 : Int) ≤ (len0 : Int) := by omega
  have lI : (len0 : Int) ≤ 140737488351232 := by omega
  have HAL := Lib.hid (alive12_any w hK)
  by_cases hbig : 300 < len0
  · have hbI : (300 : Int) < (len0 : Int) := by omega
    clear hbig e0 m0 n0 b0 hK
    go_enter Tryd.func3, Tryd.ntmps3
    go_wp2_with fail
    refine HAL.out.mono ?_
    rintro e w1 ⟨rfl, hb1⟩
    have HB1 := Lib.hid hb1
    clear hb1 HAL
    go_wp2_with fail
    go_ret
    exact ⟨rfl, HB1.out⟩
  have hsI : (len0 : Int) ≤ 300 := by omega
  have HP := Lib.hid (fun (W : World) (hb : Below w.heap.size w W) => pkeysK_any x0 (.slice a0 len0 cap0) W (b0.kept hb) (room_of _ _ _ m0 (by omega)) (hK.below hb hK.pos) (by omega))
  have HR := Lib.hid (fun (W : World) (hb : Below w.heap.size w W) => rkeysK_any x0 (.slice a0 len0 cap0) W (b0.kept hb) (room_of _ _ _ m0 (by omega)) (by omega))
  have hel := encK_length x0
  have hml := macK_length x0
  generalize encK x0 = k at *
  generalize macK x0 = m at *
  have hkm : (k ++ m).length = 64 := by rw [List.length_append, hel, hml]
  have SE := Lib.hid (size_keys (k ++ m) hkm)
  have SR := Lib.hid (size_rkeys (k ++ m) hkm)
  have SL := Lib.hid (show (yvs (zeroY 64)).size = (yvs (k ++ m)).size by rw [yvs_size, yvs_size, hkm]; rfl)
  have SO := Lib.hid (yvs_one (k ++ m))
  have heq := eq_key32 k hel
  have heh := eq_hashY m hml
  have IK := Lib.hid (info_keyL k hel)
  have IR := Lib.hid (info_rkeyL k hel)
  have IH := Lib.hid (info_hashY m hml)
  have HRG := Lib.hid (fun (W : World) (b t : Nat) (h : KeyB W b t k m) => And.intro (h.enc hel) (h.mac hel hml))
  have hz1 := zero_keys
  have hz2 := zero_rkeys
  unfold KeyB ArrY at HRG
  generalize yvs (zeroY 64) = ZK at *
  generalize yvs (k ++ m) = KM at *
  clear hbig e0 m0 n0 b0 hK hel hml hkm
  generalize hyk : yvs k = YK at *
  generalize hym : yvs m = YM at *
  clear hyk hym
  go_enter Tryd.func3, Tryd.ntmps3
  go_wp2_with fail
  refine HAL.out.mono ?_
  rintro e w1 ⟨rfl, hb1⟩
  have HB1 := Lib.hid hb1
  clear hb1 HAL
  go_wp2_with fail
  refine (HP.out w1 HB1.out).mono ?_
  rintro e w2 ⟨rfl, hb2⟩
  have HB2 := Lib.hid (HB1.out.trans (hb2.mono HB1.out.size))
  clear hb2 HB1 HP
  go_wp2_with fail
  refine (HR.out w2 HB2.out).mono ?_
  rintro e w3 ⟨rfl, hb3⟩
  have HB3 := Lib.hid (HB2.out.trans (hb3.mono HB2.out.size))
  clear hb3 HB2 HR
  go_upto_region 6 with (first
    | (with_reducible refine wpList_store_row (o := ⟨none, .store _ (.tmp 3) _, _, _, _, _⟩) rfl 28 _ _ rfl w3.heap.size KM rfl rfl 28 ZK (ytwo w3 _ _).1 SE.out SL.out SO.out ?_)
    | (with_reducible refine wpList_store_row (o := ⟨none, .store _ (.tmp 4) _, _, _, _, _⟩) rfl 31 _ _ rfl (w3.heap.size + 1) KM rfl rfl 31 ZK ((setRow_other _ _ _ _ (by omega)).trans (ytwo w3 _ _).2.1) SR.out SL.out SO.out ?_))
  generalize hW4 : World.setRow _ (w3.heap.size + 1) _ = w4
  obtain ⟨r1, r2, hb4⟩ := fresh_two w3 ZK ZK KM KM 28 31 w4 hW4.symm
  have h1 := HRG.out w4 w3.heap.size 28 r1
  have h2 := HRG.out w4 (w3.heap.size + 1) 31 r2
  have HH := Lib.hid (And.intro h1 h2)
  have HB4 := Lib.hid (HB3.out.trans (hb4.mono HB3.out.size))
  clear hW4 r1 r2 hb4 h1 h2 HB3 hz1 hz2 SE SR SL SO HRG
  go_wp2_with (first
    | (with_reducible refine wpList_load_mid (op := ⟨some 15, _, _, _, _, _⟩) rfl 25 _ rfl w3.heap.size 0 rfl YK.toList _ HH.out.1.1 Tryd.underlying25 rfl IK.out ?_)
    | (with_reducible refine wpList_load_mid (op := ⟨some 17, _, _, _, _, _⟩) rfl 24 _ rfl (w3.heap.size + 1) 0 rfl YK.toList _ HH.out.2.1 Tryd.underlying24 rfl IR.out ?_)
    | (with_reducible refine wpList_load_mid_g (op := ⟨some 21, _, _, _, _, _⟩) (by kernel_rfl) 26 _ rfl w3.heap.size 32 rfl YM.toList _ HH.out.1.2 Tryd.underlying26 rfl IH.out ?_)
    | (with_reducible refine wpList_load_mid_g (op := ⟨some 23, _, _, _, _, _⟩) (by kernel_rfl) 26 _ rfl (w3.heap.size + 1) 32 rfl YM.toList _ HH.out.2.2 Tryd.underlying26 rfl IH.out ?_))
  go_ret
  exact ⟨rfl, HB4.out⟩
set_option maxRecDepth 100000 in
theorem lifted (os : Os) (started : os.Started) (H : Type) (enc : TypeId × Value → H) :
    ReturnsInHanded {} Tryd.checked os 3 .any (fun w args => (Rows.sealKeysSpec.pre enc Tryd.prog Tryd.f3 [] false w args ∧ laidMetH Tryd.prog [("banyan/sha.roundNumbers", Rows.laid_banyan_sha_roundNumbers)] w) ∧ sizedMet enc Tryd.prog Tryd.f3 (OpenSpec.ofChange Rows.sealKeysSpec) false w args)
      (Rows.sealKeysSpec.post enc Tryd.prog Tryd.f3 false true false false) := by
  refine returnsInHanded_of_change_and (C := Tryd.checked) (X := fun w _ => laidMetH Tryd.prog [("banyan/sha.roundNumbers", Rows.laid_banyan_sha_roundNumbers)] w) (fun _ _ _ hh h => h.of_heap hh) own2 started (by kernel_rfl) Tryd.func3
    (ChangeSpec.witness_shaped (enc := enc) (C := Tryd.checked) (os := os) (X := fun w _ => laidMetH Tryd.prog [("banyan/sha.roundNumbers", Rows.laid_banyan_sha_roundNumbers)] w) false (World.doorLaid Tryd.prog 400 os) #[.slice none 0 0] 8 rfl (World.shaped_of_RefB (by kernel_rfl) (by kernel_rfl)) (by kernel_rfl) (by kernel_rfl) (by kernel_rfl) (door_met os _)) ?_
  intro W base args ds gs before hval0 hW _ hsz0 hL _
  have hval : ∀ (j : Nat) t v, Tryd.f3.params[j]? = some t → args[j]? = some v → Value.okWide Tryd.prog W .any base t v := hval0
  have hsz : (DataW.weightsEach Tryd.prog (Tryd.f3.params.toList ++ Rows.sealKeysSpec.plain.varTypes Tryd.prog) (ds ++ gs)).all (· ≤ reachBytes) = true := hsz0
  clear hsz0
  have hW' := hW
  obtain ⟨p, q, hA0, hV, rfl, hfz, hnd⟩ := hW
  have hA : DataW.TrodAll enc Tryd.prog W 0 (fun _ => true) true Tryd.f3.params.toList args.toList ds p := hA0
  rw [Tryd.params3] at hA hval hsz
  obtain ⟨v0, vs0, d0, ds0, p0, q0, hargs, rfl, rfl, h0, r0⟩ := trodAll_cons hA
  obtain ⟨rfl, rfl, rfl⟩ := trodAll_nil r0
  obtain rfl : args = #[v0] := by cases args; simp_all
  obtain ⟨rfl, rfl⟩ := trodVars_none hV
  have k0 := h0
  have lt0 : ∀ x ∈ p0, x.block < W.heap.size := by obtain ⟨m, hm⟩ := k0; exact DataW.trod_lt m _ _ _ hm
  obtain ⟨a0, len0, cap0, x0, rfl, e0, m0, n0, b0⟩ := par_bytes (j := 0) (hval 0 22 v0 rfl rfl) h0 hsz rfl rfl
  have hK := of_laid hL
  clear hA0 hval0
  refine (walk W a0 len0 cap0 x0 e0 m0 n0 b0 hK).mono fun e W' ⟨he, bel⟩ => ?_
  subst he
  exact ⟨_, rfl, _, _, _, [], _, [], hW', trodAll_mk1 (shut_bool Tryd.underlying4 _), (trodAll_cons_mk (Below.trod laidOut2 (by kernel_rfl) (of_decide_eq_true (by kernel_rfl)) k0 bel lt0) trodAll_mk0), rfl, bel.frame _, fun h => by cases h⟩

theorem over : Rows.SealKeysSaid :=
  OpenClaim.holds_of_wide 3 Tryd.f3 rfl rfl rfl rfl rfl rfl rfl ⟨rfl, rfl, rfl, rfl, rfl⟩ rfl rfl rfl rfl rfl (by kernel_rfl) Tryd.func3 (by kernel_rfl)
    (of_decide_eq_true (by kernel_rfl)) (by unfold Func.isWrapper; first | (rw [if_pos (by decide +kernel)]; kernel_rfl) | (rw [if_neg (by decide +kernel)]; exact ⟨rfl, rfl⟩))
    (fun os started H enc _ => lifted os started H enc)

/-- The statement. -/
theorem proved : Rows.SealKeysCardSaid :=
  Claim7.holds_tied_plain_at .later [] [.data] true (true, "0131f9f1a1f02ebf5a16687d2fe8903395483cdb43346dae7a1c73827a36235e") false
    over (fun _ h => by cases h) (by kernel_rfl) (fun _ h => by cases h) sealKeys_row_tie rfl ⟨rfl, rfl⟩ (by kernel_rfl) rfl
    (fun f fn hf hfn => by
      obtain rfl : f = 3 := Option.some.inj ((show Tryd.prog.funcNamed "banyan/banyanlaw12.SealKeys" = some 3 by kernel_rfl).symm.trans hf) |>.symm
      obtain rfl : fn = Tryd.f3 := (Option.some.inj (Tryd.func3.symm.trans hfn)).symm
      exact ⟨by kernel_rfl, fun j t ht => by
        rw [Tryd.params3] at ht
        have hm : t ∈ [22] := by simpa using Array.mem_of_getElem? ht
        have hall : ([22].all fun u => !Tryd.prog.wantsStandIn u) = true := by kernel_rfl
        exact (show Tryd.prog.wantsStandIn t = false by simpa using List.all_eq_true.1 hall t hm)⟩)
    (by kernel_rfl)
#print axioms proved
end Go.Proofs.YtfgdddejpdjllaaDoor.sealKeys
