/-
  'MacBegins' returns true at every input, and each argument reads behind the call as it read before. Conditions: the package-level variable that the row lists starts as the program's text lays it (the card ties that).
-/
import Derived.Test.YtpmeiadnikenmaaDoorLaid
import Derived.Test.YtpmeiadnikenmaaDoorCards
import Derived.Test.YtpmeiadnikenmaaDoorTie
import Derived.Test.YtpmeiadnikenmaaDoorZeros
import Derived.Test.YtpmeiadnikenmaaDoorOpen
import Derived.Deep.DeepCutAuto
namespace Go.Proofs.YtpmeiadnikenmaaDoor.macBegins
open Go.ChangeShapes Go.WideShapes Go.ChangeAt Go.RowKit
open Go.ChangeMaps (open_string shut_string)
set_option linter.unusedVariables false

theorem expAll_front (key lab : List Int) (k d : Nat) : (expAll key lab (k + d)).take (32 * k) = expAll key lab k := by
  induction d with
  | zero => exact List.take_of_length_le (by rw [expAll_length]; exact Nat.le_refl _)
  | succ d ih =>
    rw [← Nat.add_assoc, expAll, List.take_append_of_le_length (by rw [expAll_length]; omega)]
    exact ih
theorem expS_front (key lab : List Int) (i j : Nat) (h : i ≤ j) : (expS key lab j).take i = expS key lab i := by
  unfold expS
  have e := expAll_front key lab ((i + 31) / 32) ((j + 31) / 32 - (i + 31) / 32)
  rw [show (i + 31) / 32 + ((j + 31) / 32 - (i + 31) / 32) = (j + 31) / 32 by omega] at e
  rw [List.take_take, Nat.min_eq_left h, ← e, List.take_take, Nat.min_eq_left (by omega)]

set_option maxRecDepth 100000 in
set_option maxHeartbeats 1600000 in
theorem walk (w : World) (a0 : Option Addr) (len0 cap0 : Nat) (l0 : List Int) (s0 : ByteArray) (x0 y0 : Int) (e0 : l0.length = len0) (b0 : BS w (.slice a0 len0 cap0) l0) (m0 : len0 ≤ cap0) (n0 : cap0 ≤ 140737488351232) (z0 : s0.size ≤ 140737488351232) (hx0 : 0 ≤ x0) (hx1 : x0 ≤ 65535) (hy0 : 0 ≤ y0) (hy1 : y0 ≤ 65535) (hK : KT w) :
    Calls Tryd.prog 7 #[.agg #[.slice a0 len0 cap0, .string s0, .int .u16 x0, .int .u16 y0]] w fun e w' => e = .returned (.bool true) ∧ Below w.heap.size w w' := by
  have HK := Lib.hid hK
  have HPOS := Lib.hid hK.pos
  have HB0 := Lib.hid b0
  have HE := Lib.hid e0
  have HM := Lib.hid (And.intro m0 n0)
  have len0I : (len0 : Int) ≤ 140737488351232 := by omega
  have s0I : (s0.size : Int) ≤ 140737488351232 := by omega
  obtain ⟨i, hi, hi6⟩ : ∃ i : Nat, x0 % 600 = (i : Int) ∧ i ≤ 599 := ⟨(x0 % 600).toNat, by omega, by omega⟩
  obtain ⟨j, hj, hj6⟩ : ∃ j : Nat, y0 % 600 = (j : Int) ∧ j ≤ 599 := ⟨(y0 % 600).toNat, by omega, by omega⟩
  obtain ⟨p, q, hp, hq, hpq, hq6⟩ : ∃ p q : Nat, (if j < i then (j : Int) else (i : Int)) = (p : Int) ∧ (if i < j then (j : Int) else (i : Int)) = (q : Int) ∧ p ≤ q ∧ q ≤ 599 := by
    by_cases h : j < i
    · exact ⟨j, i, if_pos h, if_neg (by omega), by omega, by omega⟩
    · by_cases h2 : i < j
      · exact ⟨i, j, if_neg h, if_pos h2, by omega, by omega⟩
      · exact ⟨i, i, if_neg h, if_neg h2, by omega, by omega⟩
  have HPQ := Lib.hid (And.intro hpq hq6)
  have p0 : (0 : Int) ≤ (p : Int) := by omega
  have pqI : (p : Int) ≤ (q : Int) := by omega
  have q6I : (q : Int) ≤ 599 := by omega
  clear hK b0 e0 m0 n0 z0 hi6 hj6 hpq hq6
  go_enter Tryd.func7, Tryd.ntmps7
  go_wp2_with fail
  have hb0 := (Below.refl w.heap.size w).alloc (Nat.le_refl _) (.cells #[.slice a0 len0 cap0, .string s0, .int .u16 x0, .int .u16 y0] 55)
  have hA0 := heap_alloc_new w (.cells #[.slice a0 len0 cap0, .string s0, .int .u16 x0, .int .u16 y0] 55)
  refine (alive3_any _ (HK.out.below hb0 HPOS.out)).mono ?_
  rintro e w1 ⟨rfl, hb1⟩
  have HBE1 := Lib.hid (hb0.trans (hb1.mono hb0.size))
  have hA1 := (hb1.block w.heap.size (by simp)).trans hA0
  have d0 := cell_of_row w1 _ 0 _ _ _ hA1
  have d1 := cell_of_row w1 _ 1 _ _ _ hA1
  have d2 := cell_of_row w1 _ 2 _ _ _ hA1
  have d3 := cell_of_row w1 _ 3 _ _ _ hA1
  clear hb0 hA0 hb1 hA1
  go_wp2_with fail
  go_quiet (fail)
  by_cases hbig : (1000 : Int) < (len0 : Int) + (s0.size : Int)
  · go_wp2_with fail
    go_ret
    exact ⟨rfl, below_drewN HBE1.out _⟩
  have hle : (len0 : Int) + (s0.size : Int) ≤ 1000 := by omega
  have HLE := Lib.hid (show len0 + s0.size ≤ 1000 by omega)
  clear hbig d0 d1 d2 d3
  go_upto_region 8 with (fail)
  generalize hW2 : w1.drewN _ = W2
  have HBE2 := Lib.hid (show Below w.heap.size w W2 by rw [← hW2]; exact below_drewN HBE1.out _)
  clear hW2
  have EXPV := Lib.hid (fun (W : World) (hb : Below w.heap.size w W) (n : Nat) (hn : n ≤ 8160) => exp_ok l0 (.slice a0 len0 cap0) s0 n W (HK.out.below hb HPOS.out) (HB0.out.kept hb) (room_of _ _ _ HM.out.1 (by have := HM.out.2; omega)) (by rw [HE.out]; have := HLE.out; omega) (by have := HLE.out; omega) hn)
  go_wp2_with fail
  refine (EXPV.out W2 HBE2.out p (by have := HPQ.out.1; have := HPQ.out.2; omega)).mono ?_
  rintro e w3 ⟨⟨v3, rfl, ho3⟩, hb3⟩
  obtain ⟨a3, c3, rfl, _⟩ := own_shape ho3
  have HBE3 := Lib.hid (HBE2.out.trans (hb3.mono HBE2.out.size))
  have HA3 := Lib.hid (BS.of_own ho3 (expS_length _ _ _) (expS_byt _ _ _))
  clear ho3 hb3
  go_wp2_with fail
  refine (EXPV.out w3 HBE3.out q (by have := HPQ.out.2; omega)).mono ?_
  rintro e w4 ⟨⟨v4, rfl, ho4⟩, hb4⟩
  obtain ⟨a4, c4, rfl, _⟩ := own_shape ho4
  have HBE4 := Lib.hid (HBE3.out.trans (hb4.mono HBE3.out.size))
  have HA4 := Lib.hid (BS.of_own ho4 (expS_length _ _ _) (expS_byt _ _ _))
  have HRM := Lib.hid (room_of_own ho4)
  have HA3' := Lib.hid (HA3.out.kept hb4)
  clear ho4 hb4
  obtain ⟨a5, _, _, hsl, hbs, _⟩ := slice_part w4 a4 q c4 0 p _ HA4.out (expS_length _ _ _) (Nat.zero_le _) HPQ.out.1 (HRM.out _ _ _ rfl).1
  have hsl2 := hsl rfl
  rw [Nat.sub_zero, Nat.sub_zero] at hsl2 hbs
  rw [List.drop_zero, expS_front _ _ _ _ HPQ.out.1] at hbs
  have HSAME := Lib.hid (same_eq w4 _ _ _ HA3'.out hbs)
  clear hsl hbs hp hq hi hj
  go_wp2_with fail
  refine HSAME.out.mono ?_
  rintro e w5 ⟨rfl, rfl⟩
  go_wp2_with fail
  go_ret
  exact ⟨rfl, HBE4.out⟩
set_option maxRecDepth 100000 in
theorem lifted (os : Os) (started : os.Started) (H : Type) (enc : TypeId × Value → H) :
    ReturnsInHanded {} Tryd.checked os 7 .any (fun w args => (Rows.macBeginsSpec.pre enc Tryd.prog Tryd.f7 [] false w args ∧ laidMetH Tryd.prog [("banyan/sha.roundNumbers", Rows.laid_banyan_sha_roundNumbers)] w) ∧ sizedMet enc Tryd.prog Tryd.f7 (OpenSpec.ofChange Rows.macBeginsSpec) false w args)
      (Rows.macBeginsSpec.post enc Tryd.prog Tryd.f7 false true false false) := by
  refine returnsInHanded_of_change_and (C := Tryd.checked) (X := fun w _ => laidMetH Tryd.prog [("banyan/sha.roundNumbers", Rows.laid_banyan_sha_roundNumbers)] w) (fun _ _ _ hh h => h.of_heap hh) own started (by kernel_rfl) Tryd.func7
    (ChangeSpec.witness_shaped (enc := enc) (C := Tryd.checked) (os := os) (X := fun w _ => laidMetH Tryd.prog [("banyan/sha.roundNumbers", Rows.laid_banyan_sha_roundNumbers)] w) false (World.doorLaid Tryd.prog 400 os) #[.agg #[.slice none 0 0, .string ⟨#[]⟩, .int .u16 0, .int .u16 0]] 8 rfl (World.shaped_of_RefB (by kernel_rfl) (by kernel_rfl)) (by kernel_rfl) (by kernel_rfl) (by kernel_rfl) (door_met os _)) ?_
  intro W base args ds gs before hval0 hW _ hsz0 hL _
  have hval : ∀ (j : Nat) t v, Tryd.f7.params[j]? = some t → args[j]? = some v → Value.okWide Tryd.prog W .any base t v := hval0
  have hsz : (DataW.weightsEach Tryd.prog (Tryd.f7.params.toList ++ Rows.macBeginsSpec.plain.varTypes Tryd.prog) (ds ++ gs)).all (· ≤ reachBytes) = true := hsz0
  clear hsz0
  have hW' := hW
  obtain ⟨p, q, hA0, hV, rfl, hfz, hnd⟩ := hW
  have hA : DataW.TrodAll enc Tryd.prog W 0 (fun _ => true) true Tryd.f7.params.toList args.toList ds p := hA0
  rw [Tryd.params7] at hA hval hsz
  obtain ⟨v0, vs0, d0, ds0, p0, q0, hargs, rfl, rfl, h0, r0⟩ := trodAll_cons hA
  obtain ⟨rfl, rfl, rfl⟩ := trodAll_nil r0
  obtain rfl : args = #[v0] := by cases args; simp_all
  obtain ⟨rfl, rfl⟩ := trodVars_none hV
  have k0 := h0
  have lt0 : ∀ x ∈ p0, x.block < W.heap.size := by obtain ⟨m, hm⟩ := k0; exact DataW.trod_lt m _ _ _ hm
  obtain ⟨a0, len0, cap0, l0, s0, x0, y0, rfl, e0, b0, m0, n0, z0, hx0, hx1, hy0, hy1⟩ := open_begun (hval 0 55 v0 rfl rfl) h0 hsz
  have hK := of_laid hL
  clear hA0 hval0
  refine (walk W a0 len0 cap0 l0 s0 x0 y0 e0 b0 m0 n0 z0 hx0 hx1 hy0 hy1 hK).mono fun e W' ⟨he, bel⟩ => ?_
  subst he
  exact ⟨_, rfl, _, _, _, [], _, [], hW', trodAll_mk1 (shut_bool Tryd.underlying4 _), (trodAll_cons_mk (Below.trod laidOut (by kernel_rfl) (of_decide_eq_true (by kernel_rfl)) k0 bel lt0) trodAll_mk0), rfl, bel.frame _, fun h => by cases h⟩

theorem over : Rows.MacBeginsSaid :=
  OpenClaim.holds_of_wide 7 Tryd.f7 rfl rfl rfl rfl rfl rfl rfl ⟨rfl, rfl, rfl, rfl, rfl⟩ rfl rfl rfl rfl rfl (by kernel_rfl) Tryd.func7 (by kernel_rfl)
    (of_decide_eq_true (by kernel_rfl)) (by unfold Func.isWrapper; first | (rw [if_pos (by decide +kernel)]; kernel_rfl) | (rw [if_neg (by decide +kernel)]; exact ⟨rfl, rfl⟩))
    (fun os started H enc _ => lifted os started H enc)

/-- The statement. -/
theorem proved : Rows.MacBeginsCardSaid :=
  Claim7.holds_tied_plain_at .later [] [.data] true (true, "e0374d2ffff8b996aa7eb96177f9d43dd083ddb5548ca805c513efc6b04d9a8e") false
    over (fun _ h => by cases h) (by kernel_rfl) (fun _ h => by cases h) macBegins_row_tie rfl ⟨rfl, rfl⟩ (by kernel_rfl) rfl
    (fun f fn hf hfn => by
      obtain rfl : f = 7 := Option.some.inj ((show Tryd.prog.funcNamed "banyan/banyanlaw03.MacBegins" = some 7 by kernel_rfl).symm.trans hf) |>.symm
      obtain rfl : fn = Tryd.f7 := (Option.some.inj (Tryd.func7.symm.trans hfn)).symm
      exact ⟨by kernel_rfl, fun j t ht => by
        rw [Tryd.params7] at ht
        have hm : t ∈ [55] := by simpa using Array.mem_of_getElem? ht
        have hall : ([55].all fun u => !Tryd.prog.wantsStandIn u) = true := by kernel_rfl
        exact (show Tryd.prog.wantsStandIn t = false by simpa using List.all_eq_true.1 hall t hm)⟩)
    (by kernel_rfl)
#print axioms proved
end Go.Proofs.YtpmeiadnikenmaaDoor.macBegins
