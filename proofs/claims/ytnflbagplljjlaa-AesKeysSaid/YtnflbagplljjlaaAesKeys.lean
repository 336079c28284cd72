/-
  'AesKeys' returns true at every input, and each argument reads behind the call as it read before. Conditions: none.
-/
import Derived.Test.YtnflbagplljjlaaRows
import Derived.Test.YtnflbagplljjlaaYLaid
import Derived.Test.YtnflbagplljjlaaYAlive
namespace Go.Proofs.Ytnflbagplljjlaa.aesKeys
open Go.ChangeShapes Go.WideShapes Go.ChangeAt Go.RowKit
set_option linter.unusedVariables false

theorem info_k26 : (Try.prog.info? 26).map (·.size) = some 32 := by kernel_rfl
theorem keys_plain (T : List (BitVec 8)) (hs : ∀ i j, 8 ≤ i → i < 60 → j < 4 → T.getD (4 * i + j) 0 = (stepW (tw T (i - 1)) i).getD j 0 ^^^ T.getD (4 * (i - 8) + j) 0) (i j : Nat) (h2 : 2 ≤ i) (h15 : i < 15) (h4 : 4 ≤ j) (h16 : j < 16) :
    T.getD (i * 16 + j) 0 = T.getD (i * 16 + (j - 4)) 0 ^^^ T.getD ((i - 2) * 16 + j) 0 := by
  have h := hs (4 * i + j / 4) (j % 4) (by omega) (by omega) (by omega)
  have e1 : 4 * (4 * i + j / 4) + j % 4 = i * 16 + j := by omega
  have e2 : 4 * (4 * i + j / 4 - 8) + j % 4 = (i - 2) * 16 + j := by omega
  rw [e1, e2] at h
  rw [h]
  congr 1
  have e3 : 4 * (4 * i + j / 4 - 1) + j % 4 = i * 16 + (j - 4) := by omega
  unfold stepW
  rw [if_neg (by omega), if_neg (by omega)]
  have e4 : [(tw T (4 * i + j / 4 - 1)).getD 0 0, (tw T (4 * i + j / 4 - 1)).getD 1 0, (tw T (4 * i + j / 4 - 1)).getD 2 0, (tw T (4 * i + j / 4 - 1)).getD 3 0] = tw T (4 * i + j / 4 - 1) := rfl
  rw [e4, tw_at _ _ _ (by omega), e3]

set_option maxRecDepth 100000 in
set_option maxHeartbeats 3200000 in
theorem walk (x0 : List (BitVec 8)) (hx0 : x0.length = 32) (w : World) :
    Calls Try.prog 8 #[.agg (yvs x0)] w fun e w' => e = .returned (.bool true) ∧ Below w.heap.size w w' := by
  have HRD := Lib.hid (fun w => rounds_any x0 w hx0)
  have HTL := Lib.hid (keysL_length x0 hx0)
  have HTK := Lib.hid (keys_key x0 hx0)
  have HTP := Lib.hid (keys_plain _ (keys_step x0 hx0))
  have HXL := Lib.hid hx0
  have SK := Lib.hid (show (Try.prog.info? 26).map (·.size) = some (yvs x0).size by rw [info_k26, yvs_size, hx0])
  have hz := zero_rounds
  generalize keysL x0 = T at *
  have ST := Lib.hid (size_rounds T HTL.out)
  clear hx0
  go_enter Try.func8, Try.ntmps8
  go_wp2_with fail
  refine (alive4_any _).mono ?_
  rintro e w1 ⟨rfl, hb1⟩
  have hX1 := (hb1.block w.heap.size (by simp)).trans (heap_alloc_new w (.cells (yvs x0) 26))
  have HX1 := Lib.hid hX1
  have HB1 := Lib.hid (((Below.refl w.heap.size w).alloc (Nat.le_refl _) (.cells (yvs x0) 26)).trans (hb1.mono (by simp)))
  have HZ1 := Lib.hid (show w.heap.size < w1.heap.size by have := hb1.size; simp at this; omega)
  clear hX1 hb1
  go_wp2_with (first
    | (with_reducible refine wpList_load_row (o := ⟨some 9, _, _, _, _, _⟩) rfl 26 _ rfl w.heap.size rfl 26 (yvs x0) (0, 0) _ HX1.out Try.underlying26 rfl SK.out ?_))
  refine (HRD.out _).mono ?_
  rintro e w2 ⟨rfl, hb2⟩
  have HX2 := Lib.hid (show ArrY w2 w.heap.size 26 x0 from (hb2.block _ HZ1.out).trans HX1.out)
  have HB2 := Lib.hid (HB1.out.trans (hb2.mono (Nat.le_of_lt HZ1.out)))
  have HZ2 := Lib.hid (show w.heap.size < w2.heap.size from Nat.lt_of_lt_of_le HZ1.out hb2.size)
  clear hb2
  go_upto_region 4 with (first
    | (with_reducible refine wpList_store_row (o := ⟨none, .store _ (.tmp 3) _, _, _, _, _⟩) rfl 31 _ _ rfl w2.heap.size (yvs T) rfl rfl 31 _ (heap_alloc_new w2 _) ST.out ?c1 (yvs_one _) ?_))
  case c1 => rw [yvs_size, yvs_size, HTL.out]; simp [zeroY]
  clear hz
  generalize hW3 : World.setRow _ w2.heap.size _ = W3
  have h3 : ArrY W3 w.heap.size 26 x0 ∧ ArrY W3 w2.heap.size 31 T ∧ Below w.heap.size w W3 := by
    obtain ⟨e1, e2, e3⟩ := ygen_row (w := w2) (old := yvs (zeroY 240)) (cs := yvs T) (T := 31)
    rw [← hW3]
    exact ⟨(e3.block _ HZ2.out).trans HX2.out, e1, HB2.out.trans (e3.mono (Nat.le_of_lt HZ2.out))⟩
  have H3 := Lib.hid h3
  clear hW3 h3 HX2 HB2 HZ2 HX1 HB1 HZ1
  generalize w2.heap.size = PR at *
  go_wp2_with fail
  go_loopw [11] (fun v11 wr => ∃ i : Nat, i ≤ 16 ∧ v11 = .int .i64 (i : Nat) ∧ ArrY wr w.heap.size 26 x0 ∧ ArrY wr PR 31 T ∧ Below w.heap.size w wr) (fun v _ => 16 - (intOf v).toNat)
  case atStart => exact ⟨0, by omega, rfl, H3.out.1, H3.out.2.1, H3.out.2.2⟩
  case round =>
    obtain ⟨i, hi, rfl, hK, hA, hb⟩ := hrel
    by_cases hlt : i < 16
    · have c0 := hA.cell (k := i) (by rw [HTL.out]; omega)
      have c1 := hK.cell (k := i) (by rw [HXL.out]; omega)
      have c2 := hA.cell (k := 16 + i) (by rw [HTL.out]; omega)
      have c3 := hK.cell (k := 16 + i) (by rw [HXL.out]; omega)
      rw [HTK.out _ (by omega)] at c0 c2
      have HH := Lib.hid (And.intro hK (And.intro hA hb))
      have HLT := Lib.hid hlt
      have iI : (i : Int) < 16 := by omega
      have i0 : (0 : Int) ≤ (i : Int) := by omega
      generalize x0.getD i 0 = y at *
      generalize x0.getD (16 + i) 0 = z at *
      clear hi hlt hK hA hb
      go_wp2_with fail
      go_quiet (fail)
      go_wp2_with fail
      go_roundw
      case rel => exact ⟨i + 1, by have := HLT.out; omega, by go_num, HH.out.1, HH.out.2.1, ybelow_drewN HH.out.2.2 _⟩
      case measure => simp [intOf]; omega
    · have hge : (16 : Int) ≤ (i : Int) := by omega
      have HH := Lib.hid (And.intro hA hb)
      clear hi hlt hK hA hb
      go_wp2_with fail
      clear hge
      go_loopw [5] (fun v5 wr => ∃ a : Nat, 2 ≤ a ∧ a ≤ 15 ∧ v5 = .int .i64 (a : Nat) ∧ ArrY wr PR 31 T ∧ Below w.heap.size w wr) (fun v _ => 15 - (intOf v).toNat)
      case atStart => exact ⟨2, by omega, by omega, rfl, HH.out.1, HH.out.2⟩
      case round =>
        obtain ⟨a, h2, h15, rfl, hA, hb⟩ := hrel
        by_cases hlt : a < 15
        · have HA := Lib.hid (And.intro h2 hlt)
          have HHA := Lib.hid (And.intro hA hb)
          have aI : (a : Int) < 15 := by omega
          have a0 : (2 : Int) ≤ (a : Int) := by omega
          clear h2 h15 hlt hA hb
          go_wp2_with fail
          go_loopw [6] (fun v6 wr => ∃ j : Nat, 4 ≤ j ∧ j ≤ 16 ∧ v6 = .int .i64 (j : Nat) ∧ ArrY wr PR 31 T ∧ Below w.heap.size w wr) (fun v _ => 16 - (intOf v).toNat)
          case atStart => exact ⟨4, by omega, by omega, rfl, HHA.out.1, HHA.out.2⟩
          case round =>
            obtain ⟨j, h4, h16, rfl, hA, hb⟩ := hrel
            by_cases hlt : j < 16
            · have hA2 := HA.out
              obtain ⟨p, ep, hp⟩ : ∃ p : Nat, IntKind.i64.wrap ((a : Int) - 2) = (p : Int) ∧ a = p + 2 := ⟨a - 2, by rw [IntWalk.i64_in _ (by omega)]; omega, by omega⟩
              obtain ⟨q, eq, hq⟩ : ∃ q : Nat, IntKind.i64.wrap ((j : Int) - 4) = (q : Int) ∧ j = q + 4 := ⟨j - 4, by rw [IntWalk.i64_in _ (by omega)]; omega, by omega⟩
              have c0 := hA.cell (k := a * 16 + j) (by rw [HTL.out]; omega)
              have c1 := hA.cell (k := a * 16 + q) (by rw [HTL.out]; omega)
              have c2 := hA.cell (k := p * 16 + j) (by rw [HTL.out]; omega)
              have hT := HTP.out a j hA2.1 hA2.2 h4 hlt
              rw [show j - 4 = q by omega, show a - 2 = p by omega] at hT
              rw [hT] at c0
              have HL := Lib.hid (And.intro h4 hlt)
              have HHB := Lib.hid (And.intro hA hb)
              have jI : (j : Int) < 16 := by omega
              have j0 : (4 : Int) ≤ (j : Int) := by omega
              have pI : (p : Int) < 15 := by omega
              have p0 : (0 : Int) ≤ (p : Int) := by omega
              have qI : (q : Int) < 16 := by omega
              have q0 : (0 : Int) ≤ (q : Int) := by omega
              have hx := yv_xor (T.getD (a * 16 + q) 0) (T.getD (p * 16 + j) 0)
              generalize T.getD (a * 16 + q) 0 = y at *
              generalize T.getD (p * 16 + j) 0 = z at *
              clear hA hb h4 h16 hlt hA2 hp hq hT
              go_wp2_with fail
              go_quiet (fail)
              go_wp2_with fail
              go_roundw
              case rel => exact ⟨j + 1, by have := HL.out; omega, by have := HL.out; omega, by go_num, HHB.out.1, ybelow_drewN HHB.out.2 _⟩
              case measure => simp [intOf]; omega
            · have hge : (16 : Int) ≤ (j : Int) := by omega
              have HHB := Lib.hid (And.intro hA hb)
              clear hA hb h4 h16 hlt
              go_wp2_with fail
              go_roundw
              case rel => exact ⟨a + 1, by have := HA.out; omega, by have := HA.out; omega, by go_num, HHB.out.1, HHB.out.2⟩
              case measure => simp [intOf]; have := HA.out; omega
        · have hge : (15 : Int) ≤ (a : Int) := by omega
          have HHA := Lib.hid hb
          clear h2 h15 hlt hA hb
          go_wp2_with fail
          go_ret
          exact ⟨rfl, HHA.out⟩
set_option maxRecDepth 100000 in
theorem lifted (os : Os) (started : os.Started) (H : Type) (enc : TypeId × Value → H) :
    ReturnsInHanded {} Try.checked os 8 .any (Rows.aesKeysSpec.pre6 enc Try.prog Try.f8 Rows.aesKeysRow.domain false) (Rows.aesKeysSpec.post enc Try.prog Try.f8 false true false false) := by
  refine returnsInHanded_of_change (C := Try.checked) own started (by kernel_rfl) Try.func8
    (ChangeSpec.witness6 (enc := enc) (C := Try.checked) false ⟨#[], #[.agg (Array.replicate 32 (.int .u8 0))], []⟩ 8 (by kernel_rfl) (by kernel_rfl) (by kernel_rfl) (by kernel_rfl)) ?_
  intro W base args ds gs before hval0 hW hcnd _
  have hval : ∀ (j : Nat) t v, Try.f8.params[j]? = some t → args[j]? = some v → Value.okWide Try.prog W .any base t v := hval0
  have hW' := hW
  obtain ⟨p, q, hA0, hV, rfl, hfz, hnd⟩ := hW
  have hA : DataW.TrodAll enc Try.prog W 0 (fun _ => true) true Try.f8.params.toList args.toList ds p := hA0
  rw [Try.params8] at hA hval
  obtain ⟨v0, vs0, d0, ds0, p0, q0, hargs, rfl, rfl, h0, r0⟩ := trodAll_cons hA
  obtain ⟨rfl, rfl, rfl⟩ := trodAll_nil r0
  obtain rfl : args = #[v0] := by cases args; simp_all
  obtain ⟨rfl, rfl⟩ := trodVars_none hV
  have k0 := h0
  have lt0 : ∀ x ∈ p0, x.block < W.heap.size := by obtain ⟨m, hm⟩ := k0; exact DataW.trod_lt m _ _ _ hm
  obtain ⟨x0, rfl, hx0⟩ := open_yrow Try.underlying26 (by kernel_rfl) (by decide) h0
  clear hA0 hval0
  simp only [List.append_nil] at hW'
  refine (walk x0 hx0 W).mono fun e W' ⟨he, bel⟩ => ?_
  subst he
  exact ⟨_, rfl, _, _, _, [], _, [], hW', trodAll_mk1 (shut_bool Try.underlying4 _), (trodAll_cons_mk (Below.trod laidOut (by kernel_rfl) (of_decide_eq_true (by kernel_rfl)) k0 bel lt0) trodAll_mk0), rfl, bel.frame _, fun h => by cases h⟩

theorem over : Rows.aesKeysRow.holds Try.pinned (OpenSpec.ofChange Rows.aesKeysSpec) :=
  OpenClaim.holds_of_wide 8 Try.f8 rfl rfl rfl rfl rfl rfl rfl ⟨rfl, rfl, rfl, rfl, rfl⟩ rfl rfl rfl rfl rfl (by kernel_rfl) Try.func8 (by kernel_rfl)
    (of_decide_eq_true (by kernel_rfl)) (by unfold Func.isWrapper; first | (rw [if_pos (by decide +kernel)]; kernel_rfl) | (rw [if_neg (by decide +kernel)]; exact ⟨rfl, rfl⟩))
    (fun os started H enc _ => lifted os started H enc)

/-- The statement. -/
theorem proved : Rows.AesKeysSaid := over
#print axioms proved
end Go.Proofs.Ytnflbagplljjlaa.aesKeys
