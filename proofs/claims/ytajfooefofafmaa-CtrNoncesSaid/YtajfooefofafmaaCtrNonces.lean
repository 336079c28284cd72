/-
  'CtrNonces' returns true at every input, and each argument reads behind the call as it read before. Conditions: none.
-/
import Derived.Test.YtajfooefofafmaaRows
import Derived.Test.YtajfooefofafmaaYLaid
import Derived.Test.YtajfooefofafmaaCOpen
import Derived.Test.YtajfooefofafmaaCAlive
import Derived.Test.YtajfooefofafmaaYEq
namespace Go.Proofs.Ytajfooefofafmaa.ctrNonces
open Go.ChangeShapes Go.WideShapes Go.ChangeAt Go.RowKit
set_option linter.unusedVariables false

theorem eq_nonce (x y : List (BitVec 8)) (hx : x.length = 12) (hy : y.length = 12) (w : World) : (Op.equalIn 10000 30 (.agg (yvs x)) (.agg (yvs y))).run Try.prog w = .ok (decide (x = y)) w := by
  obtain ⟨i0, hi, hs⟩ := Option.map_eq_some_iff.1 yone
  rw [cells_y x, cells_y y, run_equalIn_bytes w 9998 30 5 12 Try.underlying30 Try.underlying5 (fun w => by simp [sizeOf, typeInfo, hi, hs]) _ _ (by simpa using hx) (by simpa using hy), ybytes_inj x y]
theorem num_be (n x : Nat) (h : x < 2 ^ (8 * n)) : num ((beY n x).map yv) = (x : Int) := by
  rw [beY_put, putI_num n _ (by omega) (by exact_mod_cast h)]
theorem nonce_inj (a b c d : Nat) (ha : a < 18446744073709551616) (hb : b < 18446744073709551616) (hc : c < 4294967296) (hd : d < 4294967296) : beY 8 a ++ beY 4 c = beY 8 b ++ beY 4 d ↔ a = b ∧ c = d := by
  constructor
  · intro h
    have h1 := congrArg (fun l => num ((l.take 8).map yv)) h
    have h2 := congrArg (fun l => num ((l.drop 8).map yv)) h
    rw [List.take_left' (beY_length 8 a), List.take_left' (beY_length 8 b), num_be 8 a (by omega), num_be 8 b (by omega)] at h1
    rw [List.drop_left' (beY_length 8 a), List.drop_left' (beY_length 8 b), num_be 4 c (by omega), num_be 4 d (by omega)] at h2
    omega
  · rintro ⟨rfl, rfl⟩; rfl
theorem slice_n8 (g : Nat) (W : World) : (Instr.sliceAt 30 (.pointer (some ⟨g, 0, none⟩)) none (some (.int .i64 8)) none).run Try.prog W = .ok (.slice (some ⟨g, 0, none⟩) 8 12) W := by
  obtain ⟨i0, hi0, _⟩ := Option.map_eq_some_iff.1 yone
  have b : (Instr.sliceBound (.int .i64 8) 12 .sliceAlen).run Try.prog W = .ok 8 W := ybound_ok 8 12 .sliceAlen (by omega) W
  simp [Instr.sliceAt, run_underlying Try.underlying30, Instr.sureAddr, Instr.sliceBounds, sizeOf, typeInfo, hi0, Addr.add_mid, b]
theorem slice_n4 (g : Nat) (W : World) : (Instr.sliceAt 30 (.pointer (some ⟨g, 0, none⟩)) (some (.int .i64 8)) none none).run Try.prog W = .ok (.slice (some ⟨g, 8, none⟩) 4 4) W := by
  obtain ⟨i0, hi0, hs⟩ := Option.map_eq_some_iff.1 yone
  have b : (Instr.sliceBound (.int .i64 8) 12 .sliceB).run Try.prog W = .ok 8 W := ybound_ok 8 12 .sliceB (by omega) W
  simp [Instr.sliceAt, run_underlying Try.underlying30, Instr.sureAddr, Instr.sliceBounds, sizeOf, typeInfo, hi0, hs, Addr.add_mid, b]

set_option maxRecDepth 100000 in
set_option maxHeartbeats 3200000 in
theorem walk (w : World) (a : Nat) (b : Nat) (c : Nat) (d : Nat) (ha : a < 18446744073709551616) (hb : b < 18446744073709551616) (hc : c < 4294967296) (hd : d < 4294967296) :
    Calls Try.prog 8 #[.agg (bornCells a b c d)] w fun e w' => e = .returned (.bool true) ∧ Below w.heap.size w w' := by
  have HC1 := Lib.hid (fun w => made_any a c w hc)
  have HC2 := Lib.hid (fun w => made_any b d w hd)
  have hln : (beY 8 a ++ beY 4 c).length = 12 := by simp [beY_length]
  have hlm : (beY 8 b ++ beY 4 d).length = 12 := by simp [beY_length]
  have hq := fun w => eq_nonce _ _ hln hlm w
  have hin := nonce_inj a b c d ha hb hc hd
  have hn8 : ((beY 8 a ++ beY 4 c).drop 0).take 8 = beY 8 a := by rw [List.drop_zero, List.take_left' (beY_length 8 a)]
  have hn4 : ((beY 8 a ++ beY 4 c).drop 8).take 4 = beY 4 c := by rw [List.drop_left' (beY_length 8 a), List.take_of_length_le (by rw [beY_length]; omega)]
  have HG8 := Lib.hid (fun (w : World) v (h : BS w v ((beY 8 a).map yv)) => by have q := get_ok w v _ h (by rw [List.length_map, beY_length]; omega); rw [num_be 8 a (by omega)] at q; exact q)
  have HG4 := Lib.hid (fun (w : World) v (h : BS w v ((beY 4 c).map yv)) => by have q := get_ok w v _ h (by rw [List.length_map, beY_length]; omega); rw [num_be 4 c (by omega)] at q; exact q)
  rw [← hn8] at HG8
  rw [← hn4] at HG4
  generalize beY 8 a ++ beY 4 c = N at *
  generalize beY 8 b ++ beY 4 d = M at *
  have SN := Lib.hid (size_nonce N hln)
  have SM := Lib.hid (size_nonce M hlm)
  have EN := Lib.hid (show (#[Value.int .u8 0, Value.int .u8 0, Value.int .u8 0, Value.int .u8 0, Value.int .u8 0, Value.int .u8 0, Value.int .u8 0, Value.int .u8 0, Value.int .u8 0, Value.int .u8 0, Value.int .u8 0, Value.int .u8 0] : Array Value).size = (yvs N).size by rw [yvs_size, hln]; rfl)
  have EM := Lib.hid (show (#[Value.int .u8 0, Value.int .u8 0, Value.int .u8 0, Value.int .u8 0, Value.int .u8 0, Value.int .u8 0, Value.int .u8 0, Value.int .u8 0, Value.int .u8 0, Value.int .u8 0, Value.int .u8 0, Value.int .u8 0] : Array Value).size = (yvs M).size by rw [yvs_size, hlm]; rfl)
  have HLN := Lib.hid hln
  have HQ := Lib.hid hq
  have HIN := Lib.hid hin
  have CI := Lib.hid (show (c : Int) < 4294967296 by omega)
  clear hln hlm hq hin ha hb hc hd hn8 hn4
  go_enter Try.func8, Try.ntmps8
  go_wp2_with fail
  have hA0 := heap_alloc_new w (.cells (bornCells a b c d) 62)
  have hB0 := (Below.refl w.heap.size w).alloc (Nat.le_refl _) (.cells (bornCells a b c d) 62)
  refine (alive5_any _).mono ?_
  rintro e w1 ⟨rfl, hb1⟩
  have hA1 := (hb1.block w.heap.size (by simp)).trans hA0
  have HB1 := Lib.hid (hB0.trans (hb1.mono hB0.size))
  obtain ⟨c0, c1, c2, c3⟩ := born_at hA1
  clear hA0 hB0 hb1 hA1
  go_wp2_with fail
  go_quiet (fail)
  clear c0 c1 c2 c3
  generalize hW2 : w1.drewN _ = W2
  have HB2 := Lib.hid (show Below w.heap.size w W2 by rw [← hW2]; exact ybelow_drewN HB1.out _)
  clear hW2
  go_wp2_with fail
  refine (HC1.out _).mono ?_
  rintro e w3 ⟨rfl, hb3⟩
  have HB3 := Lib.hid (HB2.out.trans (hb3.mono HB2.out.size))
  clear hb3
  go_wp2_with fail
  refine (HC2.out _).mono ?_
  rintro e w4 ⟨rfl, hb4⟩
  have HB4 := Lib.hid (HB3.out.trans (hb4.mono HB3.out.size))
  clear hb4
  have htwo := Lib.hid (ytwo w4 (.cells (yvs (zeroY 12)) 30) (.cells (yvs (zeroY 12)) 30))
  go_upto_region 5 with (first
    | (with_reducible refine wpList_store_row (o := ⟨none, .store _ (.tmp 7) _, _, _, _, _⟩) rfl 30 _ _ rfl w4.heap.size (yvs N) rfl rfl 30 _ (ytwo w4 _ _).1 SN.out EN.out (yvs_one _) ?_)
    | (with_reducible refine wpList_store_row (o := ⟨none, .store _ (.tmp 8) _, _, _, _, _⟩) rfl 30 _ _ rfl (w4.heap.size + 1) (yvs M) rfl rfl 30 _ ((setRow_other _ _ _ _ (Nat.succ_ne_self _)).trans (ytwo w4 _ _).2.1) SM.out EM.out (yvs_one _) ?_))
  generalize hW5 : World.setRow (World.setRow _ w4.heap.size _) _ _ = W5
  have h5 : ArrY W5 w4.heap.size 30 N ∧ ArrY W5 (w4.heap.size + 1) 30 M ∧ Below w.heap.size w W5 := by
    have hs := HB4.out.size
    rw [← hW5]
    exact ⟨(setRow_other _ _ _ _ (by omega)).trans (setRow_heap _ _ _ _ _ _ htwo.out.1), setRow_heap _ _ _ _ _ _ ((setRow_other _ _ _ _ (by omega)).trans htwo.out.2.1), ybelow_row (ybelow_row (HB4.out.trans (htwo.out.2.2.2.mono hs)) hs _) (by omega) _⟩
  have HXX := Lib.hid (show W5.heap[w4.heap.size]? = some (.cells (yvs N) 30 (0, 0)) from h5.1)
  have HYY := Lib.hid (show W5.heap[w4.heap.size + 1]? = some (.cells (yvs M) 30 (0, 0)) from h5.2.1)
  have HB5 := Lib.hid h5.2.2
  have HQ8 := Lib.hid (HG8.out W5 _ (BS.of_arr (cap := 12) h5.1 (by rw [HLN.out]; omega)))
  have HQ4 := Lib.hid (HG4.out W5 _ (BS.of_arr (cap := 4) h5.1 (by rw [HLN.out]; omega)))
  clear htwo hW5 h5 HG8 HG4
  generalize w4.heap.size + 1 = Y at *
  generalize w4.heap.size = X at *
  have hs8 := slice_n8 X
  have hs4 := slice_n4 X
  go_wp2_with fail
  refine HQ8.out.mono ?_
  rintro e w6 ⟨rfl, rfl⟩
  go_wp2_with fail
  refine HQ4.out.mono ?_
  rintro e w7 ⟨rfl, rfl⟩
  clear hs8 hs4
  have cI := CI.out
  have hq := HQ.out
  by_cases hab : a = b
  · have eab : ((a : Int) == (b : Int)) = true := by simp [hab]
    by_cases hcd : c = d
    · have ecd : ((c : Int) == (d : Int)) = true := by simp [hcd]
      rw [show decide (N = M) = true by simp [HIN.out, hab, hcd]] at hq
      clear hab hcd
      go_wp2_with (first
        | (with_reducible refine wpList_load_row (o := ⟨some 39, _, _, _, _, _⟩) rfl 30 _ rfl X rfl 30 (yvs N) (0, 0) _ HXX.out Try.underlying30 rfl SN.out ?_)
        | (with_reducible refine wpList_load_row (o := ⟨some 40, _, _, _, _, _⟩) rfl 30 _ rfl Y rfl 30 (yvs M) (0, 0) _ HYY.out Try.underlying30 rfl SM.out ?_))
      go_ret
      exact ⟨by simp, HB5.out⟩
    · have ecd : ((c : Int) == (d : Int)) = false := by simp; omega
      rw [show decide (N = M) = false by simp [HIN.out, hcd]] at hq
      clear hab hcd
      go_wp2_with (first
        | (with_reducible refine wpList_load_row (o := ⟨some 39, _, _, _, _, _⟩) rfl 30 _ rfl X rfl 30 (yvs N) (0, 0) _ HXX.out Try.underlying30 rfl SN.out ?_)
        | (with_reducible refine wpList_load_row (o := ⟨some 40, _, _, _, _, _⟩) rfl 30 _ rfl Y rfl 30 (yvs M) (0, 0) _ HYY.out Try.underlying30 rfl SM.out ?_))
      go_ret
      exact ⟨by simp, HB5.out⟩
  · have eab : ((a : Int) == (b : Int)) = false := by simp; omega
    rw [show decide (N = M) = false by simp [HIN.out, hab]] at hq
    clear hab
    · skip
      go_wp2_with (first
        | (with_reducible refine wpList_load_row (o := ⟨some 39, _, _, _, _, _⟩) rfl 30 _ rfl X rfl 30 (yvs N) (0, 0) _ HXX.out Try.underlying30 rfl SN.out ?_)
        | (with_reducible refine wpList_load_row (o := ⟨some 40, _, _, _, _, _⟩) rfl 30 _ rfl Y rfl 30 (yvs M) (0, 0) _ HYY.out Try.underlying30 rfl SM.out ?_))
      go_ret
      exact ⟨by simp, HB5.out⟩
set_option maxRecDepth 100000 in
theorem lifted (os : Os) (started : os.Started) (H : Type) (enc : TypeId × Value → H) :
    ReturnsInHanded {} Try.checked os 8 .any (Rows.ctrNoncesSpec.pre6 enc Try.prog Try.f8 Rows.ctrNoncesRow.domain false) (Rows.ctrNoncesSpec.post enc Try.prog Try.f8 false true false false) := by
  refine returnsInHanded_of_change_sized (C := Try.checked) own started (by kernel_rfl) Try.func8
    (ChangeSpec.witness6 (enc := enc) (C := Try.checked) false ⟨#[], #[.agg (bornCells 0 0 0 0)], []⟩ 8 (by kernel_rfl) (by kernel_rfl) (by kernel_rfl) (by kernel_rfl)) ?_
  intro W base args ds gs before hval0 hW hcnd hsz0 _
  have hsz : (DataW.weightsEach Try.prog (Try.f8.params.toList ++ Rows.ctrNoncesSpec.plain.varTypes Try.prog) (ds ++ gs)).all (· ≤ reachBytes) = true := hsz0
  clear hsz0
  have hval : ∀ (j : Nat) t v, Try.f8.params[j]? = some t → args[j]? = some v → Value.okWide Try.prog W .any base t v := hval0
  have hW' := hW
  obtain ⟨p, q, hA0, hV, rfl, hfz, hnd⟩ := hW
  have hA : DataW.TrodAll enc Try.prog W 0 (fun _ => true) true Try.f8.params.toList args.toList ds p := hA0
  rw [Try.params8] at hA hval hsz
  obtain ⟨v0, vs0, d0, ds0, p0, q0, hargs, rfl, rfl, h0, r0⟩ := trodAll_cons hA
  obtain ⟨rfl, rfl, rfl⟩ := trodAll_nil r0
  obtain rfl : args = #[v0] := by cases args; simp_all
  obtain ⟨rfl, rfl⟩ := trodVars_none hV
  have k0 := h0
  have lt0 : ∀ x ∈ p0, x.block < W.heap.size := by obtain ⟨m, hm⟩ := k0; exact DataW.trod_lt m _ _ _ hm
  obtain ⟨a, b, c, d, rfl, ha, hb, hc, hd⟩ := open_born (hval 0 62 v0 rfl rfl) h0 hsz
  clear hA0 hval0
  simp only [List.append_nil] at hW'
  refine (walk W a b c d ha hb hc hd).mono fun e W' ⟨he, bel⟩ => ?_
  subst he
  exact ⟨_, rfl, _, _, _, [], _, [], hW', trodAll_mk1 (shut_bool Try.underlying4 _), (trodAll_cons_mk (Below.trod laidOut (by kernel_rfl) (of_decide_eq_true (by kernel_rfl)) k0 bel lt0) trodAll_mk0), rfl, bel.frame _, fun h => by cases h⟩

theorem over : Rows.ctrNoncesRow.holds Try.pinned (OpenSpec.ofChange Rows.ctrNoncesSpec) :=
  OpenClaim.holds_of_wide 8 Try.f8 rfl rfl rfl rfl rfl rfl rfl ⟨rfl, rfl, rfl, rfl, rfl⟩ rfl rfl rfl rfl rfl (by kernel_rfl) Try.func8 (by kernel_rfl)
    (of_decide_eq_true (by kernel_rfl)) (by unfold Func.isWrapper; first | (rw [if_pos (by decide +kernel)]; kernel_rfl) | (rw [if_neg (by decide +kernel)]; exact ⟨rfl, rfl⟩))
    (fun os started H enc _ => lifted os started H enc)

/-- The statement. -/
theorem proved : Rows.CtrNoncesSaid := over
#print axioms proved
end Go.Proofs.Ytajfooefofafmaa.ctrNonces
