/-
  'NodeSizes' returns true at every input, and each argument reads behind the call as it read before. Conditions: none.
-/
import Derived.Test.YtcgddhainmnebaaRows
import Derived.Test.YtcgddhainmnebaaAes0
import Derived.Test.YtcgddhainmnebaaNl
import Derived.Test.YtcgddhainmnebaaQy
namespace Go.Proofs.Ytcgddhainmnebaa.nodeSizes
open Go.ChangeShapes Go.WideShapes Go.ChangeAt Go.RowKit
set_option linter.unusedVariables false

theorem rises_take : ∀ (i : Nat) (a : ByteArray) (l : List ByteArray), risesFrom a l = true → risesFrom a (l.take i) = true
  | 0, _, _, _ => by rw [List.take_zero]; rfl
  | _ + 1, _, [], _ => by rw [List.take_nil]; rfl
  | i + 1, a, k :: r, h => by
    unfold risesFrom at h
    simp only [Bool.and_eq_true] at h
    rw [List.take_succ_cons]
    unfold risesFrom
    simp only [Bool.and_eq_true]
    exact ⟨h.1, rises_take i k r h.2⟩
theorem txs_take (l : List ByteArray) (i : Nat) (s : ByteArray) (h : l[i]? = some s) (hi : i + 1 = l.length) : txs l = txs (l.take i) + (1 + s.size) := by
  have e : l = l.take (i + 1) := by rw [List.take_of_length_le (by omega)]
  conv => lhs; rw [e]
  rw [List.take_add_one, h, txs_app]
  simp [txs]
theorem ss_take {W : World} {a : Option Addr} {len cap : Nat} {l : List ByteArray} (hi : Nat) (h : SS W (.slice a len cap) l) (h1 : hi ≤ len) : SS W (.slice a hi cap) (l.take hi) := by
  obtain ⟨a', c', he, hcc, hc⟩ := h
  injection he with e1 e2 e3
  subst e1; subst e3; subst e2
  refine ⟨_, _, by rw [List.length_take, Nat.min_eq_left h1], by rw [List.length_take]; omega, fun i q hq => ?_⟩
  rw [List.getElem?_take] at hq
  split at hq
  · exact hc i q hq
  · cases hq
theorem ss_cap {W : World} {a : Option Addr} {len cap : Nat} {l : List ByteArray} (h : SS W (.slice a len cap) l) : len ≤ cap := by
  obtain ⟨a', c', he, hcc, hc⟩ := h
  injection he with e1 e2 e3
  omega
theorem check_three (n : NodeV) : checkN n = 0 ∨ checkN n = 4 ∨ checkN n = 6 := by
  unfold checkN
  split
  · split
    · exact .inl rfl
    · exact .inr (.inr rfl)
  · exact .inr (.inl rfl)
def cutN (n : NodeV) (i : Nat) : NodeV := ⟨true, n.ks.take i, n.vs.take i, []⟩
theorem cut_nb {n : NodeV} (i : Nat) (h : NB n) : NB (cutN n i) := by
  refine ⟨?_, fun s hs => h.kz s (List.mem_of_mem_take hs), ?_, fun s hs => h.vz s (List.mem_of_mem_take hs), ?_⟩
  · exact Nat.le_trans (by unfold cutN; rw [List.length_take]; exact Nat.min_le_right ..) h.kl
  · exact Nat.le_trans (by unfold cutN; rw [List.length_take]; exact Nat.min_le_right ..) h.vl
  · exact Nat.zero_le _
theorem cut_form {n : NodeV} (hl : n.lf = true) (h : formB n = true) (i : Nat) (hi : i ≤ n.ks.length) : formB (cutN n i) = true := by
  obtain ⟨h1, _⟩ := counts_leaf hl (form_counts h)
  unfold formB at h ⊢
  simp only [Bool.and_eq_true] at h ⊢
  refine ⟨⟨⟨?_, rises_take i _ _ h.1.1.2⟩, ?_⟩, rfl⟩
  · unfold countsB cutN
    simp [h1]
  · exact List.all_eq_true.2 fun s hs => List.all_eq_true.1 h.1.2 s (List.mem_of_mem_take hs)
theorem cut_size {n : NodeV} (hl : n.lf = true) (h : formB n = true) (i : Nat) (k v : ByteArray) (hi : i + 1 = n.ks.length) (hk : n.ks[i]? = some k) (hv : n.vs[i]? = some v) : sizeN n = sizeN (cutN n i) + 2 + k.size + v.size := by
  obtain ⟨h1, h2⟩ := counts_leaf hl (form_counts h)
  unfold sizeN cutN
  rw [txs_take n.ks i k hk hi, txs_take n.vs i v hv (by omega), h2]
  simp only [List.length_nil]
  omega
theorem cut_check {n : NodeV} (hl : n.lf = true) (h : formB n = true) (i : Nat) (k v : ByteArray) (hi : i + 1 = n.ks.length) (hk : n.ks[i]? = some k) (hv : n.vs[i]? = some v) (hc : checkN n = 0) : checkN (cutN n i) = 0 := by
  have h2 := (check_ok hc).2
  have h3 := cut_size hl h i k v hi hk hv
  unfold checkN
  rw [cut_form hl h i (by omega), if_pos rfl, if_pos (by omega)]

set_option maxRecDepth 100000 in
set_option maxHeartbeats 3200000 in
theorem walk (w : World) (k0 v0 p0 : Value) (n0 : NodeV) (nr0 : NR w k0 v0 p0 n0) (nb0 : NB n0) :
    Calls Try.prog 8 #[.agg #[.bool n0.lf, k0, v0, p0]] w fun e w' => e = .returned (.bool true) ∧ Below w.heap.size w w' := by
  have hb1 := (Below.refl w.heap.size w).alloc (Nat.le_refl _) (.cells #[.bool n0.lf, k0, v0, p0] 25)
  have hA1 := heap_alloc_new w (.cells #[.bool n0.lf, k0, v0, p0] 25)
  have hs1 : w.heap.size < (w.alloc (.cells #[.bool n0.lf, k0, v0, p0] 25)).heap.size := by simp
  have SE := Lib.hid (size_node n0.lf k0 v0 p0)
  generalize hw1 : w.alloc (.cells #[.bool n0.lf, k0, v0, p0] 25) = w1 at *
  have HAL := Lib.hid (alive9_any w1)
  have HAT := Lib.hid (fun W (b : Below w1.heap.size w1 W) => (b.block w.heap.size hs1).trans hA1)
  have HBW := Lib.hid (show ∀ W, Below w1.heap.size w1 W → Below w.heap.size w W from fun W b => hb1.trans (b.mono hb1.size))
  have HSZ := Lib.hid (fun W (b : Below w1.heap.size w1 W) => nsize_any k0 v0 p0 n0 W ((nr0.below hb1).below b) nb0)
  have HGR := Lib.hid (fun W (b : Below w1.heap.size w1 W) => great9_any k0 v0 p0 n0 W ((nr0.below hb1).below b) nb0)
  have HCK := Lib.hid (fun W (b : Below w1.heap.size w1 W) => ncheck_any k0 v0 p0 n0 W ((nr0.below hb1).below b) nb0)
  have HNR := Lib.hid (fun W (b : Below w1.heap.size w1 W) => (nr0.below hb1).below b)
  have HNB := Lib.hid nb0
  obtain ⟨ak, ck, hk0⟩ := nr0.ks.shape
  obtain ⟨av, cv, hv0⟩ := nr0.vs.shape
  have kI : (n0.ks.length : Int) ≤ 140737488351232 := by have := nb0.kl; omega
  have kN : (0 : Int) ≤ (n0.ks.length : Int) := by omega
  subst hk0 hv0
  clear nr0 nb0 hb1 hA1
  go_enter Try.func8, Try.ntmps8
  go_upto_region 1 with fail
  try rw [hw1]
  clear hw1 hs1
  go_wp2_with fail
  refine HAL.out.mono ?_
  rintro e w2 ⟨rfl, hb2⟩
  have HB2 := Lib.hid hb2
  have HA2 := Lib.hid (HAT.out w2 hb2)
  clear hb2 HAL
  go_wp2_with (first
    | (with_reducible refine wpList_load_row (o := ⟨some 12, _, _, _, _, _⟩) rfl 25 _ rfl w.heap.size rfl 25 _ (0, 0) _ HA2.out Try.underlying25 rfl SE.out ?_))
  refine (HSZ.out w2 HB2.out).mono ?_
  rintro e w3 ⟨rfl, hb3⟩
  have HB3 := Lib.hid (HB2.out.trans (hb3.mono HB2.out.size))
  have HA3 := Lib.hid (HAT.out w3 HB3.out)
  clear hb3 HB2 HA2 HSZ
  go_wp2_with (first
    | (with_reducible refine wpList_load_row (o := ⟨some 16, _, _, _, _, _⟩) rfl 25 _ rfl w.heap.size rfl 25 _ (0, 0) _ HA3.out Try.underlying25 rfl SE.out ?_))
  refine (HGR.out w3 HB3.out).mono ?_
  rintro e w4 ⟨b, rfl, hfew, hb4⟩
  have HB4 := Lib.hid (HB3.out.trans (hb4.mono HB3.out.size))
  obtain ⟨c0, c1, c2, c3⟩ := node_at (HAT.out w4 HB4.out)
  have HFW := Lib.hid hfew
  clear hb4 HB3 HA3 HGR hfew
  cases b with
  | true =>
    clear HFW
    go_wp2_with fail
    go_wp2_with fail
    go_ret
    exact ⟨rfl, HBW.out _ HB4.out⟩
  | false =>
    cases hl : n0.lf with
    | false =>
      rw [hl] at c0
      clear HFW HAT SE HCK
      go_wp2_with fail
      go_ret
      exact ⟨rfl, HBW.out _ HB4.out⟩
    | true =>
      rw [hl] at c0
      cases hf : formB n0 with
      | false =>
        have he : ((sizeA n0).2 == 0) = false := by unfold sizeA; rw [hf]; rfl
        clear HFW HAT SE HCK
        go_wp2_with fail
        go_ret
        exact ⟨rfl, HBW.out _ HB4.out⟩
      | true =>
        have hsa : sizeA n0 = (((sizeN n0 : Nat) : Int), 0) := by unfold sizeA; rw [hf]; rfl
        rw [hsa]
        by_cases h0 : n0.ks.length = 0
        · have he : ((n0.ks.length : Int) == 0) = true := by rw [h0]; rfl
          clear HFW HAT SE HCK
          go_wp2_with fail
          go_ret
          exact ⟨rfl, HBW.out _ HB4.out⟩
        · have he : ((n0.ks.length : Int) == 0) = false := beq_eq_false_iff_ne.2 (by omega)
          obtain ⟨t, ht⟩ : ∃ t, t + 1 = n0.ks.length := ⟨n0.ks.length - 1, by omega⟩
          have hlast : (n0.ks.length : Int) - 1 = (t : Int) := by omega
          obtain ⟨hcl, hq0⟩ := counts_leaf hl (form_counts hf)
          obtain ⟨x, hx⟩ : ∃ x, n0.ks[t]? = some x := ⟨_, List.getElem?_eq_getElem (by omega)⟩
          obtain ⟨y, hy⟩ : ∃ y, n0.vs[t]? = some y := ⟨_, List.getElem?_eq_getElem (by omega)⟩
          have HR4 := Lib.hid (HNR.out w4 HB4.out)
          have hss1 := ss_take t HR4.out.ks (by omega)
          have hss2 := ss_take t HR4.out.vs (by omega)
          have t0 : (0 : Int) ≤ (t : Int) := by omega
          have HCL := Lib.hid hcl
          have hck := ss_cap HR4.out.ks
          have hcv := ss_cap HR4.out.vs
          have tk : (t : Int) ≤ (ck : Int) := by omega
          have tv : (t : Int) ≤ (cv : Int) := by omega
          have tkN : t ≤ ck := by omega
          have tvN : t ≤ cv := by omega
          have HT := Lib.hid (And.intro hss1 hss2)
          have HLT := Lib.hid (Array.getElem?_eq_some_iff.1 (HAT.out w4 HB4.out)).1
          obtain ⟨d0, d1, d2, d3⟩ := node_at ((heap_alloc_old w4 (.cells #[.bool false, .slice none 0 0, .slice none 0 0, .slice none 0 0] 25) HLT.out).trans (HAT.out w4 HB4.out))
          clear hss1 hss2 hck hcv hcl
          go_upto_region 7 with fail
          go_region
          clear d0 d1 d2 d3 tk tv tkN tvN c0 c1 c2 c3 he
          have hR5 : NR (w4.alloc (.cells #[.bool true, .slice ak t ck, .slice av t cv, .slice none 0 0] 25)).drew (.slice ak t ck) (.slice av t cv) (.slice none 0 0) (cutN n0 t) :=
            ⟨HT.out.1.below ((Below.refl _ w4).alloc (Nat.le_refl _) _).drew, HT.out.2.below ((Below.refl _ w4).alloc (Nat.le_refl _) _).drew, ps_nil _⟩
          have hb5 : Below w4.heap.size w4 (w4.alloc (.cells #[.bool true, .slice ak t ck, .slice av t cv, .slice none 0 0] 25)).drew := ((Below.refl _ w4).alloc (Nat.le_refl _) _).drew
          have hA5 : (w4.alloc (.cells #[.bool true, .slice ak t ck, .slice av t cv, .slice none 0 0] 25)).drew.heap[w4.heap.size]? = some (.cells #[.bool true, .slice ak t ck, .slice av t cv, .slice none 0 0] 25 (0, 0)) := heap_alloc_new w4 _
          generalize (w4.alloc (.cells #[.bool true, .slice ak t ck, .slice av t cv, .slice none 0 0] 25)).drew = w5 at *
          have hnb := cut_nb t HNB.out
          have hfm := cut_form hl hf t (by omega)
          have hsm := cut_size hl hf t x y ht hx hy
          have hcm := cut_check hl hf t x y ht hx hy
          have HSM := Lib.hid (nsize_any (.slice ak t ck) (.slice av t cv) (.slice none 0 0) (cutN n0 t) w5 hR5 hnb)
          rw [show sizeA (cutN n0 t) = (((sizeN (cutN n0 t) : Nat) : Int), 0) by unfold sizeA; rw [hfm]; rfl] at HSM
          have HCM := Lib.hid (fun W (b : Below w5.heap.size w5 W) => ncheck_any (.slice ak t ck) (.slice av t cv) (.slice none 0 0) (cutN n0 t) W (hR5.below b) hnb)
          have HA5 := Lib.hid hA5
          have HB5 := Lib.hid (HB4.out.trans (hb5.mono HB4.out.size))
          have SE5 := Lib.hid (size_node true (.slice ak t ck) (.slice av t cv) (.slice none 0 0))
          have HT5 := Lib.hid (show w4.heap.size < w5.heap.size from (Array.getElem?_eq_some_iff.1 hA5).1)
          obtain ⟨bx, ox, ex, gx⟩ := HR4.out.ks.at hx
          obtain ⟨by', oy, ey, gy⟩ := HR4.out.vs.at hy
          have gx5 := (hb5.cell (p := ⟨bx, ox + t, none⟩) (block_lt_of_cell gx)).trans gx
          have gy5 := (hb5.cell (p := ⟨by', oy + t, none⟩) (block_lt_of_cell gy)).trans gy
          have HXY := Lib.hid (And.intro gx5 gy5)
          have HKM := Lib.hid (sizeN_max hfm hnb)
          have HXZ := Lib.hid (And.intro (HNB.out.kz x (List.mem_of_getElem? hx)) (HNB.out.vz y (List.mem_of_getElem? hy)))
          have HSEQ := Lib.hid hsm
          have HCEQ := Lib.hid hcm
          have hixx := index_sl bx ox n0.ks.length ck t (by omega)
          have hixy := index_sl by' oy n0.vs.length cv t (by have := HCL.out; omega)
          have tI : (t : Int) < (n0.ks.length : Int) := by omega
          have tV : (t : Int) < (n0.vs.length : Int) := by have := HCL.out; omega
          subst ex ey
          clear hR5 hb5 hA5 hnb hfm hsm hcm gx gy gx5 gy5 HT HLT HR4 hx hy hsa h0 ht HCL hq0 HB4 HFW hlast hl hf
          go_wp2_with (first
            | (with_reducible refine wpList_load_row (o := ⟨some 47, _, _, _, _, _⟩) rfl 25 _ rfl w4.heap.size rfl 25 _ (0, 0) _ HA5.out Try.underlying25 rfl SE5.out ?_))
          refine HSM.out.mono ?_
          rintro e w6 ⟨rfl, hb6⟩
          have HB6 := Lib.hid (HB5.out.trans (hb6.mono HB5.out.size))
          have HA6 := Lib.hid (HAT.out w6 HB6.out)
          have HM6 := Lib.hid ((hb6.block _ HT5.out).trans HA5.out)
          have HC1 := Lib.hid (show ∀ p : BelowBy w6, Calls Try.prog 19 _ p.now _ from fun p => HCK.out p.now (HB6.out.trans (p.bel.mono HB6.out.size)))
          have HC2 := Lib.hid (show ∀ p : BelowBy w6, Calls Try.prog 19 #[.agg #[.bool true, .slice (some ⟨bx, ox, none⟩) t ck, .slice (some ⟨by', oy, none⟩) t cv, .slice none 0 0]] p.now _ from fun p => HCM.out p.now (hb6.trans (p.bel.mono hb6.size)))
          have gx := (hb6.cell (p := ⟨bx, ox + t, none⟩) (block_lt_of_cell HXY.out.1)).trans HXY.out.1
          have gy := (hb6.cell (p := ⟨by', oy + t, none⟩) (block_lt_of_cell HXY.out.2)).trans HXY.out.2
          obtain ⟨c0, c1, c2, c3⟩ := node_at HA6.out
          obtain ⟨m0, m1, m2, m3⟩ := node_at HM6.out
          have e0 := fun p => by_cell c0 p
          have e1 := fun p => by_cell c1 p
          have e2 := fun p => by_cell c2 p
          have e3 := fun p => by_cell c3 p
          have f0 := fun p => by_cell m0 p
          have f1 := fun p => by_cell m1 p
          have f2 := fun p => by_cell m2 p
          have f3 := fun p => by_cell m3 p
          have ex := fun p => by_cell gx p
          have ey := fun p => by_cell gy p
          have hxz := HXZ.out.1
          have hyz := HXZ.out.2
          have xI : (x.size : Int) ≤ 140737488351232 := by omega
          have yI : (y.size : Int) ≤ 140737488351232 := by omega
          have kM := HKM.out
          have kM0 : (0 : Int) ≤ ((sizeN (cutN n0 t) : Nat) : Int) := by omega
          have hq : (((sizeN n0 : Nat) : Int) == ((sizeN (cutN n0 t) : Nat) : Int) + 2 + (x.size : Int) + (y.size : Int)) = true := by have := HSEQ.out; rw [beq_iff_eq]; omega
          have HCC := Lib.hid HCEQ.out
          have HC3 := Lib.hid (check_three n0)
          clear hb6 HB5 HA5 HSM HT5 HXY HXZ HKM HSEQ HCEQ HCK HCM HA6 HM6 gx gy c0 c1 c2 c3 m0 m1 m2 m3 hxz hyz
          generalize sizeN n0 = SN at *
          generalize sizeN (cutN n0 t) = SM at *
          generalize checkN n0 = cn at *
          generalize checkN (cutN n0 t) = cm at *
          generalize w4.heap.size = G at *
          obtain rfl | rfl | rfl := HC3.out
          · obtain rfl : cm = 0 := HCC.out rfl
            go_upto_region 9 with fail
            refine wp_region_below (by kernel_rfl) (by kernel_rfl) ?_
            repeat (go_big_quiet_step ((first | (go_at_call_of 19 t; exact calls_below (HC2.out _)) | (go_at_call 19; exact calls_below (HC1.out _)))))
            refine wpQuiet_nil ?_
            intro _ hw'
            obtain ⟨p, hw''⟩ := hw'
            subst hw''
            go_wp2_with fail
            go_ret
            exact ⟨rfl, HBW.out _ (HB6.out.trans (p.bel.mono HB6.out.size))⟩
          · go_upto_region 9 with fail
            refine wp_region_below (by kernel_rfl) (by kernel_rfl) ?_
            repeat (go_big_quiet_step ((first | (go_at_call_of 19 t; exact calls_below (HC2.out _)) | (go_at_call 19; exact calls_below (HC1.out _)))))
            refine wpQuiet_nil ?_
            intro _ hw'
            obtain ⟨p, hw''⟩ := hw'
            subst hw''
            go_wp2_with fail
            go_ret
            exact ⟨rfl, HBW.out _ (HB6.out.trans (p.bel.mono HB6.out.size))⟩
          · go_upto_region 9 with fail
            refine wp_region_below (by kernel_rfl) (by kernel_rfl) ?_
            repeat (go_big_quiet_step ((first | (go_at_call_of 19 t; exact calls_below (HC2.out _)) | (go_at_call 19; exact calls_below (HC1.out _)))))
            refine wpQuiet_nil ?_
            intro _ hw'
            obtain ⟨p, hw''⟩ := hw'
            subst hw''
            go_wp2_with fail
            go_ret
            exact ⟨rfl, HBW.out _ (HB6.out.trans (p.bel.mono HB6.out.size))⟩
set_option maxRecDepth 100000 in
theorem lifted (os : Os) (started : os.Started) (H : Type) (enc : TypeId × Value → H) :
    ReturnsInHanded {} Try.checked os 8 .any (Rows.nodeSizesSpec.pre6 enc Try.prog Try.f8 Rows.nodeSizesRow.domain false) (Rows.nodeSizesSpec.post enc Try.prog Try.f8 false true false false) := by
  refine returnsInHanded_of_change_sized (C := Try.checked) own started (by kernel_rfl) Try.func8
    (ChangeSpec.witness6 (enc := enc) (C := Try.checked) false ⟨#[], #[.agg #[.bool false, .slice none 0 0, .slice none 0 0, .slice none 0 0]], []⟩ 8 (by kernel_rfl) (by kernel_rfl) (by kernel_rfl) (by kernel_rfl)) ?_
  intro W base args ds gs before hval0 hW hcnd hsz0 _
  have hsz : (DataW.weightsEach Try.prog (Try.f8.params.toList ++ Rows.nodeSizesSpec.plain.varTypes Try.prog) (ds ++ gs)).all (· ≤ reachBytes) = true := hsz0
  clear hsz0
  have hval : ∀ (j : Nat) t v, Try.f8.params[j]? = some t → args[j]? = some v → Value.okWide Try.prog W .any base t v := hval0
  have hW' := hW
  obtain ⟨p, q, hA0, hV, rfl, hfz, hnd⟩ := hW
  have hA : DataW.TrodAll enc Try.prog W 0 (fun _ => true) true Try.f8.params.toList args.toList ds p := hA0
  rw [Try.params8] at hA hval hsz
  obtain ⟨v0, vs0, d0, ds0, p0, q0, hargs, rfl, rfl, h0, r0⟩ := trodAll_cons hA
  obtain ⟨rfl, rfl, rfl⟩ := trodAll_nil r0
  obtain rfl : args = #[v0] := by cases args; simp_all
  obtain ⟨rfl, rfl⟩ := trodVars_none hV
  have k0 := h0
  have lt0 : ∀ x ∈ p0, x.block < W.heap.size := by obtain ⟨m, hm⟩ := k0; exact DataW.trod_lt m _ _ _ hm
  obtain ⟨kk0, vv0, pp0, n0, rfl, nr0, nb0⟩ := par_node (j := 0) (hval 0 25 v0 rfl rfl) h0 hsz rfl rfl
  clear hA0 hval0
  simp only [List.append_nil] at hW'
  refine (walk W kk0 vv0 pp0 n0 nr0 nb0).mono fun e W' ⟨he, bel⟩ => ?_
  subst he
  exact ⟨_, rfl, _, _, _, [], _, [], hW', trodAll_mk1 (shut_bool Try.underlying4 _), (trodAll_cons_mk (Below.trod laidOut (by kernel_rfl) (of_decide_eq_true (by kernel_rfl)) k0 bel lt0) trodAll_mk0), rfl, bel.frame _, fun h => by cases h⟩

theorem over : Rows.nodeSizesRow.holds Try.pinned (OpenSpec.ofChange Rows.nodeSizesSpec) :=
  OpenClaim.holds_of_wide 8 Try.f8 rfl rfl rfl rfl rfl rfl rfl ⟨rfl, rfl, rfl, rfl, rfl⟩ rfl rfl rfl rfl rfl (by kernel_rfl) Try.func8 (by kernel_rfl)
    (of_decide_eq_true (by kernel_rfl)) (by unfold Func.isWrapper; first | (rw [if_pos (by decide +kernel)]; kernel_rfl) | (rw [if_neg (by decide +kernel)]; exact ⟨rfl, rfl⟩))
    (fun os started H enc _ => lifted os started H enc)

/-- The statement. -/
theorem proved : Rows.NodeSizesSaid := over
#print axioms proved
end Go.Proofs.Ytcgddhainmnebaa.nodeSizes
