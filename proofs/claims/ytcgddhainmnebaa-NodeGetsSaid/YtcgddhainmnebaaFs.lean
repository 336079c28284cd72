/-
  The program's formed, Size and Check of layer 9.
-/
import Derived.Test.YtcgddhainmnebaaFo
namespace Go.Proofs.Ytcgddhainmnebaa
set_option maxRecDepth 4000
set_option linter.unusedVariables false
open Go.ChangeShapes Go.WideShapes Go.ChangeAt Go.RowKit

theorem SS.shape {w : World} {v : Value} {l : List ByteArray} (h : SS w v l) : ∃ a c, v = .slice a l.length c := by obtain ⟨a, c, e, _⟩ := h; exact ⟨a, c, e⟩
theorem PS.shape {w : World} {v : Value} {l : List PtrV} (h : PS w v l) : ∃ a c, v = .slice a l.length c := by obtain ⟨a, c, e, _⟩ := h; exact ⟨a, c, e⟩
theorem cast_beq (a b : Nat) : ((a : Int) == (b : Int)) = decide (a = b) := by
  by_cases h : a = b
  · rw [h]; simp
  · rw [decide_eq_false h]; simp; omega
set_option maxRecDepth 100000 in
set_option maxHeartbeats 1600000 in
theorem ncounts_any (k v p : Value) (n : NodeV) (w : World) (h : NR w k v p n) (hn : NB n) :
    Calls Try.prog 72 #[.agg #[.bool n.lf, k, v, p]] w fun e w' => e = .returned (.bool (countsB n)) ∧ Below w.heap.size w w' := by
  obtain ⟨ak, ck, rfl⟩ := h.ks.shape
  obtain ⟨av, cv, rfl⟩ := h.vs.shape
  obtain ⟨ap, cp, rfl⟩ := h.ps.shape
  have kI : (n.ks.length : Int) ≤ 140737488351232 := by have := hn.kl; omega
  have vI : (n.vs.length : Int) ≤ 140737488351232 := by have := hn.vl; omega
  have pI : (n.ps.length : Int) ≤ 140737488351232 := by have := hn.pl; omega
  have HE := Lib.hid (show countsB n = if n.lf then (((n.vs.length : Int) == (n.ks.length : Int)) && ((n.ps.length : Int) == 0)) else (decide (0 < n.ks.length) && ((n.vs.length : Int) == 0) && ((n.ps.length : Int) == (n.ks.length : Int) + 1)) by
    unfold countsB
    have e0 : ∀ a : Nat, ((a : Int) == 0) = decide (a = 0) := fun a => cast_beq a 0
    have e1 : ((n.ps.length : Int) == (n.ks.length : Int) + 1) = decide (n.ps.length = n.ks.length + 1) := cast_beq _ (n.ks.length + 1)
    rw [e0, e0, e1, cast_beq])
  have HB := Lib.hid ((Below.refl w.heap.size w).alloc (Nat.le_refl _) (.cells #[.bool n.lf, .slice ak n.ks.length ck, .slice av n.vs.length cv, .slice ap n.ps.length cp] 25))
  obtain ⟨c0, c1, c2, c3⟩ := node_at (heap_alloc_new w (.cells #[.bool n.lf, .slice ak n.ks.length ck, .slice av n.vs.length cv, .slice ap n.ps.length cp] 25))
  have k0 : (0 : Int) ≤ (n.ks.length : Int) := by omega
  rw [HE.out]
  clear h hn HE
  generalize n.ks.length = K at *
  generalize n.vs.length = V at *
  generalize n.ps.length = Q at *
  generalize n.lf = L at *
  cases L with
  | true =>
    rw [if_pos rfl]
    have fin : ∀ (x y : Bool), ((V : Int) == (K : Int)) = x → ((Q : Int) == 0) = y →
        Calls Try.prog 72 #[.agg #[.bool true, .slice ak K ck, .slice av V cv, .slice ap Q cp]] w fun e w' => e = .returned (.bool (x && y)) ∧ Below w.heap.size w w' := by
      intro x y h1 h2
      cases x <;> cases y <;>
      · go_enter Try.func72, Try.ntmps72
        go_wp2_with fail
        all_goals (go_ret; exact ⟨rfl, HB.out⟩)
    exact fin _ _ rfl rfl
  | false =>
    rw [if_neg (by decide)]
    have fin : ∀ (x y z : Bool), decide (0 < K) = x → ((V : Int) == 0) = y → ((Q : Int) == (K : Int) + 1) = z →
        Calls Try.prog 72 #[.agg #[.bool false, .slice ak K ck, .slice av V cv, .slice ap Q cp]] w fun e w' => e = .returned (.bool (x && y && z)) ∧ Below w.heap.size w w' := by
      intro x y z h1 h2 h3
      cases x <;> cases y <;> cases z <;>
      · go_enter Try.func72, Try.ntmps72
        go_wp2_with fail
        all_goals (go_ret; exact ⟨rfl, HB.out⟩)
    exact fin _ _ _ rfl rfl rfl
set_option maxRecDepth 100000 in
set_option maxHeartbeats 3200000 in
theorem nform_any (k v p : Value) (n : NodeV) (w : World) (h : NR w k v p n) (hn : NB n) :
    Calls Try.prog 46 #[.agg #[.bool n.lf, k, v, p]] w fun e w' => e = .returned (.bool (formB n)) ∧ Below w.heap.size w w' := by
  have two : ∀ (lf : Bool), ∃ (w1 w2 : World), w1 = w.alloc (.cells #[.bool lf, k, v, p] 25) ∧ w2 = w1.alloc (.cells #[.string ⟨#[]⟩] 9) ∧ w1.heap.size = w.heap.size + 1 ∧ w1.heap[w.heap.size]? = some (.cells #[.bool lf, k, v, p] 25 (0, 0)) ∧ w2.heap[w.heap.size + 1]? = some (.cells #[.string ⟨#[]⟩] 9 (0, 0)) ∧ Below w1.heap.size w1 w2 ∧ Below w.heap.size w w1 := by
    intro lf
    have hb1 := (Below.refl w.heap.size w).alloc (Nat.le_refl _) (.cells #[.bool lf, k, v, p] 25)
    have hs1 : (w.alloc (.cells #[.bool lf, k, v, p] 25)).heap.size = w.heap.size + 1 := by simp
    refine ⟨_, _, rfl, rfl, hs1, heap_alloc_new w _, ?_, (Below.refl _ _).alloc (Nat.le_refl _) _, hb1⟩
    rw [← hs1]
    exact heap_alloc_new _ _
  obtain ⟨w1, w2, hw1, hw2, hs1, hA1, hA2, hb2, hb1⟩ := two n.lf
  have h1 := h.below hb1
  have HC := Lib.hid (fun W (b : Below w1.heap.size w1 W) => ncounts_any k v p n W (h1.below b) hn)
  have HK := Lib.hid (fun W (b : Below w1.heap.size w1 W) (hc : W.heap[w.heap.size + 1]? = some (.cells #[.string ⟨#[]⟩] 9 (0, 0))) => keys_any k n.ks w1 W (w.heap.size + 1) h1.ks hn.kl hn.kz (by omega) b hc)
  have HV := Lib.hid (fun W (b : Below w1.heap.size w1 W) => vals_any v n.vs w1 W h1.vs hn.vl hn.vz b)
  have HP := Lib.hid (fun W (b : Below w1.heap.size w1 W) => kids_any p n.ps w1 W h1.ps hn.pl b)
  have HE := Lib.hid (show formB n = (countsB n && risesFrom ⟨#[]⟩ n.ks && n.vs.all valOk && n.ps.all kidOk) from rfl)
  have SE := Lib.hid (size_node n.lf k v p)
  have HAT := Lib.hid (fun W (b : Below w1.heap.size w1 W) => (b.block w.heap.size (by omega)).trans hA1)
  have HB1 := Lib.hid (show ∀ W, Below w1.heap.size w1 W → Below w.heap.size w W from fun W b => hb1.trans (b.mono (by omega)))
  rw [HE.out]
  generalize countsB n = cb at *
  generalize risesFrom ⟨#[]⟩ n.ks = kb at *
  generalize n.vs.all valOk = vb at *
  generalize n.ps.all kidOk = pb at *
  generalize n.lf = lf at *
  clear h h1 hn HE two hb1 hA1
  go_enter Try.func46, Try.ntmps46
  go_upto_region 5 with fail
  try simp only [← hw1, ← hw2]
  clear hw1 hw2
  have HB2 := Lib.hid hb2
  have HC2 := Lib.hid (HC.out w2 hb2)
  have HA1 := Lib.hid (HAT.out w2 hb2)
  have HA2 := Lib.hid hA2
  have HS2 := Lib.hid (show w.heap.size + 1 < w2.heap.size from (Array.getElem?_eq_some_iff.1 hA2).1)
  have HS1 := Lib.hid hs1
  clear hA2 hb2 HC hs1
  go_wp2_with (first
    | (with_reducible refine wpList_load_row (o := ⟨some 8, _, _, _, _, _⟩) rfl 25 _ rfl w.heap.size rfl 25 #[.bool lf, k, v, p] (0, 0) _ HA1.out Try.underlying25 rfl SE.out ?_))
  refine HC2.out.mono ?_
  rintro e w3 ⟨rfl, hb3⟩
  have HB3 := Lib.hid (HB2.out.trans (hb3.mono HB2.out.size))
  have HA4 := Lib.hid ((hb3.block _ HS2.out).trans HA2.out)
  have c1 := (node_at (HAT.out w3 HB3.out)).2.1
  clear hb3 HB2 HA1 HA2 HC2
  cases cb with
  | false =>
    clear HK HV HP c1
    go_wp2_with fail
    go_ret
    exact ⟨rfl, HB1.out _ HB3.out⟩
  | true =>
    have HKK := Lib.hid (HK.out w3 HB3.out HA4.out)
    clear HK HA4 HB3
    go_wp2_with fail
    refine HKK.out.mono ?_
    rintro e w4 ⟨rfl, hb4⟩
    have HB4 := Lib.hid hb4
    have c2 := (node_at (HAT.out w4 hb4)).2.2.1
    clear HKK hb4 c1
    cases kb with
    | false =>
      clear HV HP c2
      go_wp2_with fail
      go_ret
      exact ⟨rfl, HB1.out _ HB4.out⟩
    | true =>
      have HVV := Lib.hid (HV.out w4 HB4.out)
      clear HV HB4
      go_wp2_with fail
      refine HVV.out.mono ?_
      rintro e w5 ⟨rfl, hb5⟩
      have HB5 := Lib.hid hb5
      have c3 := (node_at (HAT.out w5 hb5)).2.2.2
      clear HVV hb5 c2
      cases vb with
      | false =>
        clear HP c3
        go_wp2_with fail
        go_ret
        exact ⟨rfl, HB1.out _ HB5.out⟩
      | true =>
        have HPP := Lib.hid (HP.out w5 HB5.out)
        clear HP HB5
        go_wp2_with fail
        refine HPP.out.mono ?_
        rintro e w6 ⟨rfl, hb6⟩
        have HB6 := Lib.hid hb6
        clear HPP hb6 c3
        cases pb with
        | false =>
          go_wp2_with fail
          go_ret
          exact ⟨rfl, HB1.out _ HB6.out⟩
        | true =>
          go_wp2_with fail
          go_ret
          exact ⟨rfl, HB1.out _ HB6.out⟩
set_option maxRecDepth 100000 in
set_option maxHeartbeats 3200000 in
theorem nsize_any (k v p : Value) (n : NodeV) (w : World) (h : NR w k v p n) (hn : NB n) :
    Calls Try.prog 16 #[.agg #[.bool n.lf, k, v, p]] w fun e w' => e = .returned (.tuple #[.int .i64 (sizeA n).1, .int .i64 (sizeA n).2]) ∧ Below w.heap.size w w' := by
  have hb1 := (Below.refl w.heap.size w).alloc (Nat.le_refl _) (.cells #[.bool n.lf, k, v, p] 25)
  have HA1 := Lib.hid (heap_alloc_new w (.cells #[.bool n.lf, k, v, p] 25))
  have HT := Lib.hid (show w.heap.size < (w.alloc (.cells #[.bool n.lf, k, v, p] 25)).heap.size by simp)
  have HF := Lib.hid (nform_any k v p n _ (h.below hb1) hn)
  have HB1 := Lib.hid hb1
  have SE := Lib.hid (size_node n.lf k v p)
  have HE := Lib.hid (show sizeA n = if formB n then (((sizeN n : Nat) : Int), 0) else (0, 4) from rfl)
  cases hf : formB n with
  | false =>
    rw [hf] at HF HE
    rw [show sizeA n = (0, 4) from HE.out]
    clear h hn hb1 hf HE
    generalize n.lf = lf at *
    go_enter Try.func16, Try.ntmps16
    go_wp2_with (first
      | (with_reducible refine wpList_load_row (o := ⟨some 4, _, _, _, _, _⟩) rfl 25 _ rfl w.heap.size rfl 25 #[.bool lf, k, v, p] (0, 0) _ HA1.out Try.underlying25 rfl SE.out ?_))
    refine HF.out.mono ?_
    rintro e w3 ⟨rfl, hb3⟩
    have HB3 := Lib.hid (HB1.out.trans (hb3.mono HB1.out.size))
    clear hb3 HF HB1 HA1
    go_wp2_with fail
    go_ret2
    exact ⟨rfl, HB3.out⟩
  | true =>
    rw [hf] at HF HE
    rw [show sizeA n = (((sizeN n : Nat) : Int), 0) from HE.out]
    obtain ⟨hk, hv⟩ := form_small hf
    have HTK := Lib.hid (fun W (b : Below w.heap.size w W) => ptxs_any k n.ks W (h.ks.below b) hn.kl (fun s hs => Nat.le_trans (hk s hs) (by decide)))
    have HTV := Lib.hid (fun W (b : Below w.heap.size w W) => ptxs_any v n.vs W (h.vs.below b) hn.vl hv)
    obtain ⟨ap, cp, rfl⟩ := h.ps.shape
    have hsz : sizeN n = 2 + txs n.ks + txs n.vs + 44 * n.ps.length := rfl
    have pI : (n.ps.length : Int) ≤ 140737488351232 := by have := hn.pl; omega
    have kI : ((txs n.ks : Nat) : Int) ≤ 13651536370069504 := by have := txs_le n.ks 96 (fun s hs => Nat.le_trans (hk s hs) (by decide)); have := hn.kl; omega
    have vI : ((txs n.vs : Nat) : Int) ≤ 13651536370069504 := by have := txs_le n.vs 96 hv; have := hn.vl; omega
    have k0 : (0 : Int) ≤ ((txs n.ks : Nat) : Int) := by omega
    have v0 : (0 : Int) ≤ ((txs n.vs : Nat) : Int) := by omega
    have p0 : (0 : Int) ≤ (n.ps.length : Int) := by omega
    have HSZ := Lib.hid (show ((sizeN n : Nat) : Int) = 2 + ((txs n.ks : Nat) : Int) + ((txs n.vs : Nat) : Int) + 44 * (n.ps.length : Int) by rw [hsz]; omega)
    clear h hn hb1 hf HE hk hv hsz
    generalize n.lf = lf at *
    generalize txs n.ks = TK at *
    generalize txs n.vs = TV at *
    generalize n.ps.length = PL at *
    go_enter Try.func16, Try.ntmps16
    go_wp2_with (first
      | (with_reducible refine wpList_load_row (o := ⟨some 4, _, _, _, _, _⟩) rfl 25 _ rfl w.heap.size rfl 25 #[.bool lf, k, v, .slice ap PL cp] (0, 0) _ HA1.out Try.underlying25 rfl SE.out ?_))
    refine HF.out.mono ?_
    rintro e w3 ⟨rfl, hb3⟩
    have HB3 := Lib.hid (HB1.out.trans (hb3.mono HB1.out.size))
    have HTK3 := Lib.hid (show ∀ q, Calls Try.prog 47 #[k] (w3.drewN q) _ from fun q => HTK.out (w3.drewN q) (ybelow_drewN HB3.out q))
    have HTV3 := Lib.hid (show ∀ q, Calls Try.prog 47 #[v] (w3.drewN q) _ from fun q => HTV.out (w3.drewN q) (ybelow_drewN HB3.out q))
    obtain ⟨_, c1, c2, c3⟩ := node_at ((hb3.block _ HT.out).trans HA1.out)
    clear hb3 HF HB1 HA1 HTK HTV
    go_upto_region 3 with fail
    go_quiet ((first | (go_at_call_of 47 k; exact Calls.quiet_of_same (HTK3.out _)) | (go_at_call_of 47 v; exact Calls.quiet_of_same (HTV3.out _))))
    go_wp2_with fail
    go_ret2
    rw [HSZ.out]
    exact ⟨rfl, ybelow_drewN HB3.out nq⟩
theorem sizeN_max {n : NodeV} (hf : formB n = true) (hn : NB n) : ((sizeN n : Nat) : Int) ≤ 36028797018963968 := by
  obtain ⟨hk, hv⟩ := form_small hf
  have h1 := txs_le n.ks 96 (fun s hs => Nat.le_trans (hk s hs) (by decide))
  have h2 := txs_le n.vs 96 hv
  have := hn.kl
  have := hn.vl
  have := hn.pl
  unfold sizeN
  omega
set_option maxRecDepth 100000 in
set_option maxHeartbeats 1600000 in
theorem ncheck_any (k v p : Value) (n : NodeV) (w : World) (h : NR w k v p n) (hn : NB n) :
    Calls Try.prog 19 #[.agg #[.bool n.lf, k, v, p]] w fun e w' => e = .returned (.int .i64 (checkN n)) ∧ Below w.heap.size w w' := by
  have hb1 := (Below.refl w.heap.size w).alloc (Nat.le_refl _) (.cells #[.bool n.lf, k, v, p] 25)
  have HA1 := Lib.hid (heap_alloc_new w (.cells #[.bool n.lf, k, v, p] 25))
  have HF := Lib.hid (nsize_any k v p n _ (h.below hb1) hn)
  have HB1 := Lib.hid hb1
  have SE := Lib.hid (size_node n.lf k v p)
  have HE := Lib.hid (show sizeA n = if formB n then (((sizeN n : Nat) : Int), 0) else (0, 4) from rfl)
  have HC := Lib.hid (show checkN n = if formB n then (if sizeN n ≤ 512 then 0 else 6) else 4 from rfl)
  have HM := Lib.hid (fun hf => sizeN_max (n := n) hf hn)
  cases hf : formB n with
  | false =>
    rw [hf] at HC HE
    rw [show sizeA n = (0, 4) from HE.out] at HF
    rw [show checkN n = 4 from HC.out]
    clear h hn hb1 hf HE HC HM
    generalize n.lf = lf at *
    go_enter Try.func19, Try.ntmps19
    go_wp2_with (first
      | (with_reducible refine wpList_load_row (o := ⟨some 6, _, _, _, _, _⟩) rfl 25 _ rfl w.heap.size rfl 25 #[.bool lf, k, v, p] (0, 0) _ HA1.out Try.underlying25 rfl SE.out ?_))
    refine HF.out.mono ?_
    rintro e w3 ⟨rfl, hb3⟩
    have HB3 := Lib.hid (HB1.out.trans (hb3.mono HB1.out.size))
    clear hb3 HF HB1 HA1
    go_wp2_with fail
    go_ret
    exact ⟨rfl, HB3.out⟩
  | true =>
    rw [hf] at HC HE
    rw [show sizeA n = (((sizeN n : Nat) : Int), 0) from HE.out] at HF
    rw [show checkN n = if sizeN n ≤ 512 then 0 else 6 from HC.out]
    have zI := HM.out hf
    have z0 : (0 : Int) ≤ ((sizeN n : Nat) : Int) := by omega
    clear h hn hb1 hf HE HC HM
    generalize n.lf = lf at *
    generalize sizeN n = Z at *
    by_cases hz : Z ≤ 512
    · rw [if_pos hz]
      have hd : decide ((512 : Int) < (Z : Int)) = false := by simp; omega
      clear hz
      go_enter Try.func19, Try.ntmps19
      go_wp2_with (first
        | (with_reducible refine wpList_load_row (o := ⟨some 6, _, _, _, _, _⟩) rfl 25 _ rfl w.heap.size rfl 25 #[.bool lf, k, v, p] (0, 0) _ HA1.out Try.underlying25 rfl SE.out ?_))
      refine HF.out.mono ?_
      rintro e w3 ⟨rfl, hb3⟩
      have HB3 := Lib.hid (HB1.out.trans (hb3.mono HB1.out.size))
      clear hb3 HF HB1 HA1
      go_wp2_with fail
      go_ret
      exact ⟨rfl, HB3.out⟩
    · rw [if_neg hz]
      have hd : decide ((512 : Int) < (Z : Int)) = true := by simp; omega
      clear hz
      go_enter Try.func19, Try.ntmps19
      go_wp2_with (first
        | (with_reducible refine wpList_load_row (o := ⟨some 6, _, _, _, _, _⟩) rfl 25 _ rfl w.heap.size rfl 25 #[.bool lf, k, v, p] (0, 0) _ HA1.out Try.underlying25 rfl SE.out ?_))
      refine HF.out.mono ?_
      rintro e w3 ⟨rfl, hb3⟩
      have HB3 := Lib.hid (HB1.out.trans (hb3.mono HB1.out.size))
      clear hb3 HF HB1 HA1
      go_wp2_with fail
      go_ret
      exact ⟨rfl, HB3.out⟩
end Go.Proofs.Ytcgddhainmnebaa
