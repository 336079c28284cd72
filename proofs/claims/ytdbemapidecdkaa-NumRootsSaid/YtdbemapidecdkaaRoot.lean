/-
  Whether a number of four words is above another one, as the Go text asks it; the k-th root of such a number, bit by bit.
-/
import Derived.Test.YtdbemapidecdkaaPower
import Derived.Deep.RegionWith
namespace Go.Proofs.Ytdbemapidecdkaa
open Go.RowKit

theorem two (w : World) (A B : Obj) : ((w.alloc A).alloc B).heap[w.heap.size]? = some A ∧ ((w.alloc A).alloc B).heap[w.heap.size + 1]? = some B ∧ ((w.alloc A).alloc B).heap.size = w.heap.size + 2 ∧ Below w.heap.size w ((w.alloc A).alloc B) := by
  refine ⟨?_, ?_, ?_, ((Below.refl w.heap.size w).alloc (Nat.le_refl _) A).alloc (by simp) B⟩
  · rw [Below.heap_alloc _ _ _ (by simp)]; exact heap_alloc_new w A
  · show ((w.heap.push A).push B)[w.heap.size + 1]? = _
    simp [Array.getElem_push]
  · simp

set_option maxHeartbeats 800000 in
theorem above_any (us bs : List Nat) (w : World) (hus : us.length = 4) (hbs : bs.length = 4) (ha : Small us) (hb : Small bs) :
    Calls Try.prog 32 #[.agg (wordsOf us), .agg (wordsOf bs)] w fun e w' => e = .returned (.bool (decide (val bs < val us))) ∧ Below w.heap.size w w' := by
  obtain ⟨a0, a1, a2, a3, hu⟩ : ∃ a0 a1 a2 a3, us = [a0, a1, a2, a3] := by
    match us, hus with
    | [x0, x1, x2, x3], _ => exact ⟨_, _, _, _, rfl⟩
  obtain ⟨b0, b1, b2, b3, hv⟩ : ∃ b0 b1 b2 b3, bs = [b0, b1, b2, b3] := by
    match bs, hbs with
    | [x0, x1, x2, x3], _ => exact ⟨_, _, _, _, rfl⟩
  have eu : wordsOf us = #[.int .u32 a0, .int .u32 a1, .int .u32 a2, .int .u32 a3] := by rw [hu]; rfl
  have ev : wordsOf bs = #[.int .u32 b0, .int .u32 b1, .int .u32 b2, .int .u32 b3] := by rw [hv]; rfl
  rw [eu, ev]
  have EU := Lib.hid eu
  have EV := Lib.hid ev
  clear hu hv eu ev
  go_enter Try.func32, Try.ntmps32
  go_wp2
  obtain ⟨h1, h2, hsz, hbel⟩ := two w (Obj.cells #[.int .u32 a0, .int .u32 a1, .int .u32 a2, .int .u32 a3] 48) (Obj.cells #[.int .u32 b0, .int .u32 b1, .int .u32 b2, .int .u32 b3] 48)
  generalize ((w.alloc (Obj.cells #[.int .u32 a0, .int .u32 a1, .int .u32 a2, .int .u32 a3] 48)).alloc (Obj.cells #[.int .u32 b0, .int .u32 b1, .int .u32 b2, .int .u32 b3] 48)) = W0 at *
  have hA : Arr W0 w.heap.size us := by unfold Arr; rw [EU.out]; exact h1
  have hB : Arr W0 (w.heap.size + 1) bs := by unfold Arr; rw [EV.out]; exact h2
  clear h1 h2
  go_loopw [5] (fun v wr => ∃ m : Nat, m ≤ 4 ∧ v = .int .i64 ((m : Int) - 1) ∧ us.drop m = bs.drop m ∧ Below (w.heap.size + 2) W0 wr) (fun v _ => (intOf v + 1).toNat)
  case atStart => exact ⟨4, by omega, rfl, by rw [List.drop_of_length_le (by omega), List.drop_of_length_le (by omega)], Below.refl _ _⟩
  case round =>
    obtain ⟨m, hm, rfl, hd, hbx⟩ := hrel
    cases m with
    | zero =>
      have HD := Lib.hid hd
      clear hd
      go_wp2
      go_ret
      have e : us = bs := by simpa using HD.out
      exact ⟨by rw [e]; simp, hbel.trans (hbx.mono (by omega))⟩
    | succ i =>
      have e0 : ((i + 1 : Nat) : Int) - 1 = (i : Int) := by omega
      rw [e0]
      clear e0
      have c1 := (hA.below hbx (by omega)).cell (k := i) (by omega)
      have c2 := (hB.below hbx (by omega)).cell (k := i) (by omega)
      have hcmp := val_cmp us bs i (by omega) (by omega) ha hb hd
      have hdd : us[i]?.getD 0 = bs[i]?.getD 0 → us.drop i = bs.drop i := fun h => by rw [drop_at us i (by omega), drop_at bs i (by omega), hd, h]
      obtain ⟨x, hx⟩ : ∃ x, us[i]?.getD 0 = x := ⟨_, rfl⟩
      obtain ⟨y, hy⟩ : ∃ y, bs[i]?.getD 0 = y := ⟨_, rfl⟩
      rw [hx] at c1
      rw [hy] at c2
      rw [hx, hy] at hcmp hdd
      have HC := Lib.hid hcmp
      have HDD := Lib.hid hdd
      clear hcmp hdd hd hx hy
      by_cases hxy : x = y
      · subst hxy
        go_wp2
        go_quiet (fail)
        go_wp2
        go_roundw
        case rel => exact ⟨i, by omega, rfl, HDD.out (by simp), below_drewN hbx _⟩
        case measure => simp [intOf]
      · go_wp2
        go_quiet (fail)
        go_wp2
        go_quiet (fail)
        go_wp2
        go_ret
        refine ⟨?_, hbel.trans ((below_drewN (below_drewN hbx _) _).mono (by omega))⟩
        rw [decide_eq_decide.2 (HC.out hxy)]
        rfl

theorem above_no (us bs : List Nat) (w : World) (hus : us.length = 4) (hbs : bs.length = 4) (ha : Small us) (hb : Small bs) (h : val us ≤ val bs) :
    Calls Try.prog 32 #[.agg (wordsOf us), .agg (wordsOf bs)] w fun e w' => e = .returned (.bool false) ∧ Below w.heap.size w w' := by
  refine (above_any us bs w hus hbs ha hb).mono ?_
  rintro e w' ⟨rfl, h'⟩
  exact ⟨by rw [decide_eq_false (by omega)], h'⟩
theorem above_yes (us bs : List Nat) (w : World) (hus : us.length = 4) (hbs : bs.length = 4) (ha : Small us) (hb : Small bs) (h : val bs < val us) :
    Calls Try.prog 32 #[.agg (wordsOf us), .agg (wordsOf bs)] w fun e w' => e = .returned (.bool true) ∧ Below w.heap.size w w' := by
  refine (above_any us bs w hus hbs ha hb).mono ?_
  rintro e w' ⟨rfl, h'⟩
  exact ⟨by rw [decide_eq_true h], h'⟩

theorem bcell {W w1 : World} (hb : Below W.heap.size W w1) : (∀ b o, b < W.heap.size → w1.cell? ⟨b, o, none⟩ = W.cell? ⟨b, o, none⟩) ∧ (∀ b o, b < W.heap.size → w1.frozen? ⟨b, o, none⟩ = W.frozen? ⟨b, o, none⟩) :=
  ⟨fun b o h => hb.cell (p := ⟨b, o, none⟩) h, fun b o h => hb.frozen (p := ⟨b, o, none⟩) h⟩

theorem place_or (f n : Nat) (hn : n ≤ 39) (hf : f % 2 ^ (n + 1) = 0) (hl : f < 2 ^ 40) : bits BinOp.or IntKind.u64 (f : Int) (IntKind.u64.wrap (2 ^ n)) = ((f + 2 ^ n : Nat) : Int) := by
  have h1 : 2 ^ n ≤ 2 ^ 39 := Nat.pow_le_pow_right (by decide) hn
  have e1 : ((2 : Int) ^ n) = ((2 ^ n : Nat) : Int) := by simp
  rw [e1, wrap_u64_of _ (by omega), bits_or_u64 _ _ (by omega) (by omega)]
  have h2 := Nat.div_add_mod f (2 ^ (n + 1))
  rw [hf, Nat.add_zero, Nat.mul_comm] at h2
  have h3 := or_add (f / 2 ^ (n + 1)) (2 ^ n) (n + 1) (by rw [Nat.pow_succ]; have := Nat.two_pow_pos n; omega)
  rw [h2] at h3
  rw [h3]
theorem place_lt (f n : Nat) (hn : n ≤ 39) (hf : f % 2 ^ (n + 1) = 0) (hl : f < 2 ^ 40) : f + 2 ^ n < 2 ^ 40 ∧ (f + 2 ^ n) % 2 ^ n = 0 ∧ f % 2 ^ n = 0 := by
  have h2 := Nat.div_add_mod f (2 ^ (n + 1))
  rw [hf, Nat.add_zero] at h2
  generalize f / 2 ^ (n + 1) = q at *
  subst h2
  have e : (2 : Nat) ^ 40 = 2 ^ (n + 1) * 2 ^ (39 - n) := by rw [← Nat.pow_add]; congr 1; omega
  rw [e] at hl ⊢
  have hq := Nat.lt_of_mul_lt_mul_left hl
  have h3 := Nat.mul_le_mul_left (2 ^ (n + 1)) (Nat.succ_le_of_lt hq)
  rw [Nat.mul_succ] at h3
  have h4 := Nat.two_pow_pos n
  refine ⟨by rw [Nat.pow_succ] at *; omega, ?_, ?_⟩
  · rw [Nat.pow_succ, Nat.mul_assoc]; simp
  · rw [Nat.pow_succ, Nat.mul_assoc]; simp

/-- The k-th root of p times 2^(32 k), rounded down, by its bits. -/
def rootUpto (g k : Nat) : Nat → Nat → Nat
  | 0, f => f
  | n + 1, f => rootUpto g k n (if (f + 2 ^ n) ^ k ≤ g then f + 2 ^ n else f)

set_option maxHeartbeats 800000 in
theorem root_any (gs : List Nat) (k : Nat) (w : World) (hgs : gs.length = 4) (hg : Small gs) (hk : k = 2 ∨ k = 3) :
    Calls Try.prog 27 #[.agg (wordsOf gs), .int .i64 k] w fun e w' => e = .returned (.int .u64 (rootUpto (val gs) k 40 0 : Nat)) ∧ Below w.heap.size w w' := by
  obtain ⟨a0, a1, a2, a3, hu⟩ : ∃ a0 a1 a2 a3, gs = [a0, a1, a2, a3] := by
    match gs, hgs with
    | [x0, x1, x2, x3], _ => exact ⟨_, _, _, _, rfl⟩
  have eu : wordsOf gs = #[.int .u32 a0, .int .u32 a1, .int .u32 a2, .int .u32 a3] := by rw [hu]; rfl
  rw [eu]
  have EU := Lib.hid eu
  clear hu eu
  go_enter Try.func27, Try.ntmps27
  go_wp2
  have h1 := heap_alloc_new w (Obj.cells #[.int .u32 a0, .int .u32 a1, .int .u32 a2, .int .u32 a3] 48)
  have hbel := (Below.refl w.heap.size w).alloc (Nat.le_refl _) (Obj.cells #[.int .u32 a0, .int .u32 a1, .int .u32 a2, .int .u32 a3] 48)
  have hsz : (w.alloc (Obj.cells #[.int .u32 a0, .int .u32 a1, .int .u32 a2, .int .u32 a3] 48)).heap.size = w.heap.size + 1 := by simp
  generalize (w.alloc (Obj.cells #[.int .u32 a0, .int .u32 a1, .int .u32 a2, .int .u32 a3] 48)) = W0 at *
  have hA : Arr W0 w.heap.size gs := by unfold Arr; rw [EU.out]; exact h1
  clear h1
  go_loopw [5, 6] (fun v5 v6 wr => ∃ n f : Nat, n ≤ 40 ∧ v6 = .int .i64 ((n : Int) - 1) ∧ v5 = .int .u64 (f : Nat) ∧ f % 2 ^ n = 0 ∧ f < 2 ^ 40 ∧ rootUpto (val gs) k n f = rootUpto (val gs) k 40 0 ∧ Below (w.heap.size + 1) W0 wr) (fun _ v _ => (intOf v + 1).toNat)
  case atStart => exact ⟨40, 0, by omega, rfl, rfl, by simp, by simp, rfl, Below.refl _ _⟩
  case round =>
    obtain ⟨m, f, hm, rfl, rfl, hf0, hf1, hr, hbx⟩ := hrel
    cases m with
    | zero =>
      have HR := Lib.hid hr
      clear hr hf0
      go_wp2
      go_ret
      exact ⟨by rw [← HR.out]; rfl, hbel.trans (hbx.mono (by omega))⟩
    | succ n =>
      have e0 : ((n + 1 : Nat) : Int) - 1 = (n : Int) := by omega
      rw [e0]
      clear e0
      have hor := place_or f n (by omega) hf0 hf1
      obtain ⟨q1, q2, q3⟩ := place_lt f n (by omega) hf0 hf1
      have hstep : rootUpto (val gs) k (n + 1) f = rootUpto (val gs) k n (if (f + 2 ^ n) ^ k ≤ val gs then f + 2 ^ n else f) := rfl
      rw [hstep] at hr
      clear hstep
      generalize f + 2 ^ n = g at *
      have hgk : g ^ k < 4294967296 ^ 4 := by
        have h3 : g ^ k ≤ (2 ^ 40) ^ k := Nat.pow_le_pow_left (by omega) k
        rcases hk with rfl | rfl
        · exact Nat.lt_of_le_of_lt h3 (by decide)
        · exact Nat.lt_of_le_of_lt h3 (by decide)
      have hgl : g < 18446744073709551616 := by
        have : (2 : Nat) ^ 40 = 1099511627776 := by decide
        omega
      have d0 : wr.heap[w.heap.size]? = some (.cells (wordsOf gs) 48 (0, 0)) := (hA.below hbx (by omega))
      rw [EU.out] at d0
      have d1 : wr.cell? ⟨w.heap.size, 0, none⟩ = some (.int .u32 a0) := (cell_of_row wr _ 0 _ _ _ d0)
      have d2 : wr.cell? ⟨w.heap.size, 1, none⟩ = some (.int .u32 a1) := (cell_of_row wr _ 1 _ _ _ d0)
      have d3 : wr.cell? ⟨w.heap.size, 2, none⟩ = some (.int .u32 a2) := (cell_of_row wr _ 2 _ _ _ d0)
      have d4 : wr.cell? ⟨w.heap.size, 3, none⟩ = some (.int .u32 a3) := (cell_of_row wr _ 3 _ _ _ d0)
      clear d0
      have HF0 := Lib.hid q3
      have HF1 := Lib.hid hf1
      have HG0 := Lib.hid q2
      have HG1 := Lib.hid q1
      have HGK := Lib.hid hgk
      have HGL := Lib.hid hgl
      have HK := Lib.hid hk
      have hk1 : 1 ≤ k := by omega
      have hk2 : k ≤ 3 := by omega
      have hzr := hbx.size
      rw [hsz] at hzr
      have hzl : w.heap.size < wr.heap.size := by omega
      clear hf0 hf1 q1 q2 q3 hgk hgl hk hsz
      by_cases hge : g ^ k ≤ val gs
      · rw [if_pos hge] at hr
        have HR := Lib.hid hr
        have HAB := Lib.hid (fun (ys : List Nat) (w : World) (hyl : ys.length = 4) (hys : Small ys) (hvy : val ys = g ^ k % 4294967296 ^ 4) => show Calls Try.prog 32 #[.agg (wordsOf ys), .agg #[.int .u32 a0, .int .u32 a1, .int .u32 a2, .int .u32 a3]] w fun e w' => e = .returned (.bool false) ∧ Below w.heap.size w w' from by
          rw [← EU.out]; exact above_no ys gs w hyl hgs hys hg (by rw [hvy, Nat.mod_eq_of_lt HGK.out]; exact hge))
        clear hr
        go_wp2_with fail
        go_region_with (first
          | (go_at_call 33; refine (power_any g k _ HGL.out hk1 (by omega)).mono ?_; rintro e w5 ⟨ys, rfl, hyl, hys, hvy, hb5⟩; have g1 : w5.cell? ⟨w.heap.size, 0, none⟩ = some (.int .u32 a0) := (hb5.cell (by simpa using hzl)).trans d1; have g2 : w5.cell? ⟨w.heap.size, 1, none⟩ = some (.int .u32 a1) := (hb5.cell (by simpa using hzl)).trans d2; have g3 : w5.cell? ⟨w.heap.size, 2, none⟩ = some (.int .u32 a2) := (hb5.cell (by simpa using hzl)).trans d3; have g4 : w5.cell? ⟨w.heap.size, 3, none⟩ = some (.int .u32 a3) := (hb5.cell (by simpa using hzl)).trans d4; have HVY := Lib.hid hvy; have HYL := Lib.hid hyl; clear hvy hyl)
          | (go_at_call 32; refine (HAB.out _ _ HYL.out hys HVY.out).mono ?_; rintro e w6 ⟨rfl, hb6⟩))
        all_goals
          go_wp2
          go_roundw
          case rel =>
            have z5 := hb5.size
            exact ⟨n, g, by omega, rfl, rfl, HG0.out, HG1.out, HR.out, (hbx.drew.trans (hb5.mono (by simpa using hzr))).trans (hb6.mono (Nat.le_trans hzr (by simpa using z5)))⟩
          case measure => simp [intOf]
      · rw [if_neg hge] at hr
        have HR := Lib.hid hr
        have HAB := Lib.hid (fun (ys : List Nat) (w : World) (hyl : ys.length = 4) (hys : Small ys) (hvy : val ys = g ^ k % 4294967296 ^ 4) => show Calls Try.prog 32 #[.agg (wordsOf ys), .agg #[.int .u32 a0, .int .u32 a1, .int .u32 a2, .int .u32 a3]] w fun e w' => e = .returned (.bool true) ∧ Below w.heap.size w w' from by
          rw [← EU.out]; exact above_yes ys gs w hyl hgs hys hg (by rw [hvy, Nat.mod_eq_of_lt HGK.out]; omega))
        clear hr
        go_wp2_with fail
        go_region_with (first
          | (go_at_call 33; refine (power_any g k _ HGL.out hk1 (by omega)).mono ?_; rintro e w5 ⟨ys, rfl, hyl, hys, hvy, hb5⟩; have g1 : w5.cell? ⟨w.heap.size, 0, none⟩ = some (.int .u32 a0) := (hb5.cell (by simpa using hzl)).trans d1; have g2 : w5.cell? ⟨w.heap.size, 1, none⟩ = some (.int .u32 a1) := (hb5.cell (by simpa using hzl)).trans d2; have g3 : w5.cell? ⟨w.heap.size, 2, none⟩ = some (.int .u32 a2) := (hb5.cell (by simpa using hzl)).trans d3; have g4 : w5.cell? ⟨w.heap.size, 3, none⟩ = some (.int .u32 a3) := (hb5.cell (by simpa using hzl)).trans d4; have HVY := Lib.hid hvy; have HYL := Lib.hid hyl; clear hvy hyl)
          | (go_at_call 32; refine (HAB.out _ _ HYL.out hys HVY.out).mono ?_; rintro e w6 ⟨rfl, hb6⟩))
        all_goals
          go_wp2
          go_roundw
          case rel =>
            have z5 := hb5.size
            exact ⟨n, f, by omega, rfl, rfl, HF0.out, HF1.out, HR.out, (hbx.drew.trans (hb5.mono (by simpa using hzr))).trans (hb6.mono (Nat.le_trans hzr (by simpa using z5)))⟩
          case measure => simp [intOf]
end Go.Proofs.Ytdbemapidecdkaa
