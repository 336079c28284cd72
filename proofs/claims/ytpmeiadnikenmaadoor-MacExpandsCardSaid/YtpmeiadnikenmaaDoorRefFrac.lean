/-
  The reference's Frac, of any number: what num's answers.
-/
import Derived.Test.YtpmeiadnikenmaaDoorRoots
import Derived.Test.YtpmeiadnikenmaaDoorLong
namespace Go.Proofs.YtpmeiadnikenmaaDoor
open Go.RowKit

/-- The bit that is tried when n of them are left. -/
def bitv (n : Nat) : Int := if n = 0 then 0 else 2 ^ (n - 1)
theorem bitv_succ (n : Nat) : bitv (n + 1) = 2 ^ n := by simp [bitv]
theorem bitv_half (n : Nat) : bitv (n + 1) / 2 = bitv n := by
  cases n with
  | zero => rfl
  | succ n => rw [bitv_succ, bitv_succ, Int.pow_succ]; omega

theorem place41 (f n : Nat) (hn : n ≤ 40) (hf : f % 2 ^ (n + 1) = 0) (hl : f < 2 ^ 41) : f + 2 ^ n < 2 ^ 41 ∧ (f + 2 ^ n) % 2 ^ n = 0 ∧ f % 2 ^ n = 0 := by
  have h2 := Nat.div_add_mod f (2 ^ (n + 1))
  rw [hf, Nat.add_zero] at h2
  generalize f / 2 ^ (n + 1) = q at *
  subst h2
  have e : (2 : Nat) ^ 41 = 2 ^ (n + 1) * 2 ^ (40 - n) := by rw [← Nat.pow_add]; congr 1; omega
  rw [e] at hl ⊢
  have hq := Nat.lt_of_mul_lt_mul_left hl
  have h3 := Nat.mul_le_mul_left (2 ^ (n + 1)) (Nat.succ_le_of_lt hq)
  rw [Nat.mul_succ] at h3
  have h4 := Nat.two_pow_pos n
  refine ⟨by rw [Nat.pow_succ] at *; omega, ?_, ?_⟩
  · rw [Nat.pow_succ, Nat.mul_assoc]; simp
  · rw [Nat.pow_succ, Nat.mul_assoc]; simp

theorem rootUpto_succ (g k n f : Nat) : rootUpto g k (n + 1) f = rootUpto g k n (if (f + 2 ^ n) ^ k ≤ g then f + 2 ^ n else f) := rfl
theorem root41 (p k : Nat) (hk : k = 2 ∨ k = 3) (h2 : p ≤ 65535) : rootUpto (p * 4294967296 ^ k) k 41 0 = rootUpto (p * 4294967296 ^ k) k 40 0 := by
  have hlt : p * 4294967296 ^ k < (2 ^ 40) ^ k := by
    rcases hk with rfl | rfl
    · rw [show (2 ^ 40) ^ 2 = 65536 * 4294967296 ^ 2 from by decide]
      exact Nat.mul_lt_mul_of_pos_right (by omega) (by decide)
    · rw [show (2 ^ 40) ^ 3 = 16777216 * 4294967296 ^ 3 from by decide]
      exact Nat.mul_lt_mul_of_pos_right (by omega) (by decide)
  generalize p * 4294967296 ^ k = g at *
  have e := rootUpto_succ g k 40 0
  have e2 : ¬ (0 + 2 ^ 40) ^ k ≤ g := by rw [Nat.zero_add]; omega
  rw [if_neg e2] at e
  exact e

set_option maxRecDepth 100000 in
set_option maxHeartbeats 1600000 in
theorem rfrac_2 (p : Nat) (w : World) (h1 : 1 ≤ p) (h2 : p ≤ 65535) :
    Calls Tryd.prog 42 #[.int .u32 p, .int .i64 (2 : Nat)] w fun e w' => e = .returned (.tuple #[.int .u32 (fracI p 2 : Nat), .int .i64 0]) ∧ Below w.heap.size w w' := by
  have HOP := Lib.hid (fun w => lof_any (p : Int) w (by omega) (by omega))
  have HOB := Lib.hid (fun w => lof_any 4294967296 w (by omega) (by omega))
  have HR41 := Lib.hid (root41 p 2 (by omega) h2)
  have hp1 : (1 : Int) ≤ (p : Int) := by omega
  have hp2 : (p : Int) ≤ 65535 := by omega
  go_enter Tryd.func42, Tryd.ntmps42
  go_wp2_with fail
  refine (HOP.out _).mono ?_
  rintro e w1 ⟨v1, r1, rfl, a1, a2, a3, a4, a5, b1⟩
  have A1 := Lib.hid a1
  have A3 := Lib.hid a3
  have A4 := Lib.hid a4
  clear a1 a3 a4
  go_wp2_with fail
  refine (HOB.out _).mono ?_
  rintro e w2 ⟨v2, r2, rfl, c1, c2, c3, c4, c5, b2⟩
  have C1 := Lib.hid c1
  have C4 := Lib.hid c4
  have A12 := Lib.hid (A1.out.kept b2)
  clear c1 c3 c4
  go_wp2_with fail
  refine (lpower_any v2 r2 2 _ C1.out c2 (by rw [C4.out]; omega) c5 (by omega)).mono ?_
  rintro e w3 ⟨v3, r3, rfl, d1, d0, d2, d3, d4, d5, b3⟩
  have D1 := Lib.hid d1
  have D4 := Lib.hid d4
  have A13 := Lib.hid (A12.out.kept b3)
  clear d1 d3 d4
  go_wp2_with fail
  refine (ltimes_any _ _ r1 r3 _ A13.out D1.out (ne_of_pos r1 (by rw [A4.out]; omega)) d0 a2 d2 (by omega) d5).mono ?_
  rintro e w4 ⟨v4, r4, rfl, e1, e2, e3, e4, e5, b4⟩
  have hval : valL r4 = ((p * 4294967296 ^ 2 : Nat) : Int) := by rw [e4, A4.out, D4.out, C4.out]; simp
  have E1 := Lib.hid e1
  have E3 := Lib.hid e3
  have HV := Lib.hid hval
  have hb4 : Below w.heap.size w w4 := ((b1.trans (b2.mono b1.size)).trans (b3.mono (Nat.le_trans b1.size b2.size))).trans (b4.mono (Nat.le_trans b1.size (Nat.le_trans b2.size b3.size)))
  have hr4 := ne_of_pos r4 (by
    rw [hval]
    have := Nat.mul_pos h1 (show 0 < 4294967296 ^ 2 by decide)
    omega)
  have hn4 : r4.length ≤ 1000 := by omega
  clear A1 A3 A4 C1 C4 A12 A13 D1 D4 e1 e3 e4 hval a2 a5 c2 c5 d0 d2 d5 e5 b1 b2 b3 b4
  go_wp2_with fail
  generalize hG : p * 4294967296 ^ 2 = G at *
  have HG := Lib.hid hG
  clear hG
  go_loopw [7, 8] (fun v7 v8 wr => ∃ n f : Nat, n ≤ 41 ∧ v8 = .int .u64 (bitv n) ∧ v7 = .int .u64 (f : Nat) ∧ f % 2 ^ n = 0 ∧ f < 2 ^ 41 ∧ rootUpto G 2 n f = rootUpto G 2 41 0 ∧ LS wr v4 r4 ∧ Below w.heap.size w wr) (fun _ v _ => (intOf v).toNat)
  case atStart => exact ⟨41, 0, by omega, rfl, rfl, by simp, by simp, rfl, E1.out, hb4⟩
  case round =>
    obtain ⟨m, f, hm, rfl, rfl, hf0, hf1, hr, hL, hbx⟩ := hrel
    cases m with
    | zero =>
      have e0 : bitv 0 = 0 := rfl
      rw [e0]
      have HR := Lib.hid hr
      clear hr hf0 e0
      have hf2 : f < 2199023255552 := by simpa using hf1
      clear hf1
      go_wp2_with fail
      go_ret2
      refine ⟨?_, hbx⟩
      have hfin : fracI p 2 = f % 4294967296 := by
        unfold fracI
        rw [HG.out, ← HR41.out, ← HR.out]
        rfl
      rw [hfin]
      simp only [Int.natCast_emod]
      rfl
    | succ n =>
      have e0 := bitv_succ n
      have eh := bitv_half n
      have hbn : 0 ≤ bitv n := by unfold bitv; split; omega; exact Int.le_of_lt (Int.pow_pos (by decide))
      rw [e0] at eh ⊢
      obtain ⟨q1, q2, q3⟩ := place41 f n (by omega) hf0 hf1
      have hstep : rootUpto G 2 (n + 1) f = rootUpto G 2 n (if (f + 2 ^ n) ^ 2 ≤ G then f + 2 ^ n else f) := rfl
      rw [hstep] at hr
      have ec : ((2 : Int) ^ n) = ((2 ^ n : Nat) : Int) := by simp
      have hpos := Nat.two_pow_pos n
      rw [ec] at eh ⊢
      generalize hBe : 2 ^ n = B at *
      have HBE := Lib.hid hBe
      clear hBe
      have hB : B < 2199023255552 := by
        have : (2 : Nat) ^ 41 = 2199023255552 := by decide
        omega
      have hf2 : f + B < 2199023255552 := by
        have : (2 : Nat) ^ 41 = 2199023255552 := by decide
        omega
      have HEH := Lib.hid eh
      have HF0 := Lib.hid q3
      have HG0 := Lib.hid q2
      have HF1 := Lib.hid hf1
      have HG1 := Lib.hid q1
      have HL := Lib.hid hL
      have hBp : (0 : Int) < (B : Int) := by omega
      have HE0 := Lib.hid e0
      clear eh q1 q2 q3 hf0 hf1 hL hstep ec e0
      have HOF := Lib.hid (fun w => lof_any ((f : Int) + (B : Int)) w (by omega) (by omega))
      have hcond : ((f : Int) + (B : Int)) ^ 2 = (((f + B) ^ 2 : Nat) : Int) := by simp
      have HCO := Lib.hid hcond
      clear hcond
      go_wp2_with fail
      refine (HOF.out _).mono ?_
      rintro e w5 ⟨v5, r5, rfl, a1, a2, a3, a4, a5, b5⟩
      have A1 := Lib.hid a1
      have A4 := Lib.hid a4
      have L5 := Lib.hid (HL.out.kept b5)
      clear a1 a3 a4
      go_wp2_with fail
      refine (lpower_any v5 r5 2 _ A1.out a2 (by rw [A4.out]; omega) a5 (by omega)).mono ?_
      rintro e w6 ⟨v6, r6, rfl, d1, d0, d2, d3, d4, d5, b6⟩
      have D1 := Lib.hid d1
      have D3 := Lib.hid d3
      have D4 := Lib.hid (d4.trans (by rw [A4.out, HCO.out]))
      have L6 := Lib.hid (L5.out.kept b6)
      clear d1 d3 d4
      go_wp2_with fail
      refine (lmore_any _ _ r6 r4 _ D1.out L6.out d0 hr4 d2 e2 D3.out E3.out (by omega) hn4).mono ?_
      rintro e w7 ⟨rfl, b7⟩
      have L7 := Lib.hid (L6.out.kept b7)
      have hb7 := ((hbx.trans (b5.mono hbx.size)).trans (b6.mono (Nat.le_trans hbx.size b5.size))).trans (b7.mono (Nat.le_trans hbx.size (Nat.le_trans b5.size b6.size)))
      clear hbx b5 b6 b7 a2 a5 d0 d2 d5
      generalize (f + B) ^ 2 = T at *
      by_cases hge : T ≤ G
      · rw [if_pos hge] at hr
        have hdec : decide (valL r4 < valL r6) = false := by rw [HV.out, D4.out]; apply decide_eq_false; omega
        rw [hdec]
        have HR := Lib.hid hr
        clear hr hge hdec
        go_wp2_with fail
        go_roundw
        case rel => exact ⟨n, f + B, by omega, by rw [HEH.out], by simp, by rw [HBE.out]; exact HG0.out, HG1.out, HR.out, L7.out, hb7⟩
        case measure => simp [intOf]; omega
      · rw [if_neg hge] at hr
        have hdec : decide (valL r4 < valL r6) = true := by rw [HV.out, D4.out]; apply decide_eq_true; omega
        rw [hdec]
        have HR := Lib.hid hr
        clear hr hge hdec
        go_wp2_with fail
        go_roundw
        case rel => exact ⟨n, f, by omega, by rw [HEH.out], rfl, by rw [HBE.out]; exact HF0.out, HF1.out, HR.out, L7.out, hb7⟩
        case measure => simp [intOf]; omega

set_option maxRecDepth 100000 in
set_option maxHeartbeats 1600000 in
theorem rfrac_3 (p : Nat) (w : World) (h1 : 1 ≤ p) (h2 : p ≤ 65535) :
    Calls Tryd.prog 42 #[.int .u32 p, .int .i64 (3 : Nat)] w fun e w' => e = .returned (.tuple #[.int .u32 (fracI p 3 : Nat), .int .i64 0]) ∧ Below w.heap.size w w' := by
  have HOP := Lib.hid (fun w => lof_any (p : Int) w (by omega) (by omega))
  have HOB := Lib.hid (fun w => lof_any 4294967296 w (by omega) (by omega))
  have HR41 := Lib.hid (root41 p 3 (by omega) h2)
  have hp1 : (1 : Int) ≤ (p : Int) := by omega
  have hp2 : (p : Int) ≤ 65535 := by omega
  go_enter Tryd.func42, Tryd.ntmps42
  go_wp2_with fail
  refine (HOP.out _).mono ?_
  rintro e w1 ⟨v1, r1, rfl, a1, a2, a3, a4, a5, b1⟩
  have A1 := Lib.hid a1
  have A3 := Lib.hid a3
  have A4 := Lib.hid a4
  clear a1 a3 a4
  go_wp2_with fail
  refine (HOB.out _).mono ?_
  rintro e w2 ⟨v2, r2, rfl, c1, c2, c3, c4, c5, b2⟩
  have C1 := Lib.hid c1
  have C4 := Lib.hid c4
  have A12 := Lib.hid (A1.out.kept b2)
  clear c1 c3 c4
  go_wp2_with fail
  refine (lpower_any v2 r2 3 _ C1.out c2 (by rw [C4.out]; omega) c5 (by omega)).mono ?_
  rintro e w3 ⟨v3, r3, rfl, d1, d0, d2, d3, d4, d5, b3⟩
  have D1 := Lib.hid d1
  have D4 := Lib.hid d4
  have A13 := Lib.hid (A12.out.kept b3)
  clear d1 d3 d4
  go_wp2_with fail
  refine (ltimes_any _ _ r1 r3 _ A13.out D1.out (ne_of_pos r1 (by rw [A4.out]; omega)) d0 a2 d2 (by omega) d5).mono ?_
  rintro e w4 ⟨v4, r4, rfl, e1, e2, e3, e4, e5, b4⟩
  have hval : valL r4 = ((p * 4294967296 ^ 3 : Nat) : Int) := by rw [e4, A4.out, D4.out, C4.out]; simp
  have E1 := Lib.hid e1
  have E3 := Lib.hid e3
  have HV := Lib.hid hval
  have hb4 : Below w.heap.size w w4 := ((b1.trans (b2.mono b1.size)).trans (b3.mono (Nat.le_trans b1.size b2.size))).trans (b4.mono (Nat.le_trans b1.size (Nat.le_trans b2.size b3.size)))
  have hr4 := ne_of_pos r4 (by
    rw [hval]
    have := Nat.mul_pos h1 (show 0 < 4294967296 ^ 3 by decide)
    omega)
  have hn4 : r4.length ≤ 1000 := by omega
  clear A1 A3 A4 C1 C4 A12 A13 D1 D4 e1 e3 e4 hval a2 a5 c2 c5 d0 d2 d5 e5 b1 b2 b3 b4
  go_wp2_with fail
  generalize hG : p * 4294967296 ^ 3 = G at *
  have HG := Lib.hid hG
  clear hG
  go_loopw [7, 8] (fun v7 v8 wr => ∃ n f : Nat, n ≤ 41 ∧ v8 = .int .u64 (bitv n) ∧ v7 = .int .u64 (f : Nat) ∧ f % 2 ^ n = 0 ∧ f < 2 ^ 41 ∧ rootUpto G 3 n f = rootUpto G 3 41 0 ∧ LS wr v4 r4 ∧ Below w.heap.size w wr) (fun _ v _ => (intOf v).toNat)
  case atStart => exact ⟨41, 0, by omega, rfl, rfl, by simp, by simp, rfl, E1.out, hb4⟩
  case round =>
    obtain ⟨m, f, hm, rfl, rfl, hf0, hf1, hr, hL, hbx⟩ := hrel
    cases m with
    | zero =>
      have e0 : bitv 0 = 0 := rfl
      rw [e0]
      have HR := Lib.hid hr
      clear hr hf0 e0
      have hf2 : f < 2199023255552 := by simpa using hf1
      clear hf1
      go_wp2_with fail
      go_ret2
      refine ⟨?_, hbx⟩
      have hfin : fracI p 3 = f % 4294967296 := by
        unfold fracI
        rw [HG.out, ← HR41.out, ← HR.out]
        rfl
      rw [hfin]
      simp only [Int.natCast_emod]
      rfl
    | succ n =>
      have e0 := bitv_succ n
      have eh := bitv_half n
      have hbn : 0 ≤ bitv n := by unfold bitv; split; omega; exact Int.le_of_lt (Int.pow_pos (by decide))
      rw [e0] at eh ⊢
      obtain ⟨q1, q2, q3⟩ := place41 f n (by omega) hf0 hf1
      have hstep : rootUpto G 3 (n + 1) f = rootUpto G 3 n (if (f + 2 ^ n) ^ 3 ≤ G then f + 2 ^ n else f) := rfl
      rw [hstep] at hr
      have ec : ((2 : Int) ^ n) = ((2 ^ n : Nat) : Int) := by simp
      have hpos := Nat.two_pow_pos n
      rw [ec] at eh ⊢
      generalize hBe : 2 ^ n = B at *
      have HBE := Lib.hid hBe
      clear hBe
      have hB : B < 2199023255552 := by
        have : (2 : Nat) ^ 41 = 2199023255552 := by decide
        omega
      have hf2 : f + B < 2199023255552 := by
        have : (2 : Nat) ^ 41 = 2199023255552 := by decide
        omega
      have HEH := Lib.hid eh
      have HF0 := Lib.hid q3
      have HG0 := Lib.hid q2
      have HF1 := Lib.hid hf1
      have HG1 := Lib.hid q1
      have HL := Lib.hid hL
      have hBp : (0 : Int) < (B : Int) := by omega
      have HE0 := Lib.hid e0
      clear eh q1 q2 q3 hf0 hf1 hL hstep ec e0
      have HOF := Lib.hid (fun w => lof_any ((f : Int) + (B : Int)) w (by omega) (by omega))
      have hcond : ((f : Int) + (B : Int)) ^ 3 = (((f + B) ^ 3 : Nat) : Int) := by simp
      have HCO := Lib.hid hcond
      clear hcond
      go_wp2_with fail
      refine (HOF.out _).mono ?_
      rintro e w5 ⟨v5, r5, rfl, a1, a2, a3, a4, a5, b5⟩
      have A1 := Lib.hid a1
      have A4 := Lib.hid a4
      have L5 := Lib.hid (HL.out.kept b5)
      clear a1 a3 a4
      go_wp2_with fail
      refine (lpower_any v5 r5 3 _ A1.out a2 (by rw [A4.out]; omega) a5 (by omega)).mono ?_
      rintro e w6 ⟨v6, r6, rfl, d1, d0, d2, d3, d4, d5, b6⟩
      have D1 := Lib.hid d1
      have D3 := Lib.hid d3
      have D4 := Lib.hid (d4.trans (by rw [A4.out, HCO.out]))
      have L6 := Lib.hid (L5.out.kept b6)
      clear d1 d3 d4
      go_wp2_with fail
      refine (lmore_any _ _ r6 r4 _ D1.out L6.out d0 hr4 d2 e2 D3.out E3.out (by omega) hn4).mono ?_
      rintro e w7 ⟨rfl, b7⟩
      have L7 := Lib.hid (L6.out.kept b7)
      have hb7 := ((hbx.trans (b5.mono hbx.size)).trans (b6.mono (Nat.le_trans hbx.size b5.size))).trans (b7.mono (Nat.le_trans hbx.size (Nat.le_trans b5.size b6.size)))
      clear hbx b5 b6 b7 a2 a5 d0 d2 d5
      generalize (f + B) ^ 3 = T at *
      by_cases hge : T ≤ G
      · rw [if_pos hge] at hr
        have hdec : decide (valL r4 < valL r6) = false := by rw [HV.out, D4.out]; apply decide_eq_false; omega
        rw [hdec]
        have HR := Lib.hid hr
        clear hr hge hdec
        go_wp2_with fail
        go_roundw
        case rel => exact ⟨n, f + B, by omega, by rw [HEH.out], by simp, by rw [HBE.out]; exact HG0.out, HG1.out, HR.out, L7.out, hb7⟩
        case measure => simp [intOf]; omega
      · rw [if_neg hge] at hr
        have hdec : decide (valL r4 < valL r6) = true := by rw [HV.out, D4.out]; apply decide_eq_true; omega
        rw [hdec]
        have HR := Lib.hid hr
        clear hr hge hdec
        go_wp2_with fail
        go_roundw
        case rel => exact ⟨n, f, by omega, by rw [HEH.out], rfl, by rw [HBE.out]; exact HF0.out, HF1.out, HR.out, L7.out, hb7⟩
        case measure => simp [intOf]; omega

set_option maxHeartbeats 400000 in
theorem rfrac_bad (p k : Int) (w : World) (h : (k ≠ 2 ∧ k ≠ 3) ∨ p < 1 ∨ 65535 < p) :
    Calls Tryd.prog 42 #[.int .u32 p, .int .i64 k] w fun e w' => e = .returned (.tuple #[.int .u32 0, .int .i64 2]) ∧ w' = w := by
  by_cases h2 : k = 2
  · subst h2
    by_cases h1 : p < 1
    · go_enter Tryd.func42, Tryd.ntmps42
      go_wp2_with fail
      go_ret2
      exact ⟨rfl, rfl⟩
    · have h4 : 65535 < p := by omega
      clear h
      go_enter Tryd.func42, Tryd.ntmps42
      go_wp2_with fail
      go_ret2
      exact ⟨rfl, rfl⟩
  by_cases h3 : k = 3
  · subst h3
    by_cases h1 : p < 1
    · go_enter Tryd.func42, Tryd.ntmps42
      go_wp2_with fail
      go_ret2
      exact ⟨rfl, rfl⟩
    · have h4 : 65535 < p := by omega
      clear h
      go_enter Tryd.func42, Tryd.ntmps42
      go_wp2_with fail
      go_ret2
      exact ⟨rfl, rfl⟩
  clear h
  go_enter Tryd.func42, Tryd.ntmps42
  go_wp2_with fail
  go_ret2
  exact ⟨rfl, rfl⟩

theorem rfrac_ok (p k : Nat) (w : World) (hk : k = 2 ∨ k = 3) (h1 : 1 ≤ p) (h2 : p ≤ 65535) :
    Calls Tryd.prog 42 #[.int .u32 p, .int .i64 k] w fun e w' => e = .returned (.tuple #[.int .u32 (fracI p k : Nat), .int .i64 0]) ∧ Below w.heap.size w w' := by
  rcases hk with rfl | rfl
  · exact rfrac_2 p w h1 h2
  · exact rfrac_3 p w h1 h2
end Go.Proofs.YtpmeiadnikenmaaDoor
