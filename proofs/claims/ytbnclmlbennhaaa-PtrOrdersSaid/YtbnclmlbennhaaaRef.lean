/-
  The reference's Bits, Of, Turn, Put, Num, Get and Narrow, each by a contract of its own.
-/
import Derived.Test.YtbnclmlbennhaaaNum
import Derived.Test.YtbnclmlbennhaaaTurn
import Derived.Test.YtbnclmlbennhaaaBits
namespace Go.Proofs.Ytbnclmlbennhaaa
set_option maxRecDepth 4000
open Go.RowKit

set_option maxHeartbeats 400000 in
theorem rnum_nil (w : World) (a : Option Addr) (cap : Nat) :
    Calls Try.prog 51 #[.slice a 0 cap] w fun e w' => e = .returned (.int .u64 0) ∧ w' = w := by
  go_enter Try.func51, Try.ntmps51
  go_wp2
  go_loop [3, 8] (fun x i => x = .int .u64 0 ∧ i = .int .i64 0) (fun _ i => 0)
  case atStart => exact ⟨rfl, rfl⟩
  case round =>
    obtain ⟨rfl, rfl⟩ := hrel
    go_wp2
    go_ret
    exact ⟨rfl, rfl⟩

set_option maxHeartbeats 400000 in
theorem rnum_some (w : World) (b off cap : Nat) (l : List Int) (h8 : l.length ≤ 8) (hb : Byt l)
    (hc : ∀ i, i < l.length → w.cell? ⟨b, off + i, none⟩ = some (.int .u8 (l.getD i 0))) :
    Calls Try.prog 51 #[.slice (some ⟨b, off, none⟩) l.length cap] w fun e w' => e = .returned (.int .u64 (num l)) ∧ w' = w := by
  generalize hn : l.length = n at *
  have HN := Lib.hid hn
  clear hn
  go_enter Try.func51, Try.ntmps51
  go_wp2
  go_loop [3, 8] (fun x i => ∃ k : Nat, k ≤ n ∧ i = .int .i64 k ∧ x = .int .u64 (num (l.take k))) (fun _ i => n - (intOf i).toNat)
  case atStart => exact ⟨0, by omega, rfl, rfl⟩
  case round =>
    obtain ⟨k, hk, rfl, rfl⟩ := hrel
    by_cases hlt : k < n
    · have hcx := hc k hlt
      rw [List.getD_eq_getElem?_getD] at hcx
      clear hc
      obtain ⟨b1, b2⟩ := num_take_le l hb k (by omega)
      obtain ⟨c1, c2⟩ := byt_at l hb k
      have hstep : num (l.take (k + 1)) = num (l.take k) * 256 + l[k]?.getD 0 := by rw [take_next l k (by rw [HN.out]; exact hlt), num_snoc]
      generalize num (l.take k) = y at *
      generalize l[k]?.getD 0 = c at *
      have HS := Lib.hid hstep
      clear hstep
      go_wp2
      go_round
      case rel => exact ⟨k + 1, by omega, by go_num, by rw [HS.out]⟩
      case measure => simp [intOf]; omega
    · obtain rfl : k = n := by omega
      go_wp2
      go_ret
      have e := HN.out
      exact ⟨by rw [List.take_of_length_le (by omega)]; rfl, rfl⟩

/-- The reference's Num, of at most 8 bytes. -/
theorem rnum_any (w : World) (v : Value) (l : List Int) (h : BS w v l) (h8 : l.length ≤ 8) :
    Calls Try.prog 51 #[v] w fun e w' => e = .returned (.int .u64 (num l)) ∧ w' = w := by
  obtain ⟨a, cap, rfl, hb, _, rfl | ⟨b, off, rfl, hc⟩⟩ := h
  · exact rnum_nil w a cap
  · exact rnum_some w b off cap l h8 hb hc

set_option maxHeartbeats 400000 in
theorem rput_range (x n : Int) (w : World) (h : n < 0 ∨ 8 < n) :
    Calls Try.prog 52 #[.int .u64 x, .int .i64 n] w fun e w' => e = .returned (.tuple #[.slice none 0 0, .int .i64 2]) ∧ w' = w := by
  by_cases h1 : n < 0
  · clear h
    go_enter Try.func52, Try.ntmps52
    go_wp2
    go_ret2
    exact ⟨rfl, rfl⟩
  have h2 : 8 < n := by omega
  clear h
  go_enter Try.func52, Try.ntmps52
  go_wp2
  go_ret2
  exact ⟨rfl, rfl⟩

set_option maxHeartbeats 400000 in
theorem rput_loop (x : Int) (n : Nat) (w : World) (h2 : n ≤ 8) (h0 : 0 ≤ x) (h1 : x < 18446744073709551616) :
    Calls Try.prog 52 #[.int .u64 x, .int .i64 n] w fun e w' => Below w.heap.size w w' ∧
      ((x / 256 ^ n = 0 ∧ e = .returned (.tuple #[.slice (some ⟨w.heap.size, 0, none⟩) n n, .int .i64 0]) ∧ w'.ownsRow w.heap.size 5 1 (.slice (some ⟨w.heap.size, 0, none⟩) n n) n ((putI x n).map (.int .u8))) ∨
       (x / 256 ^ n ≠ 0 ∧ e = .returned (.tuple #[.slice none 0 0, .int .i64 2]))) := by
  obtain ⟨i0, hi, hz0, hz1, hz2⟩ := info_parts info_u8
  go_enter Try.func52, Try.ntmps52
  go_wp2_with (at_make; refine wpList_make_full _ rfl _ _ _ rfl w.heap.size 5 i0 (.int .u8 0) 1 Try.underlying28 hi hz0 hz1 .i64 .i64 _ _ n rfl rfl (by rfl) (by rfl) ?c1 ?c2 ?c3 ?_)
  case c1 => rw [hz2]; omega
  case c2 => unfold maxLen; omega
  case c3 => omega
  intro w1 hown hgrow
  have hb := (Below.refl w.heap.size w).grown hgrow (Nat.le_refl _) (by simp)
  have hsz := hgrow.size
  clear hgrow
  generalize hB : w.heap.size = B at *
  clear hi hz0 hz1 hz2
  go_wp2
  go_loopw [0, 7] (fun y i wr => ∃ m : Nat, m ≤ n ∧ i = .int .i64 ((m : Int) - 1) ∧ y = .int .u64 (x / 256 ^ (n - m)) ∧ wr.ownsRow B 5 1 (.slice (some ⟨B, 0, none⟩) n n) n ((putQ x n m).map (.int .u8)) ∧ Below B w wr) (fun _ i _ => (intOf i + 1).toNat)
  case atStart => exact ⟨n, by omega, rfl, by simp, by rw [putQ_full, ← toList_madeCells_one]; exact hown, hb⟩
  case round =>
    obtain ⟨m, hm, rfl, rfl, ho, hbe⟩ := hrel
    cases m with
    | zero =>
      rw [putQ_zero] at ho
      rw [Nat.sub_zero] at *
      have g0 := (bytes_bound x n h0).1
      generalize hye : x / 256 ^ n = y at *
      have HY := Lib.hid hye
      clear hye
      have HO := Lib.hid ho
      clear ho hown
      by_cases hy : y = 0
      · subst hy
        go_wp2
        go_ret2
        subst hB
        exact ⟨hbe, .inl ⟨HY.out, rfl, HO.out⟩⟩
      · have hy1 : 0 < y := by omega
        go_wp2
        go_ret2
        subst hB
        exact ⟨hbe, .inr ⟨by rw [HY.out]; exact hy, rfl⟩⟩
    | succ i =>
      have e0 : ((i + 1 : Nat) : Int) - 1 = (i : Int) := by omega
      rw [e0]
      clear e0
      have hce : wr.cell? ⟨B, i, none⟩ = some (.int .u8 0) := (ho.cellAt i (by omega)).trans (putQ_at x n i (by omega))
      have hfr := ho.frozenAt i
      have hst := ho.stored i
      have hset := putQ_set x n i (by omega)
      have hnext := bytes_next x n i (by omega)
      obtain ⟨y0, y1⟩ := bytes_bound x (n - (i + 1)) h0
      generalize x / 256 ^ (n - (i + 1)) = y at *
      clear ho hown
      have HST := Lib.hid hst
      have HSET := Lib.hid hset
      have HN := Lib.hid hnext
      clear hst hset hnext
      go_wp2
      go_roundw
      case rel => exact ⟨i, by omega, rfl, by rw [HN.out], by rw [← HSET.out]; exact (HST.out _).1, hbe.setCell (Nat.le_refl _) _⟩
      case measure => simp [intOf]

theorem ofI_bits (l : List Int) : (∀ z ∈ l, 0 ≤ z ∧ z ≤ 1) → ∃ m : Nat, ofI l = (m : Int) ∧ ∀ i, m.testBit i = decide (l[i]?.getD 0 = 1) := by
  induction l with
  | nil => intro _; exact ⟨0, rfl, by simp⟩
  | cons b r ih =>
    intro h
    obtain ⟨m, hm, ht⟩ := ih fun z hz => h z (by simp [hz])
    have hb := h b (by simp)
    obtain ⟨c, rfl⟩ := Int.eq_ofNat_of_zero_le hb.1
    refine ⟨c + 2 * m, by simp only [ofI, hm]; omega, fun i => ?_⟩
    have hc : c = 0 ∨ c = 1 := by omega
    cases i with
    | zero =>
      rcases hc with rfl | rfl
      · simp [Nat.testBit_zero]
      · simp only [List.getElem?_cons_zero, Option.getD_some]
        rw [Nat.testBit_zero]
        simp
    | succ i =>
      rw [Nat.testBit_succ, show (c + 2 * m) / 2 = m from by omega, ht i]
      simp

theorem rturn_eq (x n : Int) (h0 : 0 ≤ x) (h1 : x < 4294967296) : ofI (rotI (bitsI x 32) n) = turnI x n := by
  obtain ⟨b, rfl⟩ := as_bits x h0 h1
  rw [turnI_rot]
  obtain ⟨m, hm, ht⟩ := ofI_bits (rotI (bitsI (b.toNat : Int) 32) n) (rotI_bit _ (bitsI_bit _ 32) n)
  rw [hm]
  congr 1
  apply Nat.eq_of_testBit_eq
  intro i
  rw [ht i]
  by_cases hi : i < 32
  · have hs := src_lt n i
    have e1 : (rotI (bitsI (b.toNat : Int) 32) n)[i]?.getD 0 = (b.toNat : Int) / 2 ^ src n i % 2 := by
      simp [rotI, bitsI, hi, hs]
    rw [e1, BitVec.testBit_toNat, rot_at b _ i (by omega) hi, show (i + 32 - (n % 32).toNat) % 32 = src n i from by unfold src; omega, ← BitVec.testBit_toNat,
      Nat.testBit_eq_decide_div_mod_eq]
    apply decide_eq_decide.2
    have e2 : ((b.toNat : Int) / 2 ^ src n i % 2) = ((b.toNat / 2 ^ src n i % 2 : Nat) : Int) := by simp
    rw [e2]; omega
  · rw [BitVec.testBit_toNat, BitVec.getLsbD_of_ge _ _ (by omega), List.getElem?_eq_none (by rw [rotI_length]; omega)]
    rfl
end Go.Proofs.Ytbnclmlbennhaaa
