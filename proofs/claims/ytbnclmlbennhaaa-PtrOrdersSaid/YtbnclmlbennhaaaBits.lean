/-
  Plain facts on a number's bits, and on bits' number, over no program.
-/
import Derived.Test.YtbnclmlbennhaaaMath
namespace Go.Proofs.Ytbnclmlbennhaaa
set_option maxRecDepth 4000
open Go.RowKit

/-- A number's bits, the lowest first. -/
def bitsI (x : Int) (n : Nat) : List Int := (List.range n).map fun i => x / 2 ^ i % 2
def bitsP (x : Int) (n k : Nat) : List Int := (List.range n).map fun i => if i < k then x / 2 ^ i % 2 else 0
/-- Bits' number, the lowest first. -/
def ofI : List Int → Int
  | [] => 0
  | b :: r => b + 2 * ofI r

theorem bitsP_zero (x : Int) (n : Nat) : (bitsP x n 0).map (Value.int .u8) = List.replicate n (.int .u8 0) := by
  apply List.ext_getElem
  · simp [bitsP]
  · intro i h1 h2; simp [bitsP]
theorem bitsP_at (x : Int) (n k : Nat) (h : k < n) : ((bitsP x n k).map (Value.int .u8))[k]? = some (.int .u8 0) := by
  simp [bitsP, h]
theorem bitsP_set (x : Int) (n k : Nat) : ((bitsP x n k).map (Value.int .u8)).set k (.int .u8 (x / 2 ^ k % 2)) = (bitsP x n (k + 1)).map (Value.int .u8) := by
  apply List.ext_getElem
  · simp [bitsP]
  · intro i h1 h2
    by_cases e : k = i
    · subst e; simp [bitsP]
    · simp only [bitsP, List.map_map, List.getElem_set, if_neg e, List.getElem_map, List.getElem_range, Function.comp_apply]
      by_cases hi : i < k
      · rw [if_pos hi, if_pos (by omega)]
      · rw [if_neg hi, if_neg (by omega)]
theorem bitsP_full (x : Int) (n : Nat) : bitsP x n n = bitsI x n := by
  apply List.map_congr_left
  intro i hi
  rw [if_pos (by simpa using hi)]
theorem bitsI_length (x : Int) (n : Nat) : (bitsI x n).length = n := by simp [bitsI]
theorem bitsI_bit (x : Int) (n : Nat) : ∀ z ∈ bitsI x n, 0 ≤ z ∧ z ≤ 1 := by
  intro z hz
  obtain ⟨i, _, rfl⟩ := List.mem_map.1 hz
  omega
theorem byt_of_bit {l : List Int} (h : ∀ z ∈ l, 0 ≤ z ∧ z ≤ 1) : Byt l := fun z hz => by have := h z hz; omega
theorem bits_next (x : Int) (k : Nat) : x / 2 ^ (k + 1) = x / 2 ^ k / 2 := by
  rw [Int.pow_succ, Int.ediv_ediv_of_nonneg (Int.le_of_lt (Int.pow_pos (by decide)))]
theorem bits_bound (x : Int) (k : Nat) (h0 : 0 ≤ x) : 0 ≤ x / 2 ^ k ∧ x / 2 ^ k ≤ x :=
  ⟨Int.ediv_nonneg h0 (Int.le_of_lt (Int.pow_pos (by decide))), Int.ediv_le_self _ h0⟩
theorem pow2_le63 (n : Nat) (h : n ≤ 63) : (2 : Int) ^ n ≤ 9223372036854775808 := by
  have : ((2 ^ n : Nat) : Int) ≤ ((2 ^ 63 : Nat) : Int) := Int.ofNat_le.2 (Nat.pow_le_pow_right (by decide) h)
  simpa using this

theorem of_bound (l : List Int) : (∀ z ∈ l, 0 ≤ z ∧ z ≤ 1) → 0 ≤ ofI l ∧ ofI l < 2 ^ l.length := by
  induction l with
  | nil => intro _; simp [ofI]
  | cons b r ih =>
    intro h
    have h1 := h b (by simp)
    have h2 := ih fun z hz => h z (by simp [hz])
    simp only [ofI, List.length_cons, Int.pow_succ]
    omega
theorem of_drop_bound (l : List Int) (h : ∀ z ∈ l, 0 ≤ z ∧ z ≤ 1) (k : Nat) : 0 ≤ ofI (l.drop k) ∧ ofI (l.drop k) < 2 ^ (l.drop k).length :=
  of_bound _ fun z hz => h z (List.mem_of_mem_drop hz)
theorem of_step (l : List Int) (i : Nat) (h : i < l.length) : ofI (l.drop i) = ofI (l.drop (i + 1)) * 2 + l[i]?.getD 0 := by
  rw [List.drop_eq_getElem_cons h, ofI]; simp [h]; omega
theorem bit_at (l : List Int) (h : ∀ z ∈ l, 0 ≤ z ∧ z ≤ 1) (k : Nat) : 0 ≤ l[k]?.getD 0 ∧ l[k]?.getD 0 ≤ 1 := by
  by_cases hk : k < l.length
  · simp only [List.getElem?_eq_getElem hk, Option.getD_some]
    exact h _ (List.getElem_mem hk)
  · simp [List.getElem?_eq_none (by omega : l.length ≤ k)]

/-- Where a bit comes from that stands at j behind a turn by n. -/
def src (n : Int) (j : Nat) : Nat := ((j - n) % 32).toNat
/-- 32 bits, turned by n places. -/
def rotI (l : List Int) (n : Int) : List Int := (List.range 32).map fun j => l[src n j]?.getD 0
def rotP (l : List Int) (n : Int) (k : Nat) : List Int := (List.range 32).map fun j => if src n j < k then l[src n j]?.getD 0 else 0
theorem src_lt (n : Int) (j : Nat) : src n j < 32 := by unfold src; omega
theorem rotP_zero (l : List Int) (n : Int) : (rotP l n 0).map (Value.int .u8) = List.replicate 32 (.int .u8 0) := by
  apply List.ext_getElem
  · simp [rotP]
  · intro i h1 h2
    rw [List.getElem_replicate]
    simp [rotP]
theorem rotP_full (l : List Int) (n : Int) : rotP l n 32 = rotI l n := by
  apply List.map_congr_left
  intro j hj
  rw [if_pos (src_lt n j)]
theorem src_dst (n : Int) (k d j : Nat) (hk : k < 32) (hj : j < 32) (hd : ((k + n) % 32).toNat = d) : src n j = k ↔ d = j := by
  unfold src; omega
theorem rotP_set (l : List Int) (n : Int) (k d : Nat) (hk : k < 32) (hd : ((k + n) % 32).toNat = d) :
    ((rotP l n k).map (Value.int .u8)).set d (.int .u8 (l[k]?.getD 0)) = (rotP l n (k + 1)).map (Value.int .u8) := by
  apply List.ext_getElem
  · simp [rotP]
  · intro j h1 h2
    have hj : j < 32 := by simpa [rotP] using h2
    have hs := src_dst n k d j hk hj hd
    simp only [rotP, List.map_map, List.getElem_set, List.getElem_map, List.getElem_range, Function.comp_apply]
    by_cases e : d = j
    · have := hs.2 e
      rw [if_pos e, if_pos (by omega), this]
    · rw [if_neg e]
      have : src n j ≠ k := fun h => e (hs.1 h)
      by_cases hi : src n j < k
      · rw [if_pos hi, if_pos (by omega)]
      · rw [if_neg hi, if_neg (by omega)]
theorem rotP_at (l : List Int) (n : Int) (k d : Nat) (hk : k < 32) (hd : ((k + n) % 32).toNat = d) : ((rotP l n k).map (Value.int .u8))[d]? = some (.int .u8 0) := by
  have hd2 : d < 32 := by omega
  have := (src_dst n k d d hk hd2 hd).2 rfl
  simp [rotP, hd2, this]
theorem rotI_length (l : List Int) (n : Int) : (rotI l n).length = 32 := by simp [rotI]
theorem rotI_bit (l : List Int) (h : ∀ z ∈ l, 0 ≤ z ∧ z ≤ 1) (n : Int) : ∀ z ∈ rotI l n, 0 ≤ z ∧ z ≤ 1 := by
  intro z hz
  obtain ⟨i, _, rfl⟩ := List.mem_map.1 hz
  exact bit_at l h _

/-- Bytes that are laid from the last one on. -/
def putQ (x : Int) (n m : Nat) : List Int := (List.range n).map fun i => if m ≤ i then x / 2 ^ (8 * (n - 1 - i)) % 256 else 0
theorem putQ_full (x : Int) (n : Nat) : (putQ x n n).map (Value.int .u8) = List.replicate n (.int .u8 0) := by
  apply List.ext_getElem
  · simp [putQ]
  · intro i h1 h2
    have : i < n := by simpa [putQ] using h1
    simp [putQ]; omega
theorem putQ_at (x : Int) (n m : Nat) (h : m < n) : ((putQ x n (m + 1)).map (Value.int .u8))[m]? = some (.int .u8 0) := by
  simp [putQ, h]
  intro h'
  omega
theorem putQ_set (x : Int) (n m : Nat) (h : m < n) : ((putQ x n (m + 1)).map (Value.int .u8)).set m (.int .u8 (x / 256 ^ (n - (m + 1)) % 256)) = (putQ x n m).map (Value.int .u8) := by
  apply List.ext_getElem
  · simp [putQ]
  · intro i h1 h2
    by_cases e : m = i
    · subst e
      simp [putQ, show n - (m + 1) = n - 1 - m from by omega, Int.pow_mul]
    · simp only [putQ, List.map_map, List.getElem_set, if_neg e, List.getElem_map, List.getElem_range, Function.comp_apply]
      by_cases hi : m + 1 ≤ i
      · rw [if_pos hi, if_pos (by omega)]
      · rw [if_neg hi, if_neg (by omega)]
theorem putQ_zero (x : Int) (n : Nat) : putQ x n 0 = putI x n := by
  apply List.map_congr_left
  intro i hi
  rw [if_pos (by omega)]
theorem bytes_next (x : Int) (n m : Nat) (h : m < n) : x / 256 ^ (n - m) = x / 256 ^ (n - (m + 1)) / 256 := by
  rw [Int.ediv_ediv_of_nonneg (Int.le_of_lt (Int.pow_pos (by decide))), ← Int.pow_succ]; congr 2; omega
theorem bytes_bound (x : Int) (k : Nat) (h0 : 0 ≤ x) : 0 ≤ x / 256 ^ k ∧ x / 256 ^ k ≤ x :=
  ⟨Int.ediv_nonneg h0 (Int.le_of_lt (Int.pow_pos (by decide))), Int.ediv_le_self _ h0⟩

theorem tmod_bounds (n : Int) : -31 ≤ n.tmod 32 ∧ n.tmod 32 ≤ 31 := by
  rcases Int.le_total 0 n with h | h
  · rw [Int.tmod_eq_emod_of_nonneg h]; omega
  · obtain ⟨m, rfl⟩ : ∃ m, n = -m := ⟨-n, by omega⟩
    rw [Int.neg_tmod, Int.tmod_eq_emod_of_nonneg (by omega)]; omega
theorem turn_index (k n : Int) : ((k + n.tmod 32).tmod 32 + 32) % 32 = (k + n) % 32 := by
  rw [Int.tmod_def (k + n.tmod 32), Int.tmod_def n]
  omega
end Go.Proofs.Ytbnclmlbennhaaa
