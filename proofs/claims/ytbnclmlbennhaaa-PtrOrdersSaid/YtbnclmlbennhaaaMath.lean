/-
  Plain facts on numbers, bits and lists of bytes, over no program.
-/
import Derived.WalkKit
namespace Go.Proofs.Ytbnclmlbennhaaa
set_option maxRecDepth 4000
open Go.RowKit

theorem wrap_u64_of (n : Nat) (h : n < 18446744073709551616) : IntKind.u64.wrap (n : Int) = n := IntWalk.u64_in _ (by omega)
theorem wrap_u32_of (n : Nat) (h : n < 4294967296) : IntKind.u32.wrap (n : Int) = n := IntWalk.u32_in _ (by omega)
theorem wrap_u8_of (n : Nat) (h : n < 256) : IntKind.u8.wrap (n : Int) = n := IntWalk.u8_in _ (by omega)

theorem ofInt_nat (m n : Nat) : (BitVec.ofInt m (n : Int)) = BitVec.ofNat m n := by
  simp

theorem bits_nat_or (k : IntKind) (a b : Nat) : bits BinOp.or k (a : Int) (b : Int) = k.wrap (((a % 2 ^ k.bits) ||| (b % 2 ^ k.bits) : Nat) : Int) := by
  simp only [bits, ofInt_nat, BitVec.toNat_or, BitVec.toNat_ofNat]
theorem bits_or_u64 (a b : Nat) (ha : a < 18446744073709551616) (hb : b < 18446744073709551616) : bits BinOp.or IntKind.u64 (a : Int) (b : Int) = ((a ||| b : Nat) : Int) := by
  have h : a ||| b < 2 ^ 64 := Nat.or_lt_two_pow (by simpa using ha) (by simpa using hb)
  have e : IntKind.u64.bits = 64 := rfl
  rw [bits_nat_or, e, Nat.mod_eq_of_lt (by simpa using ha), Nat.mod_eq_of_lt (by simpa using hb)]
  exact wrap_u64_of _ (by simpa using h)
theorem bits_or_u32 (a b : Nat) (ha : a < 4294967296) (hb : b < 4294967296) : bits BinOp.or IntKind.u32 (a : Int) (b : Int) = ((a ||| b : Nat) : Int) := by
  have h : a ||| b < 2 ^ 32 := Nat.or_lt_two_pow (by simpa using ha) (by simpa using hb)
  have e : IntKind.u32.bits = 32 := rfl
  rw [bits_nat_or, e, Nat.mod_eq_of_lt (by simpa using ha), Nat.mod_eq_of_lt (by simpa using hb)]
  exact wrap_u32_of _ (by simpa using h)
theorem snoc_ind {α : Type} {P : List α → Prop} (h0 : P []) (h1 : ∀ l a, P l → P (l ++ [a])) (l : List α) : P l := by
  rw [← List.reverse_reverse l]
  induction l.reverse with
  | nil => simpa using h0
  | cons a t ih => rw [List.reverse_cons]; exact h1 _ _ ih

theorem or_add (a b i : Nat) (h : b < 2 ^ i) : a * 2 ^ i ||| b = a * 2 ^ i + b := by
  rw [← Nat.shiftLeft_eq]
  exact (Nat.shiftLeft_add_eq_or_of_lt h a).symm

/-- Bytes' number, the highest first. -/
def num (l : List Int) : Int := l.foldl (fun x c => x * 256 + c) 0

theorem num_nil : num [] = 0 := rfl
theorem num_snoc (l : List Int) (c : Int) : num (l ++ [c]) = num l * 256 + c := by simp [num]
def Byt (l : List Int) : Prop := ∀ z ∈ l, 0 ≤ z ∧ z ≤ 255

theorem num_bound (l : List Int) : Byt l → 0 ≤ num l ∧ num l < 256 ^ l.length := by
  induction l using snoc_ind with
  | h0 => intro _; simp [num]
  | h1 l c ih =>
    intro h
    have := ih (fun z hz => h z (by simp [hz]))
    have hc := h c (by simp)
    rw [num_snoc]
    simp only [List.length_append, List.length_singleton, Int.pow_succ]
    omega

theorem or_step (x c : Int) (h0 : 0 ≤ x) (h1 : x < 72057594037927936) (h2 : 0 ≤ c) (h3 : c ≤ 255) : bits BinOp.or IntKind.u64 (x * 256) c = x * 256 + c := by
  obtain ⟨a, rfl⟩ := Int.eq_ofNat_of_zero_le h0
  obtain ⟨b, rfl⟩ := Int.eq_ofNat_of_zero_le h2
  have := or_add a b 8 (by omega)
  have e : ((a : Int) * 256) = ((a * 2 ^ 8 : Nat) : Int) := by simp
  rw [e, bits_or_u64 _ _ (by omega) (by omega), this]
  simp

theorem take_next (l : List Int) (k : Nat) (h : k < l.length) : l.take (k + 1) = l.take k ++ [l[k]?.getD 0] := by
  rw [List.take_succ_eq_append_getElem h]; simp [h]
theorem byt_at (l : List Int) (h : Byt l) (k : Nat) : 0 ≤ l[k]?.getD 0 ∧ l[k]?.getD 0 ≤ 255 := by
  by_cases hk : k < l.length
  · simp only [List.getElem?_eq_getElem hk, Option.getD_some]
    exact h _ (List.getElem_mem hk)
  · simp [List.getElem?_eq_none (by omega : l.length ≤ k)]
theorem byt_take (l : List Int) (h : Byt l) (k : Nat) : Byt (l.take k) := fun z hz => h z (List.mem_of_mem_take hz)

theorem pow256_le (n : Nat) (h : n ≤ 7) : (256 : Int) ^ n ≤ 72057594037927936 := by
  match n, h with
  | 0, _ | 1, _ | 2, _ | 3, _ | 4, _ | 5, _ | 6, _ | 7, _ => decide
theorem num_take_le (l : List Int) (h : Byt l) (k : Nat) (hk : k ≤ 7) : 0 ≤ num (l.take k) ∧ num (l.take k) < 72057594037927936 := by
  have := num_bound _ (byt_take l h k)
  have h2 := pow256_le (l.take k).length (by have := List.length_take_le k l; omega)
  omega
/-- One round of Get. -/
theorem get_step (l : List Int) (h : Byt l) (k : Nat) (hk : k < l.length) (h8 : l.length ≤ 8) :
    bits BinOp.or IntKind.u64 (num (l.take k) * 256) (l[k]?.getD 0) = num (l.take (k + 1)) := by
  have h1 := num_take_le l h k (by omega)
  have h2 := byt_at l h k
  rw [take_next l k hk, num_snoc, or_step _ _ h1.1 h1.2 h2.1 h2.2]

/-- The place of the highest bit; -1 of nought. -/
def topI (x : Int) : Int := if x = 0 then -1 else (Nat.log2 x.toNat : Nat)
theorem topI_zero : topI 0 = -1 := rfl
theorem topI_half (x : Int) (h : 0 < x) : topI x = topI (x / 2) + 1 := by
  obtain ⟨n, rfl⟩ := Int.eq_ofNat_of_zero_le (Int.le_of_lt h)
  unfold topI
  have e : ((n : Int) / 2) = ((n / 2 : Nat) : Int) := by simp
  rw [e, if_neg (by omega), Int.toNat_natCast, Int.toNat_natCast, Nat.log2_def]
  by_cases h2 : 2 ≤ n
  · rw [if_pos h2, if_neg (by omega)]; simp
  · have : n = 1 := by omega
    subst this; rfl
theorem topI_ge (x : Int) : -1 ≤ topI x := by unfold topI; split <;> omega
theorem topI_lt (x : Int) (n : Nat) (h0 : 0 ≤ x) (h : x < 2 ^ n) : topI x < n := by
  unfold topI
  split
  · omega
  · obtain ⟨m, rfl⟩ := Int.eq_ofNat_of_zero_le h0
    have h' : m < 2 ^ n := by
      have : ((2 : Int) ^ n) = ((2 ^ n : Nat) : Int) := by simp
      omega
    have := (Nat.log2_lt (by omega : m ≠ 0)).2 h'
    simp only [Int.toNat_natCast]
    omega
theorem topI_ge_of (x : Int) (n : Nat) (h : 2 ^ n ≤ x) : n ≤ topI x := by
  have hp : (0 : Int) < 2 ^ n := Int.pow_pos (by decide)
  obtain ⟨m, rfl⟩ := Int.eq_ofNat_of_zero_le (by omega : 0 ≤ x)
  have h' : 2 ^ n ≤ m := by
    have : ((2 : Int) ^ n) = ((2 ^ n : Nat) : Int) := by simp
    omega
  unfold topI
  rw [if_neg (by omega)]
  have := (Nat.le_log2 (by omega : m ≠ 0)).2 h'
  simp only [Int.toNat_natCast]
  omega

/-- The bytes of x, the highest first. -/
def putI (x : Int) (n : Nat) : List Int := (List.range n).map fun i => x / 2 ^ (8 * (n - 1 - i)) % 256
/-- The first k of them, then noughts. -/
def putP (x : Int) (n k : Nat) : List Int := (List.range n).map fun i => if i < k then x / 2 ^ (8 * (n - 1 - i)) % 256 else 0
theorem putP_zero (x : Int) (n : Nat) : (putP x n 0).map (Value.int .u8) = List.replicate n (.int .u8 0) := by
  apply List.ext_getElem
  · simp [putP]
  · intro i h1 h2; simp [putP]
theorem putP_at (x : Int) (n k : Nat) (h : k < n) : ((putP x n k).map (Value.int .u8))[k]? = some (.int .u8 0) := by
  simp [putP, h]
theorem putP_set (x : Int) (n k : Nat) : ((putP x n k).map (Value.int .u8)).set k (.int .u8 (x / 2 ^ (8 * (n - 1 - k)) % 256)) = (putP x n (k + 1)).map (Value.int .u8) := by
  apply List.ext_getElem
  · simp [putP]
  · intro i h1 h2
    by_cases e : k = i
    · subst e; simp [putP]
    · simp only [putP, List.map_map, List.getElem_set, if_neg e, List.getElem_map, List.getElem_range, Function.comp_apply]
      by_cases hi : i < k
      · rw [if_pos hi, if_pos (by omega)]
      · rw [if_neg hi, if_neg (by omega)]
theorem putP_full (x : Int) (n : Nat) : putP x n n = putI x n := by
  apply List.map_congr_left
  intro i hi
  rw [if_pos (by simpa using hi)]
theorem putI_length (x : Int) (n : Nat) : (putI x n).length = n := by simp [putI]
theorem putI_byt (x : Int) (n : Nat) : Byt (putI x n) := by
  intro z hz
  obtain ⟨i, _, rfl⟩ := List.mem_map.1 hz
  omega
theorem putI_num (n : Nat) : ∀ x : Int, 0 ≤ x → x < 2 ^ (8 * n) → num (putI x n) = x := by
  induction n with
  | zero => intro x h0 h1; simp at h1; simp [putI, num]; omega
  | succ n ih =>
    intro x h0 h1
    have e : putI x (n + 1) = putI (x / 256) n ++ [x % 256] := by
      unfold putI
      rw [List.range_succ, List.map_append]
      congr 1
      · apply List.map_congr_left
        intro i hi
        have hi' : i < n := by simpa using hi
        rw [show 8 * (n + 1 - 1 - i) = 8 + 8 * (n - 1 - i) from by omega, Int.pow_add, ← Int.ediv_ediv_of_nonneg (by decide)]
        rfl
      · simp
    rw [e, num_snoc, ih _ (by omega) (by
      have : (2 : Int) ^ (8 * (n + 1)) = 2 ^ (8 * n) * 256 := by rw [show 8 * (n + 1) = 8 * n + 8 from by omega, Int.pow_add]; rfl
      omega)]
    omega
theorem num_putI (l : List Int) : Byt l → putI (num l) l.length = l := by
  induction l using snoc_ind with
  | h0 => intro _; rfl
  | h1 l c ih =>
    intro h
    have hc := h c (by simp)
    have hl := ih (fun z hz => h z (by simp [hz]))
    have hb := num_bound l (fun z hz => h z (by simp [hz]))
    rw [num_snoc]
    have e : (l ++ [c]).length = l.length + 1 := by simp
    rw [e]
    unfold putI
    rw [List.range_succ, List.map_append]
    have e1 : (num l * 256 + c) / 256 = num l := by omega
    congr 1
    · conv => rhs; rw [← hl]
      apply List.map_congr_left
      intro i hi
      have hi' : i < l.length := by simpa using hi
      rw [show 8 * (l.length + 1 - 1 - i) = 8 + 8 * (l.length - 1 - i) from by omega, Int.pow_add, ← Int.ediv_ediv_of_nonneg (by decide)]
      rw [show ((num l * 256 + c) / 2 ^ 8) = num l from by simpa using e1]
    · simp; omega

theorem pow256_le8 (n : Nat) (h : n ≤ 8) : (256 : Int) ^ n ≤ 18446744073709551616 := by
  match n, h with
  | 0, _ | 1, _ | 2, _ | 3, _ | 4, _ | 5, _ | 6, _ | 7, _ | 8, _ => decide
theorem num_append (l m : List Int) : num (l ++ m) = num l * 256 ^ m.length + num m := by
  induction m using snoc_ind with
  | h0 => simp [num]
  | h1 m c ih =>
    rw [← List.append_assoc, num_snoc, num_snoc, ih, List.length_append, List.length_singleton, Int.pow_succ, Int.add_mul, Int.mul_assoc]
    omega
theorem pow_bytes (n : Nat) : (2 : Int) ^ (8 * n) = 256 ^ n := by rw [Int.pow_mul]; rfl
theorem or_place (x y : Int) (n : Nat) (h0 : 0 ≤ x) (h1 : 0 ≤ y) (h2 : y < 2 ^ n) (h3 : x * 2 ^ n + y < 18446744073709551616) :
    bits BinOp.or IntKind.u64 (IntKind.u64.wrap (x * 2 ^ n)) y = x * 2 ^ n + y := by
  obtain ⟨a, rfl⟩ := Int.eq_ofNat_of_zero_le h0
  obtain ⟨b, rfl⟩ := Int.eq_ofNat_of_zero_le h1
  have e : ((a : Int) * 2 ^ n) = ((a * 2 ^ n : Nat) : Int) := by simp
  have e2 : ((2 : Int) ^ n) = ((2 ^ n : Nat) : Int) := by simp
  rw [e] at h3 ⊢
  rw [e2] at h2
  rw [wrap_u64_of _ (by omega), bits_or_u64 _ _ (by omega) (by omega), or_add a b n (by omega)]
  omega
theorem parts_or (l m : List Int) (hl : Byt l) (hm : Byt m) (h8 : l.length + m.length ≤ 8) :
    bits BinOp.or IntKind.u64 (IntKind.u64.wrap (num l * 2 ^ (8 * m.length))) (num m) = num (l ++ m) := by
  have b1 := num_bound l hl
  have b2 := num_bound m hm
  have b3 := num_bound (l ++ m) (fun z hz => by rcases List.mem_append.1 hz with h | h; exact hl z h; exact hm z h)
  have e := pow256_le8 (l ++ m).length (by simpa using h8)
  rw [num_append] at b3 ⊢
  rw [or_place _ _ _ b1.1 b2.1 (by rw [pow_bytes]; exact b2.2) (by rw [pow_bytes]; omega), pow_bytes]
end Go.Proofs.Ytbnclmlbennhaaa
