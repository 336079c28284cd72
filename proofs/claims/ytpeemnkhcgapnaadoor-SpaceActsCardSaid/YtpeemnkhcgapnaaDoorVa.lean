/-
  Plain facts of layer 11: sets of sectors as words of 64 bits; the lowest one, how many there are.
-/
import Derived.Test.YtpeemnkhcgapnaaDoorLow
import Derived.Laws.Bits64b
import Derived.Laws.BitsAllLaws
import Derived.Lib.TrailingZeros
namespace Go.Proofs.YtpeemnkhcgapnaaDoor
set_option maxRecDepth 4000
set_option linter.unusedVariables false
open Go.RowKit

/-- A word of 64 bits as the number that the model holds: a name of its own, that the walk doesn't open. -/
def xv (b : BitVec 64) : Int := b.toNat
theorem xv_pos (b : BitVec 64) : 0 ≤ xv b := by unfold xv; omega
theorem xv_lt (b : BitVec 64) : xv b < 18446744073709551616 := by unfold xv; have := b.isLt; omega
theorem xv_zero : xv 0#64 = 0 := rfl
theorem xv_eq (a b : BitVec 64) : xv a = xv b ↔ a = b := by
  unfold xv; constructor
  · intro h; exact BitVec.eq_of_toNat_eq (by omega)
  · intro h; rw [h]
theorem xv_ne (a : BitVec 64) : (xv a != 0) = !decide (a = 0#64) := by
  by_cases h : a = 0#64
  · subst h; rfl
  · have : xv a ≠ 0 := fun e => h ((xv_eq _ _).1 (e.trans xv_zero.symm))
    rw [decide_eq_false h, bne_iff_ne.2 this]; rfl
theorem xv_or (a b : BitVec 64) : bits .or .u64 (xv a) (xv b) = xv (a ||| b) := by
  unfold xv
  rw [bits_or_u64_nat _ _ a.isLt b.isLt, BitVec.toNat_or]
theorem xv_and (a b : BitVec 64) : bits .and .u64 (xv a) (xv b) = xv (a &&& b) := by
  unfold xv
  rw [bits_and_u64_nat _ _ a.isLt b.isLt, BitVec.toNat_and]
theorem xv_andNot (a b : BitVec 64) : bits .andNot .u64 (xv a) (xv b) = xv (a &&& ~~~b) := by
  unfold xv
  rw [u64_andNot_nat _ _ a.isLt b.isLt, BitVec.toNat_and, BitVec.toNat_not]
theorem bits_nat_and127 (n : Nat) (h : n < 18446744073709551616) : bits .and .i64 (IntKind.i64.wrap (n : Int)) 127 = ((n % 128 : Nat) : Int) := by
  have h1 : BitVec.ofInt 64 (IntKind.i64.wrap (n : Int)) = BitVec.ofNat 64 n := by
    apply BitVec.eq_of_toNat_eq
    rw [BitVec.toNat_ofInt, BitVec.toNat_ofNat, IntKind.wrap_i64]
    omega
  have h2 : BitVec.ofInt 64 127 = BitVec.ofNat 64 127 := rfl
  show IntKind.i64.wrap ((BitVec.ofInt 64 (IntKind.i64.wrap (n : Int)) &&& BitVec.ofInt 64 127).toNat : Int) = _
  rw [h1, h2, BitVec.toNat_and, BitVec.toNat_ofNat, BitVec.toNat_ofNat, Nat.mod_eq_of_lt h, show 127 % 2 ^ 64 = 2 ^ 7 - 1 from rfl, Nat.and_two_pow_sub_one_eq_mod]
  rw [IntWalk.i64_in _ (by omega)]
/-- The word whose k-th bit alone is one. -/
def oneB (k : Nat) : BitVec 64 := BitVec.twoPow 64 k
theorem oneB_bit (k j : Nat) : (oneB k).getLsbD j = (decide (j < 64) && decide (k = j)) := by
  unfold oneB
  rw [BitVec.getLsbD_twoPow]
  by_cases h : k = j <;> by_cases h2 : j < 64 <;> simp_all
theorem xv_one (k : Nat) (h : k < 64) : xv (oneB k) = 2 ^ k := by
  unfold xv oneB
  rw [BitVec.toNat_twoPow, Nat.mod_eq_of_lt (Nat.pow_lt_pow_right (by decide) h)]
  simp

/-! ### sets as words -/
def wordN (F : Nat → Bool) (i : Nat) : Nat → Nat
  | 0 => 0
  | k + 1 => wordN F i k ||| (if F (64 * i + k) then 2 ^ k else 0)
theorem wordN_bit (F : Nat → Bool) (i j : Nat) : ∀ k, (wordN F i k).testBit j = (decide (j < k) && F (64 * i + j))
  | 0 => by simp [wordN]
  | k + 1 => by
    rw [wordN, Nat.testBit_or, wordN_bit F i j k]
    by_cases h : F (64 * i + k) = true
    · rw [if_pos h, Nat.testBit_two_pow]
      by_cases e : k = j
      · subst e; simp [h]
      · have : decide (j < k + 1) = decide (j < k) := by congr 1; apply propext; omega
        rw [this]; simp [e]
    · rw [if_neg h, Nat.zero_testBit]
      by_cases e : k = j
      · subst e; simp at h; simp [h]
      · have : decide (j < k + 1) = decide (j < k) := by congr 1; apply propext; omega
        rw [this]; simp
/-- The i-th word of a set. -/
def wordB (F : Nat → Bool) (i : Nat) : BitVec 64 := BitVec.ofNat 64 (wordN F i 64)
theorem wordB_bit (F : Nat → Bool) (i j : Nat) : (wordB F i).getLsbD j = (decide (j < 64) && F (64 * i + j)) := by
  unfold wordB
  rw [BitVec.getLsbD_ofNat, wordN_bit]
  cases h : decide (j < 64) <;> simp
def updF (F : Nat → Bool) (a : Nat) (b : Bool) : Nat → Bool := fun x => if x = a then b else F x
theorem updF_same (F : Nat → Bool) (a : Nat) (b : Bool) : updF F a b a = b := by simp [updF]
theorem updF_other (F : Nat → Bool) (a x : Nat) (b : Bool) (h : x ≠ a) : updF F a b x = F x := by simp [updF, h]
theorem updF_self (F : Nat → Bool) (a : Nat) (b : Bool) (h : F a = b) : updF F a b = F := by
  funext x; unfold updF; split
  · rename_i e; rw [e, h]
  · rfl
theorem updF_twice (F : Nat → Bool) (a : Nat) (b c : Bool) : updF (updF F a b) a c = updF F a c := by
  funext x; unfold updF; split <;> rfl
theorem wordB_add (F : Nat → Bool) (a : Nat) : wordB F (a / 64) ||| oneB (a % 64) = wordB (updF F a true) (a / 64) := by
  apply BitVec.eq_of_getLsbD_eq
  intro j hj
  rw [BitVec.getLsbD_or, wordB_bit, wordB_bit, oneB_bit]
  unfold updF
  by_cases e : a % 64 = j
  · have : 64 * (a / 64) + j = a := by omega
    simp [this, e, hj]
  · have : 64 * (a / 64) + j ≠ a := by omega
    simp [this, e, hj]
theorem wordB_drop (F : Nat → Bool) (a : Nat) : wordB F (a / 64) &&& ~~~(oneB (a % 64)) = wordB (updF F a false) (a / 64) := by
  apply BitVec.eq_of_getLsbD_eq
  intro j hj
  rw [BitVec.getLsbD_and, BitVec.getLsbD_not, wordB_bit, wordB_bit, oneB_bit]
  unfold updF
  by_cases e : a % 64 = j
  · have : 64 * (a / 64) + j = a := by omega
    simp [this, e, hj]
  · have : 64 * (a / 64) + j ≠ a := by omega
    simp [this, e, hj]
theorem wordB_other (F : Nat → Bool) (a i : Nat) (b : Bool) (h : i ≠ a / 64) : wordB (updF F a b) i = wordB F i := by
  apply BitVec.eq_of_getLsbD_eq
  intro j hj
  rw [wordB_bit, wordB_bit]
  have : 64 * i + j ≠ a := by omega
  rw [updF_other _ _ _ _ this]
theorem wordB_has (F : Nat → Bool) (a : Nat) : decide (wordB F (a / 64) &&& oneB (a % 64) = 0#64) = !F a := by
  have hb : ∀ j, j < 64 → (wordB F (a / 64) &&& oneB (a % 64)).getLsbD j = (F (64 * (a / 64) + j) && decide (a % 64 = j)) := fun j hj => by
    rw [BitVec.getLsbD_and, wordB_bit, oneB_bit]; simp [hj]
  have ha : 64 * (a / 64) + a % 64 = a := by omega
  by_cases h : F a = true
  · have : ¬ (wordB F (a / 64) &&& oneB (a % 64) = 0#64) := fun e => by
      have := hb (a % 64) (by omega)
      rw [e, ha, h] at this
      simp at this
    rw [decide_eq_false this, h]; rfl
  · have : wordB F (a / 64) &&& oneB (a % 64) = 0#64 := by
      apply BitVec.eq_of_getLsbD_eq
      intro j hj
      rw [hb j hj]
      by_cases e : a % 64 = j
      · rw [← e, ha]; simp at h; simp [h]
      · simp [e]
    simp at h
    rw [decide_eq_true this, h]; rfl
theorem wordB_nought (F : Nat → Bool) (i : Nat) : wordB F i = 0#64 ↔ ∀ j, j < 64 → F (64 * i + j) = false := by
  constructor
  · intro h j hj
    have := wordB_bit F i j
    rw [h] at this
    simpa [hj] using this.symm
  · intro h
    apply BitVec.eq_of_getLsbD_eq
    intro j hj
    rw [wordB_bit, h j hj]; simp
def wordsF (F : Nat → Bool) : List Value := (List.range 64).map fun i => .int .u64 (xv (wordB F i))
theorem wordsF_length (F : Nat → Bool) : (wordsF F).length = 64 := by simp [wordsF]
theorem wordsF_at (F : Nat → Bool) (i : Nat) (h : i < 64) : (wordsF F)[i]? = some (.int .u64 (xv (wordB F i))) := by simp [wordsF, h]
theorem wordsF_set (F : Nat → Bool) (a : Nat) (b : Bool) (ha : a < 4096) : (wordsF F).set (a / 64) (.int .u64 (xv (wordB (updF F a b) (a / 64)))) = wordsF (updF F a b) := by
  apply List.ext_getElem?
  intro i
  rw [List.getElem?_set, wordsF_length]
  by_cases e : a / 64 = i
  · subst e
    rw [if_pos rfl, if_pos (by omega), wordsF_at _ _ (by omega)]
  · rw [if_neg e]
    by_cases hi : i < 64
    · rw [wordsF_at _ _ hi, wordsF_at _ _ hi, wordB_other _ _ _ _ (Ne.symm e)]
    · rw [List.getElem?_eq_none (by rw [wordsF_length]; omega), List.getElem?_eq_none (by rw [wordsF_length]; omega)]
theorem wordsF_one (F : Nat → Bool) : ∀ v ∈ wordsF F, v.oneCell' = true := by
  intro v hv
  simp only [wordsF, List.mem_map] at hv
  obtain ⟨i, _, rfl⟩ := hv
  rfl
theorem wordB_none (i : Nat) : wordB (fun _ => false) i = 0#64 := (wordB_nought _ _).2 fun _ _ => rfl
theorem wordsF_none : wordsF (fun _ => false) = List.replicate 64 (.int .u64 0) := by
  apply List.ext_getElem?
  intro i
  by_cases hi : i < 64
  · rw [wordsF_at _ _ hi, wordB_none, List.getElem?_replicate, if_pos hi]; rfl
  · rw [List.getElem?_eq_none (by rw [wordsF_length]; omega), List.getElem?_eq_none (by simp; omega)]

/-! ### the lowest one -/
theorem low_bit (x : BitVec 64) (h : x ≠ 0#64) : ∃ k, k < 64 ∧ Lib.ctz 64 x.toNat = k ∧ x.getLsbD k = true ∧ ∀ j, j < k → x.getLsbD j = false := by
  have h0 : x.toNat ≠ 0 := fun e => h (BitVec.eq_of_toNat_eq (by simpa using e))
  obtain ⟨m, hm, hk⟩ := Lib.ctzFrom_spec 64 x.toNat (by omega) x.isLt
  have e : Lib.ctz 64 x.toNat = Lib.ctzFrom 64 x.toNat := by simp [Lib.ctz, h0]
  generalize Lib.ctzFrom 64 x.toNat = k at *
  refine ⟨k, hk, e, ?_, fun j hj => ?_⟩
  · rw [← BitVec.testBit_toNat, hm, Nat.mul_comm, Nat.testBit_mul_two_pow]
    simp
  · rw [← BitVec.testBit_toNat, hm, Nat.mul_comm, Nat.testBit_mul_two_pow]
    simp; omega
theorem low_word (F : Nat → Bool) (i : Nat) (h : wordB F i ≠ 0#64) : ∃ k, k < 64 ∧ Lib.ctz 64 (wordB F i).toNat = k ∧ F (64 * i + k) = true ∧ ∀ j, j < k → F (64 * i + j) = false := by
  obtain ⟨k, hk, e, h1, h2⟩ := low_bit _ h
  rw [wordB_bit] at h1
  refine ⟨k, hk, e, by simpa [hk] using h1, fun j hj => ?_⟩
  have := h2 j hj
  rw [wordB_bit] at this
  simpa [show j < 64 by omega] using this

/-! ### how many there are -/
def cnt (F : Nat → Bool) : Nat → Nat
  | 0 => 0
  | k + 1 => cnt F k + (if F k then 1 else 0)
theorem cnt_le (F : Nat → Bool) : ∀ k, cnt F k ≤ k
  | 0 => Nat.le_refl _
  | k + 1 => by have := cnt_le F k; rw [cnt]; split <;> omega
theorem cnt_add (F : Nat → Bool) (a : Nat) : ∀ b, cnt F (a + b) = cnt F a + cnt (fun j => F (a + j)) b
  | 0 => rfl
  | b + 1 => by rw [← Nat.add_assoc, cnt, cnt, cnt_add F a b]; omega
theorem cnt_congr {F G : Nat → Bool} : ∀ (k : Nat), (∀ j, j < k → F j = G j) → cnt F k = cnt G k
  | 0, _ => rfl
  | k + 1, h => by rw [cnt, cnt, cnt_congr k (fun j hj => h j (by omega)), h k (by omega)]
theorem cnt_upd (F : Nat → Bool) (a : Nat) (b : Bool) : ∀ k, cnt (updF F a b) k + (if a < k ∧ F a = true then 1 else 0) = cnt F k + (if a < k ∧ b = true then 1 else 0)
  | 0 => by simp [cnt]
  | k + 1 => by
    have ih := cnt_upd F a b k
    rw [cnt, cnt]
    by_cases e : k = a
    · subst e
      rw [updF_same]
      simp at ih
      simp [ih]
      omega
    · rw [updF_other _ _ _ _ e]
      have : (a < k + 1) = (a < k) := by apply propext; omega
      simp only [this]; omega
theorem cnt_none (F : Nat → Bool) : ∀ k, (∀ j, j < k → F j = false) → cnt F k = 0
  | 0, _ => rfl
  | k + 1, h => by rw [cnt, cnt_none F k (fun j hj => h j (by omega)), h k (by omega)]; rfl
theorem cnt_zero {F : Nat → Bool} : ∀ {k : Nat}, cnt F k = 0 → ∀ j, j < k → F j = false
  | 0, _, j, hj => by omega
  | k + 1, h, j, hj => by
    rw [cnt] at h
    by_cases e : j = k
    · subst e
      cases hF : F j with
      | false => rfl
      | true => rw [hF] at h; simp at h
    · have h' : cnt F k = 0 := by omega
      exact cnt_zero h' j (by omega)

/-! ### OnesCount64's arithmetic -/
def num8 : List Nat → Nat
  | [] => 0
  | b :: r => b + 256 * num8 r
def mskN (m : Nat) : Nat → Nat
  | 0 => 0
  | k + 1 => m + 256 * mskN m k
theorem and_split (a c m M : Nat) (ha : a < 256) (hm : m < 256) : (a + 256 * c) &&& (m + 256 * M) = (a &&& m) + 256 * (c &&& M) := by
  have h1 : ((a + 256 * c) &&& (m + 256 * M)) % 2 ^ 8 = a &&& m := by
    rw [Nat.and_mod_two_pow, show (a + 256 * c) % 2 ^ 8 = a by omega, show (m + 256 * M) % 2 ^ 8 = m by omega]
  have h2 : ((a + 256 * c) &&& (m + 256 * M)) / 2 ^ 8 = c &&& M := by
    rw [Nat.and_div_two_pow, show (a + 256 * c) / 2 ^ 8 = c by omega, show (m + 256 * M) / 2 ^ 8 = M by omega]
  omega
def y1 (b : Nat) : Nat := ((b / 2) &&& 85) + (b &&& 85)
def y2 (b : Nat) : Nat := ((y1 b / 4) &&& 51) + (y1 b &&& 51)
def y3 (b : Nat) : Nat := (y2 b / 16 + y2 b) &&& 15
theorem byte1 : ∀ b, b < 256 → ∀ t, t < 2 → ((b / 2 + 128 * t) &&& 85) + (b &&& 85) = y1 b ∧ y1 b < 256 ∧ ((b / 2 + 128 * t) &&& 85) = (b / 2) &&& 85 := by decide +kernel
theorem byte2 : ∀ b, b < 256 → ∀ t, t < 4 → ((y1 b / 4 + 64 * t) &&& 51) = (y1 b / 4) &&& 51 ∧ y2 b < 256 ∧ y2 b % 16 ≤ 4 ∧ y2 b / 16 ≤ 4 := by decide +kernel
theorem byte3 : ∀ b, b < 256 → ∀ t, t < 5 → y2 b / 16 + 16 * t + y2 b < 256 ∧ (y2 b / 16 + 16 * t + y2 b) &&& 15 = y3 b ∧ y3 b ≤ 8 := by decide +kernel
theorem half_lt : ∀ b, b < 256 → ∀ t, t < 2 → b / 2 + 128 * t < 256 := by omega
def Small8 (l : List Nat) : Prop := ∀ b ∈ l, b < 256
theorem st1 : ∀ l : List Nat, Small8 l → ((num8 l / 2) &&& mskN 85 l.length) + (num8 l &&& mskN 85 l.length) = num8 (l.map y1)
  | [], _ => by simp [num8]
  | b :: r, h => by
    have hb := h b (by simp)
    have ih := st1 r (fun x hx => h x (by simp [hx]))
    obtain ⟨q1, q2, q3⟩ := byte1 b hb (num8 r % 2) (by omega)
    have e1 : (num8 (b :: r) / 2) &&& mskN 85 (b :: r).length = ((b / 2) &&& 85) + 256 * ((num8 r / 2) &&& mskN 85 r.length) := by
      rw [num8, List.length_cons, mskN, show (b + 256 * num8 r) / 2 = (b / 2 + 128 * (num8 r % 2)) + 256 * (num8 r / 2) by omega, and_split _ _ _ _ (by omega) (by decide), q3]
    have e2 : num8 (b :: r) &&& mskN 85 (b :: r).length = (b &&& 85) + 256 * (num8 r &&& mskN 85 r.length) := by
      rw [num8, List.length_cons, mskN, and_split _ _ _ _ hb (by decide)]
    rw [e1, e2, List.map_cons, num8, ← ih]
    unfold y1
    omega
theorem st2 : ∀ l : List Nat, Small8 l → ((num8 (l.map y1) / 4) &&& mskN 51 l.length) + (num8 (l.map y1) &&& mskN 51 l.length) = num8 (l.map y2)
  | [], _ => by simp [num8]
  | b :: r, h => by
    have hb := h b (by simp)
    have ih := st2 r (fun x hx => h x (by simp [hx]))
    have hy := (byte1 b hb 0 (by decide)).2.1
    rw [List.map_cons, num8, List.length_cons, mskN, List.map_cons, num8, ← ih]
    generalize num8 (r.map y1) = c
    obtain ⟨q3, q4, _⟩ := byte2 b hb (c % 4) (by omega)
    rw [show (y1 b + 256 * c) / 4 = (y1 b / 4 + 64 * (c % 4)) + 256 * (c / 4) by omega, and_split _ _ _ _ (by omega) (by decide), and_split _ _ _ _ hy (by decide), q3]
    show _ = ((y1 b / 4) &&& 51) + (y1 b &&& 51) + _
    omega
theorem st3 : ∀ l : List Nat, Small8 l → ((num8 (l.map y2) / 16 + num8 (l.map y2)) &&& mskN 15 l.length) = num8 (l.map y3) ∧ num8 (l.map y2) % 16 ≤ 4
  | [], _ => by simp [num8]
  | b :: r, h => by
    have hb := h b (by simp)
    obtain ⟨ih, i2⟩ := st3 r (fun x hx => h x (by simp [hx]))
    rw [List.map_cons, num8, List.length_cons, mskN, List.map_cons, num8, ← ih]
    generalize num8 (r.map y2) = c at *
    obtain ⟨_, q4, q5, _⟩ := byte2 b hb 0 (by decide)
    obtain ⟨r1, r2, _⟩ := byte3 b hb (c % 16) (by omega)
    refine ⟨?_, by omega⟩
    rw [show (y2 b + 256 * c) / 16 + (y2 b + 256 * c) = (y2 b / 16 + 16 * (c % 16) + y2 b) + 256 * (c / 16 + c) by omega, and_split _ _ _ _ r1 (by decide), r2]
theorem div_low {x low q m : Nat} (h : x = low + m * q) (hl : low < m) : x / m = q := by
  rw [h, Nat.add_mul_div_left _ _ (by omega), Nat.div_eq_of_lt hl, Nat.zero_add]
theorem low_lt {p q m : Nat} (h : p ≤ 8) (hq : q ≤ m) : p + 256 * q ≤ 8 + 256 * m := by omega
theorem num8_le (m : Nat) : ∀ l : List Nat, (∀ b ∈ l, b ≤ m) → 255 * num8 l + m ≤ m * 256 ^ l.length
  | [], _ => by simp [num8]
  | b :: r, h => by
    have hb := h b (by simp)
    have ih := num8_le m r (fun x hx => h x (by simp [hx]))
    rw [num8, List.length_cons, Nat.pow_succ, ← Nat.mul_assoc]
    generalize m * 256 ^ r.length = z at *
    omega
theorem st4_a (p0 p1 p2 p3 v1 v2 v3 v4 v5 v6 p4 p5 p6 p7 : Nat) (e1 : p1 + 256 * v2 = v1) (e2 : p2 + 256 * v3 = v2) (e3 : p3 + 256 * v4 = v3) (e4 : p4 + 256 * v5 = v4) (e5 : p5 + 256 * v6 = v5) (e6 : p6 + 256 * p7 = v6) :
    (p0 + 256 * v1 + v1) = ((p0 + p1) + 256 * (p1 + p2)) + 65536 * (v2 + v3) ∧ (p0 + 256 * v1 + v1 + (v2 + v3)) = ((p0 + p1 + p2 + p3) + 256 * (p1 + p2 + p3 + p4) + 65536 * (p2 + p3 + p4 + p5) + 16777216 * (p3 + p4 + p5 + p6)) + 4294967296 * (v4 + v5 + (v6 + p7)) ∧
    p0 + 256 * v1 + v1 + (v2 + v3) + (v4 + v5 + (v6 + p7)) = (p0 + p1 + p2 + p3 + p4 + p5 + p6 + p7) + 256 * (v1 + v2 + v3 + v4 + v5 + v6 + p7) := by
  subst e6 e5 e4 e3 e2 e1
  refine ⟨by omega, by omega, by omega⟩
theorem st4_b {p0 p1 p2 : Nat} (h0 : p0 ≤ 8) (h1 : p1 ≤ 8) (h2 : p2 ≤ 8) : (p0 + p1) + 256 * (p1 + p2) < 65536 := by omega
theorem st4_c {a b c d : Nat} (h0 : a ≤ 32) (h1 : b ≤ 32) (h2 : c ≤ 32) (h3 : d ≤ 32) : a + 256 * b + 65536 * c + 16777216 * d < 4294967296 := by omega
theorem st4_d {a b c d : Nat} (h0 : a ≤ 8) (h1 : b ≤ 8) (h2 : c ≤ 8) (h3 : d ≤ 8) : a + b + c + d ≤ 32 := by omega
theorem st4_e {S R : Nat} (h : S ≤ 64) : (S + 256 * R) % 128 = S := by omega
theorem st4_f {v a b c : Nat} (hv : v ≤ 578721382704613384) (ha : a = v + v / 256) (hb : b = a + a / 65536) (hc : c = b + b / 4294967296) : v < 18446744073709551616 ∧ a < 18446744073709551616 ∧ b < 18446744073709551616 ∧ c < 18446744073709551616 := by omega
/-- The sum of the eight of them lies in the lowest byte. -/
theorem st4 (p0 p1 p2 p3 p4 p5 p6 p7 v a b c : Nat) (h0 : p0 ≤ 8) (h1 : p1 ≤ 8) (h2 : p2 ≤ 8) (h3 : p3 ≤ 8) (h4 : p4 ≤ 8) (h5 : p5 ≤ 8) (h6 : p6 ≤ 8) (h7 : p7 ≤ 8)
    (hv : v = num8 [p0, p1, p2, p3, p4, p5, p6, p7]) (ha : a = v + v / 256) (hb : b = a + a / 65536) (hc : c = b + b / 4294967296) :
    c % 128 = p0 + p1 + p2 + p3 + p4 + p5 + p6 + p7 := by
  simp only [num8, Nat.mul_zero, Nat.add_zero] at hv
  obtain ⟨v6, e6⟩ : ∃ v6, p6 + 256 * p7 = v6 := ⟨_, rfl⟩
  obtain ⟨v5, e5⟩ : ∃ v5, p5 + 256 * v6 = v5 := ⟨_, rfl⟩
  obtain ⟨v4, e4⟩ : ∃ v4, p4 + 256 * v5 = v4 := ⟨_, rfl⟩
  obtain ⟨v3, e3⟩ : ∃ v3, p3 + 256 * v4 = v3 := ⟨_, rfl⟩
  obtain ⟨v2, e2⟩ : ∃ v2, p2 + 256 * v3 = v2 := ⟨_, rfl⟩
  obtain ⟨v1, e1⟩ : ∃ v1, p1 + 256 * v2 = v1 := ⟨_, rfl⟩
  rw [e6, e5, e4, e3, e2, e1] at hv
  obtain ⟨q1, q2, q3⟩ := st4_a p0 p1 p2 p3 v1 v2 v3 v4 v5 v6 p4 p5 p6 p7 e1 e2 e3 e4 e5 e6
  have f1 : v / 256 = v1 := div_low hv (Nat.lt_of_le_of_lt h0 (by decide))
  rw [f1, hv] at ha
  have f2 : a / 65536 = v2 + v3 := div_low (ha.trans q1) (st4_b h0 h1 h2)
  rw [f2, ha] at hb
  have f3 : b / 4294967296 = v4 + v5 + (v6 + p7) := div_low (hb.trans q2) (st4_c (st4_d h0 h1 h2 h3) (st4_d h1 h2 h3 h4) (st4_d h2 h3 h4 h5) (st4_d h3 h4 h5 h6))
  rw [f3, hb, q3] at hc
  rw [hc]
  exact st4_e (by clear f1 f2 f3 q1 q2 q3 ha hb hc hv e1 e2 e3 e4 e5 e6; omega)
theorem byte_cnt : ∀ b, b < 256 → y3 b = cnt (fun j => b.testBit j) 8 := by decide +kernel
/-- The bytes of a number, the lowest first. -/
def byt8 (x : Nat) : List Nat := [x % 256, x / 256 % 256, x / 65536 % 256, x / 16777216 % 256, x / 4294967296 % 256, x / 1099511627776 % 256, x / 281474976710656 % 256, x / 72057594037927936 % 256]
theorem byt8_num (x : Nat) (h : x < 18446744073709551616) : num8 (byt8 x) = x := by
  simp only [byt8, num8]; omega
theorem cnt_byte (x k : Nat) : cnt (fun j => x.testBit (8 * k + j)) 8 = y3 (x / 2 ^ (8 * k) % 256) := by
  rw [byte_cnt _ (Nat.mod_lt _ (by decide))]
  apply cnt_congr
  intro j hj
  rw [show (256 : Nat) = 2 ^ 8 from rfl, Nat.testBit_mod_two_pow, Nat.testBit_div_two_pow, Nat.add_comm]
  simp [hj]
theorem cnt_64 (x : Nat) : cnt (fun j => x.testBit j) 64 = y3 (x % 256) + y3 (x / 256 % 256) + y3 (x / 65536 % 256) + y3 (x / 16777216 % 256) + y3 (x / 4294967296 % 256) + y3 (x / 1099511627776 % 256) + y3 (x / 281474976710656 % 256) + y3 (x / 72057594037927936 % 256) := by
  have e : ∀ k, cnt (fun j => x.testBit j) (8 * (k + 1)) = cnt (fun j => x.testBit j) (8 * k) + y3 (x / 2 ^ (8 * k) % 256) := fun k => by
    rw [show 8 * (k + 1) = 8 * k + 8 by omega, cnt_add, cnt_byte]
  have e0 := e 0; have e1 := e 1; have e2 := e 2; have e3 := e 3; have e4 := e 4; have e5 := e 5; have e6 := e 6; have e7 := e 7
  simp only [Nat.reduceAdd, Nat.reduceMul, Nat.reducePow, Nat.div_one] at e0 e1 e2 e3 e4 e5 e6 e7
  rw [e7, e6, e5, e4, e3, e2, e1, e0]
  simp [cnt]
/-- OnesCount64's steps, over the naturals. -/
theorem ones_steps (x s1 s2 s3 s4 s5 s6 : Nat) (hx : x < 18446744073709551616)
    (h1 : s1 = (x / 2 &&& 6148914691236517205) + (x &&& 6148914691236517205)) (h2 : s2 = (s1 / 4 &&& 3689348814741910323) + (s1 &&& 3689348814741910323)) (h3 : s3 = (s2 / 16 + s2) &&& 1085102592571150095)
    (h4 : s4 = s3 + s3 / 256) (h5 : s5 = s4 + s4 / 65536) (h6 : s6 = s5 + s5 / 4294967296) :
    s1 < 18446744073709551616 ∧ s2 < 18446744073709551616 ∧ s2 / 16 + s2 < 18446744073709551616 ∧ s3 < 18446744073709551616 ∧ s4 < 18446744073709551616 ∧ s5 < 18446744073709551616 ∧ s6 < 18446744073709551616 ∧ s6 % 128 = cnt (fun j => x.testBit j) 64 := by
  have hs : Small8 (byt8 x) := by
    intro b hb
    simp only [byt8, List.mem_cons, List.not_mem_nil, or_false] at hb
    omega
  have t1 := st1 _ hs
  have t2 := st2 _ hs
  have t3 := (st3 _ hs).1
  rw [byt8_num x hx] at t1
  rw [show (byt8 x).length = 8 from rfl, show mskN 85 8 = 6148914691236517205 from rfl] at t1
  rw [show (byt8 x).length = 8 from rfl, show mskN 51 8 = 3689348814741910323 from rfl] at t2
  rw [show (byt8 x).length = 8 from rfl, show mskN 15 8 = 1085102592571150095 from rfl] at t3
  rw [t1] at h1
  rw [← h1] at t2
  rw [t2] at h2
  rw [← h2] at t3
  rw [t3] at h3
  have hy : ∀ k, k < 256 → y3 k ≤ 8 := fun k hk => (byte3 k hk 0 (by decide)).2.2
  have hb1 : ∀ k, k < 256 → y1 k ≤ 255 := fun k hk => by have := (byte1 k hk 0 (by decide)).2.1; omega
  have hb2 : ∀ k, k < 256 → y2 k ≤ 68 := fun k hk => by obtain ⟨_, _, h1, h2⟩ := byte2 k hk 0 (by decide); omega
  have m : ∀ z, z % 256 < 256 := fun z => Nat.mod_lt _ (by decide)
  have hall : ∀ (f : Nat → Nat) (u : Nat), (∀ k, k < 256 → f k ≤ u) → 255 * num8 ((byt8 x).map f) + u ≤ u * 256 ^ 8 := fun f u hf => by
    have := num8_le u ((byt8 x).map f) (fun b hb => by
      obtain ⟨z, hz, rfl⟩ := List.mem_map.1 hb
      exact hf z (hs z hz))
    rwa [show ((byt8 x).map f).length = 8 from rfl] at this
  have n1 := hall y1 255 hb1
  have n2 := hall y2 68 hb2
  have n3 := hall y3 8 hy
  rw [← h1] at n1
  rw [← h2] at n2
  rw [← h3] at n3
  have hc := cnt_64 x
  have q5 := st4 _ _ _ _ _ _ _ _ s3 s4 s5 s6 (hy _ (m x)) (hy _ (m (x / 256))) (hy _ (m (x / 65536))) (hy _ (m (x / 16777216))) (hy _ (m (x / 4294967296))) (hy _ (m (x / 1099511627776))) (hy _ (m (x / 281474976710656))) (hy _ (m (x / 72057594037927936))) h3 h4 h5 h6
  have q := st4_f (v := s3) (by clear n1 n2 q5 hc h4 h5 h6 h3 h2 h1 hx; omega) h4 h5 h6
  rw [← hc] at q5
  exact ⟨by clear n2 n3 q q5 hc h4 h5 h6 h3 h2 h1 hx; omega, by clear n1 n3 q q5 hc h4 h5 h6 h3 h2 h1 hx; omega, by clear n1 n3 q q5 hc h4 h5 h6 h3 h2 h1 hx; omega, q.1, q.2.1, q.2.2.1, q.2.2.2, q5⟩
theorem cnt_bits (x : BitVec 64) : cnt (fun j => x.toNat.testBit j) 64 = cnt (fun j => x.getLsbD j) 64 := cnt_congr 64 fun j _ => by rw [BitVec.testBit_toNat]
theorem cnt_word (F : Nat → Bool) (i : Nat) : cnt F (64 * (i + 1)) = cnt F (64 * i) + cnt (fun j => (wordB F i).getLsbD j) 64 := by
  rw [show 64 * (i + 1) = 64 * i + 64 by omega, cnt_add]
  congr 1
  apply cnt_congr
  intro j hj
  rw [wordB_bit]; simp [hj]
end Go.Proofs.YtpeemnkhcgapnaaDoor
