/-
  The root that is found bit by bit is the root, rounded down; what is behind its whole part.
-/
import Derived.Test.YtpmeiadnikenmaaDoorFrac
namespace Go.Proofs.YtpmeiadnikenmaaDoor
open Go.RowKit

theorem rootUpto_spec (g k : Nat) : ∀ n f, f ^ k ≤ g → g < (f + 2 ^ n) ^ k → (rootUpto g k n f) ^ k ≤ g ∧ g < (rootUpto g k n f + 1) ^ k := by
  intro n
  induction n with
  | zero => intro f h1 h2; exact ⟨h1, by simpa [rootUpto] using h2⟩
  | succ n ih =>
    intro f h1 h2
    simp only [rootUpto]
    split
    · next h => exact ih _ h (by rwa [show f + 2 ^ n + 2 ^ n = f + 2 ^ (n + 1) from by rw [Nat.pow_succ]; omega])
    · next h => exact ih _ h1 (by omega)

theorem root_le (r s g k : Nat) (h1 : r ^ k ≤ g) (h2 : g < (s + 1) ^ k) : r ≤ s := by
  rcases Nat.lt_or_ge s r with h | h
  · have := Nat.pow_le_pow_left (show s + 1 ≤ r from h) k
    omega
  · exact h

theorem root_of (p k : Nat) (hk : k = 2 ∨ k = 3) (h2 : p ≤ 65535) :
    (rootUpto (p * 4294967296 ^ k) k 40 0) ^ k ≤ p * 4294967296 ^ k ∧ p * 4294967296 ^ k < (rootUpto (p * 4294967296 ^ k) k 40 0 + 1) ^ k := by
  refine rootUpto_spec _ k 40 0 ?_ ?_
  · rcases hk with rfl | rfl <;> simp
  · rcases hk with rfl | rfl
    · rw [show (0 + 2 ^ 40) ^ 2 = 65536 * 4294967296 ^ 2 from by decide]
      exact Nat.mul_lt_mul_of_pos_right (by omega) (by decide)
    · rw [show (0 + 2 ^ 40) ^ 3 = 16777216 * 4294967296 ^ 3 from by decide]
      exact Nat.mul_lt_mul_of_pos_right (by omega) (by decide)

/-- What is behind the whole part s of p's root, if that is s. -/
theorem frac_of (p k s : Nat) (hk : k = 2 ∨ k = 3) (h2 : p ≤ 65535) (hs : s ^ k ≤ p) (ht : p < (s + 1) ^ k) :
    rootUpto (p * 4294967296 ^ k) k 40 0 = s * 4294967296 + fracI p k := by
  obtain ⟨r1, r2⟩ := root_of p k hk h2
  have k0 : 0 < 4294967296 ^ k := Nat.pow_pos (by decide)
  have a1 : s * 4294967296 ≤ rootUpto (p * 4294967296 ^ k) k 40 0 := by
    refine root_le _ _ _ k ?_ r2
    rw [Nat.mul_pow]
    exact Nat.mul_le_mul_right _ hs
  have a2 : rootUpto (p * 4294967296 ^ k) k 40 0 < (s + 1) * 4294967296 := by
    rcases Nat.lt_or_ge (rootUpto (p * 4294967296 ^ k) k 40 0) ((s + 1) * 4294967296) with h | h
    · exact h
    · have := Nat.pow_le_pow_left h k
      rw [Nat.mul_pow] at this
      have := Nat.mul_lt_mul_of_pos_right ht k0
      omega
  unfold fracI
  omega

theorem frac_lt (p k : Nat) : fracI p k < 4294967296 := Nat.mod_lt _ (by decide)

theorem pow_next (a k : Nat) (hk : k = 2 ∨ k = 3) : a ^ k < (a + 1) ^ k := by
  rcases hk with rfl | rfl <;> exact Nat.pow_lt_pow_left (by omega) (by decide)
/-- A whole root has nothing behind it. -/
theorem frac_whole (s k : Nat) (hk : k = 2 ∨ k = 3) (h2 : s ^ k ≤ 65535) : fracI (s ^ k) k = 0 := by
  have hlt : s ^ k < (s + 1) ^ k := by rcases hk with rfl | rfl <;> exact Nat.pow_lt_pow_left (by omega) (by decide)
  have h := frac_of (s ^ k) k s hk h2 (Nat.le_refl _) hlt
  obtain ⟨r1, r2⟩ := root_of (s ^ k) k hk h2
  have a1 : rootUpto (s ^ k * 4294967296 ^ k) k 40 0 ≤ s * 4294967296 := by
    refine root_le _ _ _ k r1 ?_
    rw [← Nat.mul_pow]
    generalize s * 4294967296 = t
    exact pow_next t k hk
  omega

theorem sq_one (s b : Nat) : (s * b + 1) ^ 2 = s * s * (b * b) + 2 * (s * b) + 1 := by
  rw [Nat.pow_two, Nat.add_mul, Nat.mul_add, Nat.mul_mul_mul_comm]; omega
theorem frac_more (s : Nat) (h1 : 1 ≤ s) (h2 : s ≤ 254) : 0 < fracI (s * s + s + 1) 2 := by
  have hp : s * s + s + 1 ≤ 65535 := by
    have := Nat.mul_le_mul h2 h2
    omega
  have e1 : s ^ 2 = s * s := Nat.pow_two s
  have e2 : (s + 1) ^ 2 = s * s + 2 * s + 1 := by rw [Nat.pow_two, Nat.add_mul, Nat.mul_add]; omega
  have h := frac_of (s * s + s + 1) 2 s (.inl rfl) hp (by omega) (by omega)
  obtain ⟨r1, r2⟩ := root_of (s * s + s + 1) 2 (.inl rfl) hp
  have a1 : s * 4294967296 + 1 ≤ rootUpto ((s * s + s + 1) * 4294967296 ^ 2) 2 40 0 := by
    refine root_le _ _ _ 2 ?_ r2
    have e := sq_one s 4294967296
    simp only [Nat.reduceMul] at e
    rw [e, show (4294967296 : Nat) ^ 2 = 18446744073709551616 from by decide]
    generalize s * s = t at *
    omega
  omega

theorem frac_mono (p q s : Nat) (hpq : p ≤ q) (h2 : q ≤ 65535) (hs : s ^ 2 ≤ p) (ht : q < (s + 1) ^ 2) : fracI p 2 ≤ fracI q 2 := by
  have hp := frac_of p 2 s (.inl rfl) (by omega) hs (by omega)
  have hq := frac_of q 2 s (.inl rfl) h2 (by omega) ht
  obtain ⟨r1, r2⟩ := root_of p 2 (.inl rfl) (by omega)
  obtain ⟨s1, s2⟩ := root_of q 2 (.inl rfl) h2
  have : rootUpto (p * 4294967296 ^ 2) 2 40 0 ≤ rootUpto (q * 4294967296 ^ 2) 2 40 0 :=
    root_le _ _ _ 2 (Nat.le_trans r1 (Nat.mul_le_mul_right _ hpq)) s2
  omega
end Go.Proofs.YtpmeiadnikenmaaDoor
