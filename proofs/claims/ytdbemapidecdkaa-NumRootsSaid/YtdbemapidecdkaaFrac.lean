/-
  Frac, of any number: the error, or what is behind the whole part of the root.
-/
import Derived.Test.YtdbemapidecdkaaRoot
namespace Go.Proofs.Ytdbemapidecdkaa
open Go.RowKit

/-- What Frac answers where it answers. -/
def fracI (p k : Nat) : Nat := rootUpto (p * 4294967296 ^ k) k 40 0 % 4294967296

set_option maxHeartbeats 400000 in
theorem frac_ok (p k : Nat) (w : World) (hk : k = 2 ∨ k = 3) (h1 : 1 ≤ p) (h2 : p ≤ 65535) :
    Calls Try.prog 22 #[.int .u32 p, .int .i64 k] w fun e w' => e = .returned (.tuple #[.int .u32 (fracI p k : Nat), .int .i64 0]) ∧ Below w.heap.size w w' := by
  rcases hk with rfl | rfl
  · have hs : Small [0, 0, p, 0] := by intro d hd; simp at hd; omega
    have hroot := fun w => root_any [0, 0, p, 0] 2 w rfl hs (by omega)
    have e0 : val [0, 0, p, 0] = p * 4294967296 ^ 2 := by simp [val]; omega
    rw [e0] at hroot
    have e1 : wordsOf [0, 0, p, 0] = #[.int .u32 0, .int .u32 0, .int .u32 p, .int .u32 0] := rfl
    rw [e1] at hroot
    have HR := Lib.hid hroot
    clear hroot e0 e1 hs
    go_enter Try.func22, Try.ntmps22
    go_wp2_with fail
    refine (HR.out _).mono ?_
    rintro e w1 ⟨rfl, hb⟩
    go_wp2_with fail
    go_ret2
    refine ⟨?_, ((Below.refl w.heap.size w).alloc (Nat.le_refl _) _).trans (hb.mono (by simp))⟩
    simp only [fracI, Int.natCast_emod]
    rfl
  · have hs : Small [0, 0, 0, p] := by intro d hd; simp at hd; omega
    have hroot := fun w => root_any [0, 0, 0, p] 3 w rfl hs (by omega)
    have e0 : val [0, 0, 0, p] = p * 4294967296 ^ 3 := by simp [val]; omega
    rw [e0] at hroot
    have e1 : wordsOf [0, 0, 0, p] = #[.int .u32 0, .int .u32 0, .int .u32 0, .int .u32 p] := rfl
    rw [e1] at hroot
    have HR := Lib.hid hroot
    clear hroot e0 e1 hs
    go_enter Try.func22, Try.ntmps22
    go_wp2_with fail
    refine (HR.out _).mono ?_
    rintro e w1 ⟨rfl, hb⟩
    go_wp2_with fail
    go_ret2
    refine ⟨?_, ((Below.refl w.heap.size w).alloc (Nat.le_refl _) _).trans (hb.mono (by simp))⟩
    simp only [fracI, Int.natCast_emod]
    rfl

set_option maxHeartbeats 400000 in
theorem frac_bad (p k : Int) (w : World) (h : (k ≠ 2 ∧ k ≠ 3) ∨ p < 1 ∨ 65535 < p) :
    Calls Try.prog 22 #[.int .u32 p, .int .i64 k] w fun e w' => e = .returned (.tuple #[.int .u32 0, .int .i64 2]) ∧ w' = w := by
  by_cases h2 : k = 2
  · subst h2
    by_cases h1 : p < 1
    · go_enter Try.func22, Try.ntmps22
      go_wp2_with fail
      go_ret2
      exact ⟨rfl, rfl⟩
    · have h4 : 65535 < p := by omega
      clear h
      go_enter Try.func22, Try.ntmps22
      go_wp2_with fail
      go_ret2
      exact ⟨rfl, rfl⟩
  by_cases h3 : k = 3
  · subst h3
    by_cases h1 : p < 1
    · go_enter Try.func22, Try.ntmps22
      go_wp2_with fail
      go_ret2
      exact ⟨rfl, rfl⟩
    · have h4 : 65535 < p := by omega
      clear h
      go_enter Try.func22, Try.ntmps22
      go_wp2_with fail
      go_ret2
      exact ⟨rfl, rfl⟩
  clear h
  go_enter Try.func22, Try.ntmps22
  go_wp2_with fail
  go_ret2
  exact ⟨rfl, rfl⟩
end Go.Proofs.Ytdbemapidecdkaa
