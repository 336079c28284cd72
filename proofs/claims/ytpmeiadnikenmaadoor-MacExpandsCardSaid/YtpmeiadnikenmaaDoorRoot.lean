/-
  Whether a number of four words is above another one, as the Go text asks it; the k-th root of such a number, bit by bit.
-/
import Derived.Test.YtpmeiadnikenmaaDoorPower
import Derived.Deep.RegionWith
namespace Go.Proofs.YtpmeiadnikenmaaDoor
open Go.RowKit

theorem two (w : World) (A B : Obj) : ((w.alloc A).alloc B).heap[w.heap.size]? = some A ∧ ((w.alloc A).alloc B).heap[w.heap.size + 1]? = some B ∧ ((w.alloc A).alloc B).heap.size = w.heap.size + 2 ∧ Below w.heap.size w ((w.alloc A).alloc B) := by
  refine ⟨?_, ?_, ?_, ((Below.refl w.heap.size w).alloc (Nat.le_refl _) A).alloc (by simp) B⟩
  · rw [Below.heap_alloc _ _ _ (by simp)]; exact heap_alloc_new w A
  · show ((w.heap.push A).push B)[w.heap.size + 1]? = _
    simp [Array.getElem_push]
  · simp

theorem bcell {W w1 : World} (hb : Below W.heap.size W w1) : (∀ b o, b < W.heap.size → w1.cell? ⟨b, o, none⟩ = W.cell? ⟨b, o, none⟩) ∧ (∀ b o, b < W.heap.size → w1.frozen? ⟨b, o, none⟩ = W.frozen? ⟨b, o, none⟩) :=
  ⟨fun b o h => hb.cell (p := ⟨b, o, none⟩) h, fun b o h => hb.frozen (p := ⟨b, o, none⟩) h⟩

theorem place_or (f n : Nat) (hn : n ≤ 39) (hf : f % 2 ^ (n + 1) = 0) (hl : f < 2 ^ 40) : bits BinOp.or IntKind.u64 (f : Int) (IntKind.u64.wrap (2 ^ n)) = ((f + 2 ^ n : Nat) : Int) := by
  have h1 : 2 ^ n ≤ 2 ^ 39 := Nat.pow_le_pow_right (by decide) hn
  have e1 : ((2 : Int) ^ n) = ((2 ^ n : Nat) : Int) := by simp
  rw [e1, wrap_u64_of _ (by omega), bits_or_u64 _ _ (by omega) (by omega)]
  have h2 := Nat.div_add_mod f (2 ^ (n + 1))
  rw [hf, Nat.add_zero, Nat.mul_comm] at h2
  have h3 := or_add (f / 2 ^ (n + 1)) (2 ^ n) (n + 1) (by rw [Nat.pow_succ]; have := Nat.two_pow_pos n; omega)
  rw [h2] at h3
  rw [h3]
theorem place_lt (f n : Nat) (hn : n ≤ 39) (hf : f % 2 ^ (n + 1) = 0) (hl : f < 2 ^ 40) : f + 2 ^ n < 2 ^ 40 ∧ (f + 2 ^ n) % 2 ^ n = 0 ∧ f % 2 ^ n = 0 := by
  have h2 := Nat.div_add_mod f (2 ^ (n + 1))
  rw [hf, Nat.add_zero] at h2
  generalize f / 2 ^ (n + 1) = q at *
  subst h2
  have e : (2 : Nat) ^ 40 = 2 ^ (n + 1) * 2 ^ (39 - n) := by rw [← Nat.pow_add]; congr 1; omega
  rw [e] at hl ⊢
  have hq := Nat.lt_of_mul_lt_mul_left hl
  have h3 := Nat.mul_le_mul_left (2 ^ (n + 1)) (Nat.succ_le_of_lt hq)
  rw [Nat.mul_succ] at h3
  have h4 := Nat.two_pow_pos n
  refine ⟨by rw [Nat.pow_succ] at *; omega, ?_, ?_⟩
  · rw [Nat.pow_succ, Nat.mul_assoc]; simp
  · rw [Nat.pow_succ, Nat.mul_assoc]; simp

/-- The k-th root of p times 2^(32 k), rounded down, by its bits. -/
def rootUpto (g k : Nat) : Nat → Nat → Nat
  | 0, f => f
  | n + 1, f => rootUpto g k n (if (f + 2 ^ n) ^ k ≤ g then f + 2 ^ n else f)

end Go.Proofs.YtpmeiadnikenmaaDoor
