/-
  A key's round keys, byte by byte.
-/
import Derived.Test.YtbnclmlbennhaaaBlk
namespace Go.Proofs.Ytbnclmlbennhaaa
set_option maxRecDepth 4000
open Go.RowKit

theorem getD_append_left' (l m : List (BitVec 8)) (j : Nat) (h : j < l.length) : (l ++ m).getD j 0 = l.getD j 0 := by
  simp [List.getD, List.getElem?_append_left h]
theorem getD_append_right' (l m : List (BitVec 8)) (n j : Nat) (h : l.length = n) : (l ++ m).getD (n + j) 0 = m.getD j 0 := by
  subst h
  simp [List.getD, List.getElem?_append_right]
theorem keyL_prefix (k : List (BitVec 8)) (hk : k.length = 32) (n m j : Nat) (h : j < 32 + 4 * n) : (keyL k (n + m)).getD j 0 = (keyL k n).getD j 0 := by
  induction m with
  | zero => rfl
  | succ m ih => rw [← Nat.add_assoc, keyL, getD_append_left' _ _ _ (by rw [keyL_length k hk]; omega), ih]
theorem keys_below (k : List (BitVec 8)) (hk : k.length = 32) (n j : Nat) (hn : n ≤ 52) (h : j < 32 + 4 * n) : (keysL k).getD j 0 = (keyL k n).getD j 0 := by
  have := keyL_prefix k hk n (52 - n) j h
  rwa [show n + (52 - n) = 52 by omega] at this
theorem keys_key (k : List (BitVec 8)) (hk : k.length = 32) (j : Nat) (h : j < 32) : (keysL k).getD j 0 = k.getD j 0 := keys_below k hk 0 j (by omega) (by omega)
theorem wordL_eq (l : List (BitVec 8)) (i : Nat) (h : 4 * i + 4 ≤ l.length) : wordL l i = [l.getD (4 * i) 0, l.getD (4 * i + 1) 0, l.getD (4 * i + 2) 0, l.getD (4 * i + 3) 0] := by
  apply List.ext_getElem
  · simp [wordL]; omega
  · intro j h1 h2
    have hj : j < 4 := by simpa using h2
    have : ∀ j, j < 4 → (wordL l i)[j]? = some (l.getD (4 * i + j) 0) := by
      intro j hj
      have : 4 * i + j < l.length := by omega
      simp [wordL, hj, this]
    have e := this j hj
    rw [List.getElem?_eq_getElem h1] at e
    rw [Option.some.inj e]
    match j, hj with
    | 0, _ | 1, _ | 2, _ | 3, _ => rfl
/-- The word ahead, and so on: four bytes of the round keys. -/
def tw (T : List (BitVec 8)) (i : Nat) : List (BitVec 8) := [T.getD (4 * i) 0, T.getD (4 * i + 1) 0, T.getD (4 * i + 2) 0, T.getD (4 * i + 3) 0]
theorem tw_at (T : List (BitVec 8)) (i j : Nat) (h : j < 4) : (tw T i).getD j 0 = T.getD (4 * i + j) 0 := by
  match j, h with
  | 0, _ | 1, _ | 2, _ | 3, _ => rfl
theorem keys_step (k : List (BitVec 8)) (hk : k.length = 32) (i j : Nat) (h8 : 8 ≤ i) (h60 : i < 60) (hj : j < 4) :
    (keysL k).getD (4 * i + j) 0 = (stepW (tw (keysL k) (i - 1)) i).getD j 0 ^^^ (keysL k).getD (4 * (i - 8) + j) 0 := by
  obtain ⟨n, rfl⟩ : ∃ n, i = n + 8 := ⟨i - 8, by omega⟩
  have hl := keyL_length k hk n
  have ew : ∀ p, p < n + 8 → wordL (keyL k n) p = tw (keysL k) p := by
    intro p hp
    rw [wordL_eq _ _ (by rw [hl]; omega)]
    unfold tw
    rw [keys_below k hk n (4 * p) (by omega) (by omega), keys_below k hk n (4 * p + 1) (by omega) (by omega), keys_below k hk n (4 * p + 2) (by omega) (by omega), keys_below k hk n (4 * p + 3) (by omega) (by omega)]
  rw [keys_below k hk (n + 1) _ (by omega) (by omega), keyL, show 4 * (n + 8) + j = (32 + 4 * n) + j by omega, getD_append_right' _ _ _ _ hl, nextL, ew _ (by omega), ew _ (by omega), ← tw_at _ _ _ hj]
  have h4 := stepW_length (tw (keysL k) (n + 8 - 1)) (n + 8)
  have hz : ∀ a b : List (BitVec 8), a.length = 4 → b.length = 4 → (sumB a b).getD j 0 = a.getD j 0 ^^^ b.getD j 0 := by
    intro a b ha hb
    simp [sumB, ha, hb, hj]
  exact hz _ _ h4 rfl
end Go.Proofs.Ytbnclmlbennhaaa
