/-
  ctr's lay: a slice of a row is filled with a number's lowest bytes, the highest first.
-/
import Derived.Test.YtbnclmlbennhaaaCMath
namespace Go.Proofs.Ytbnclmlbennhaaa
set_option maxRecDepth 4000
open Go.RowKit

theorem lay_full (L : List (BitVec 8)) (o n x : Nat) (ho : o + n ≤ L.length) : setF (fun j => o + (n - 1 - j)) (fun j => BitVec.ofNat 8 (x / 2 ^ (8 * j))) n L = putL L o (beY n x) := by
  have hlen : (putL L o (beY n x)).length = L.length := putL_length L o _ (by rw [beY_length]; exact ho)
  have key : ∀ (k : Nat) (i : Nat), k ≤ n → i < L.length → (setF (fun j => o + (n - 1 - j)) (fun j => BitVec.ofNat 8 (x / 2 ^ (8 * j))) k L).getD i 0 = if o + n - k ≤ i ∧ i < o + n then BitVec.ofNat 8 (x / 2 ^ (8 * (o + n - 1 - i))) else L.getD i 0 := by
    intro k
    induction k with
    | zero => intro i _ _; rw [if_neg (by omega)]; rfl
    | succ k ih =>
      intro i hk hi
      have hih := ih i (by omega) hi
      show ((setF (fun j => o + (n - 1 - j)) (fun j => BitVec.ofNat 8 (x / 2 ^ (8 * j))) k L).set (o + (n - 1 - k)) (BitVec.ofNat 8 (x / 2 ^ (8 * k)))).getD i 0 = _
      have hl := setF_length (fun j => o + (n - 1 - j)) (fun j => BitVec.ofNat 8 (x / 2 ^ (8 * j))) k L
      by_cases h : o + (n - 1 - k) = i
      · subst h
        rw [if_pos (by omega), show o + n - 1 - (o + (n - 1 - k)) = k by omega]
        simp [List.getD, hl, hi]
      · have e : ((setF (fun j => o + (n - 1 - j)) (fun j => BitVec.ofNat 8 (x / 2 ^ (8 * j))) k L).set (o + (n - 1 - k)) (BitVec.ofNat 8 (x / 2 ^ (8 * k)))).getD i 0 = (setF (fun j => o + (n - 1 - j)) (fun j => BitVec.ofNat 8 (x / 2 ^ (8 * j))) k L).getD i 0 := by
          simp [List.getD, List.getElem?_set_ne h]
        rw [e, hih]
        by_cases h2 : o + n - k ≤ i ∧ i < o + n
        · rw [if_pos h2, if_pos (by omega)]
        · rw [if_neg h2, if_neg (by omega)]
  apply List.ext_getElem
  · rw [setF_length, hlen]
  · intro i h1 h2
    have hi : i < L.length := by rwa [setF_length] at h1
    have h := key n i (by omega) hi
    simp only [List.getD, List.getElem?_eq_getElem h1, Option.getD_some] at h
    rw [h]
    by_cases c : o + n - n ≤ i ∧ i < o + n
    · rw [if_pos c]
      simp only [putL]
      rw [List.getElem_append_left (by simp [beY_length]; omega), List.getElem_append_right (by simp; omega)]
      simp only [List.length_take, Nat.min_eq_left (show o ≤ L.length by omega), beY, List.getElem_map, List.getElem_range]
      rw [show o + n - 1 - i = n - 1 - (i - o) by omega]
    · rw [if_neg c]
      simp only [putL]
      by_cases c2 : i < o
      · rw [List.getElem_append_left (by simp [beY_length]; omega), List.getElem_append_left (by simp; omega)]
        simp [hi]
      · rw [List.getElem_append_right (by simp [beY_length]; omega)]
        simp [beY_length, hi, Nat.min_eq_left (show o ≤ L.length by omega), show o + n + (i - (o + n)) = i by omega]

end Go.Proofs.Ytbnclmlbennhaaa
