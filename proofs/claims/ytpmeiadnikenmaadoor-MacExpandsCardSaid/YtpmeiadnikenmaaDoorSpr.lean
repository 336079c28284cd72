/-
  Plain facts: a block's first sixteen numbers, byte by byte.
-/
import Derived.Test.YtpmeiadnikenmaaDoorSha
namespace Go.Proofs.YtpmeiadnikenmaaDoor
open Go.RowKit

/-- Word j of the first i bytes. -/
def wpart (l : List Int) (i j : Nat) : BitVec 32 := BitVec.ofNat 32 (num ((l.drop (4 * j)).take (min 4 (i - 4 * j)))).toNat
def spr (l : List Int) (i : Nat) : List (BitVec 32) := (List.range 64).map (wpart l i)
theorem spr_length (l : List Int) (i : Nat) : (spr l i).length = 64 := by simp [spr]
theorem spr_at (l : List Int) (i j : Nat) (h : j < 64) : (spr l i).getD j 0 = wpart l i j := by simp [spr, h]
theorem spr_zero (l : List Int) : spr l 0 = List.replicate 64 0 := by
  rw [List.eq_replicate_iff]
  refine ⟨by simp [spr], fun b hb => ?_⟩
  simp only [spr, List.mem_map] at hb
  obtain ⟨j, _, rfl⟩ := hb
  simp [wpart, num]
theorem wpart_other (l : List Int) (i j : Nat) (h : j ≠ i / 4) : wpart l (i + 1) j = wpart l i j := by
  unfold wpart
  rw [show min 4 (i + 1 - 4 * j) = min 4 (i - 4 * j) by omega]
theorem seg_bound (l : List Int) (hy : Byt l) (i k : Nat) : 0 ≤ num ((l.drop i).take k) ∧ num ((l.drop i).take k) < 256 ^ k := by
  have hb : Byt ((l.drop i).take k) := fun z hz => hy z (List.mem_of_mem_drop (List.mem_of_mem_take hz))
  have h1 := num_bound _ hb
  have h2 : ((l.drop i).take k).length ≤ k := List.length_take_le _ _
  have h3 : (256 : Int) ^ ((l.drop i).take k).length ≤ 256 ^ k := by
    have : ((256 ^ ((l.drop i).take k).length : Nat) : Int) ≤ ((256 ^ k : Nat) : Int) := Int.ofNat_le.2 (Nat.pow_le_pow_right (by decide) h2)
    simpa using this
  omega
theorem wv_part (l : List Int) (hy : Byt l) (i j : Nat) : wv (wpart l i j) = num ((l.drop (4 * j)).take (min 4 (i - 4 * j))) := by
  obtain ⟨h0, h1⟩ := seg_bound l hy (4 * j) (min 4 (i - 4 * j))
  have h2 : (256 : Int) ^ (min 4 (i - 4 * j)) ≤ 256 ^ 4 := by
    have : ((256 ^ (min 4 (i - 4 * j)) : Nat) : Int) ≤ ((256 ^ 4 : Nat) : Int) := Int.ofNat_le.2 (Nat.pow_le_pow_right (by decide) (by omega))
    simpa using this
  have h4 : (256 : Int) ^ 4 = 4294967296 := by decide
  unfold wv wpart
  rw [BitVec.toNat_ofNat, Nat.mod_eq_of_lt (by omega)]
  omega
theorem wpart_small (l : List Int) (hy : Byt l) (i : Nat) : wv (wpart l i (i / 4)) < 16777216 := by
  rw [wv_part l hy]
  obtain ⟨h0, h1⟩ := seg_bound l hy (4 * (i / 4)) (min 4 (i - 4 * (i / 4)))
  have h2 : (256 : Int) ^ (min 4 (i - 4 * (i / 4))) ≤ 256 ^ 3 := by
    have : ((256 ^ (min 4 (i - 4 * (i / 4))) : Nat) : Int) ≤ ((256 ^ 3 : Nat) : Int) := Int.ofNat_le.2 (Nat.pow_le_pow_right (by decide) (by omega))
    simpa using this
  have h4 : (256 : Int) ^ 3 = 16777216 := by decide
  omega
theorem wpart_add (l : List Int) (hy : Byt l) (i : Nat) (hi : i < l.length) : wv (wpart l (i + 1) (i / 4)) = wv (wpart l i (i / 4)) * 256 + l[i]?.getD 0 := by
  rw [wv_part l hy, wv_part l hy]
  obtain ⟨m, hm⟩ : ∃ m, m = i - 4 * (i / 4) := ⟨_, rfl⟩
  rw [show min 4 (i + 1 - 4 * (i / 4)) = m + 1 by omega, show min 4 (i - 4 * (i / 4)) = m by omega]
  have hlen : m < (l.drop (4 * (i / 4))).length := by rw [List.length_drop]; omega
  rw [take_next _ _ hlen, num_snoc, List.getElem?_drop, show 4 * (i / 4) + m = i by omega]
theorem shl_or (x : BitVec 32) (c : Int) (hx : wv x < 16777216) (c0 : 0 ≤ c) (c1 : c ≤ 255) : bits BinOp.or IntKind.u32 (wv x * 256) c = wv x * 256 + c := by
  obtain ⟨n, hn⟩ : ∃ n : Nat, wv x = n := ⟨x.toNat, rfl⟩
  obtain ⟨m, rfl⟩ := Int.eq_ofNat_of_zero_le c0
  rw [hn] at hx ⊢
  have e : ((n : Int) * 256) = ((n * 256 : Nat) : Int) := by simp
  rw [e, bits_or_u32 _ _ (by omega) (by omega)]
  have := or_add n m 8 (by omega)
  rw [show (2 : Nat) ^ 8 = 256 by decide] at this
  rw [this]; simp
theorem wpart_step (l : List Int) (hy : Byt l) (i : Nat) (hi : i < l.length) : bits BinOp.or IntKind.u32 (wv (wpart l i (i / 4)) * 256) (l[i]?.getD 0) = wv (wpart l (i + 1) (i / 4)) := by
  obtain ⟨c0, c1⟩ := byt_at l hy i
  rw [shl_or _ _ (wpart_small l hy i) c0 c1, wpart_add l hy i hi]
theorem spr_set (l : List Int) (i : Nat) : (spr l i).set (i / 4) (wpart l (i + 1) (i / 4)) = spr l (i + 1) := by
  apply List.ext_getElem (by simp [spr])
  intro j h1 h2
  simp only [spr, List.length_set, List.length_map, List.length_range] at h1
  rw [List.getElem_set]
  by_cases hj : i / 4 = j
  · subst hj; simp [spr]
  · rw [if_neg hj]
    simp only [spr, List.getElem_map, List.getElem_range]
    exact (wpart_other l i j (fun e => hj e.symm)).symm
theorem sch_first (l : List Int) (n : Nat) (hn : n ≤ 16) : sch l n = (List.range n).map (wordAt l) := by
  induction n with
  | zero => rfl
  | succ n ih =>
    have hlen := sch_length l n
    rw [sch, List.range_succ, List.map_append, ih (by omega)]
    congr 1
    rw [← ih (by omega)]
    simp only [nextW, hlen]
    rw [if_pos (by omega)]
    rfl
theorem spr_full (l : List Int) : (spr l 64).take 16 = sch l 16 := by
  rw [sch_first l 16 (Nat.le_refl _)]
  apply List.ext_getElem (by simp [spr])
  intro j h1 h2
  simp at h2
  simp only [spr, List.getElem_take, List.getElem_map, List.getElem_range, wpart, wordAt]
  rw [show min 4 (64 - 4 * j) = 4 by omega]
end Go.Proofs.YtpmeiadnikenmaaDoor
