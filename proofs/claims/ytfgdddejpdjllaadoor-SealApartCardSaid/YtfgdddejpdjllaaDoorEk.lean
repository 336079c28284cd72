/-
  Blocks sealed: first blocks of streams, for the law that they are apart.
-/
import Derived.Test.YtfgdddejpdjllaaDoorEj
import Derived.Test.YtfgdddejpdjllaaDoorYOpen
namespace Go.Proofs.YtfgdddejpdjllaaDoor
set_option maxRecDepth 4000
set_option linter.unusedVariables false
open Go.ChangeShapes Go.WideShapes Go.ChangeAt Go.RowKit

theorem num_be12 (n x : Nat) (h : x < 2 ^ (8 * n)) : num ((beY n x).map yv) = (x : Int) := by
  rw [beY_put, putI_num n _ (by omega) (by exact_mod_cast h)]
theorem nonce_inj12 (a b c d : Nat) (ha : a < 18446744073709551616) (hb : b < 18446744073709551616) (hc : c < 4294967296) (hd : d < 4294967296) : beY 8 a ++ beY 4 c = beY 8 b ++ beY 4 d ↔ a = b ∧ c = d := by
  constructor
  · intro h
    have h1 := congrArg (fun l => num ((l.take 8).map yv)) h
    have h2 := congrArg (fun l => num ((l.drop 8).map yv)) h
    rw [List.take_left' (beY_length 8 a), List.take_left' (beY_length 8 b), num_be12 8 a (by omega), num_be12 8 b (by omega)] at h1
    rw [List.drop_left' (beY_length 8 a), List.drop_left' (beY_length 8 b), num_be12 4 c (by omega), num_be12 4 d (by omega)] at h2
    omega
  · rintro ⟨rfl, rfl⟩; rfl
def firstB (a c : Nat) : List (BitVec 8) := (beY 8 a ++ beY 4 c) ++ beY 4 0
theorem firstB_length (a c : Nat) : (firstB a c).length = 16 := by simp [firstB, beY_length]
theorem first_block (k : List (BitVec 8)) (hk : k.length = 32) (a c : Nat) : (sealS k a c (zeroY 512)).take 16 = sealB (keysL k) (firstB a c) := by
  unfold sealS
  rw [sumB_zero 512 _ (strL_length _ _ _ _), strL_take (keysL k) _ 0 512 16 (by decide)]
  exact strL_block (keysL k) (beY 8 a ++ beY 4 c) (keysL_length k hk) 0
theorem first_inj (k : List (BitVec 8)) (hk : k.length = 32) (a b c d : Nat) (ha : a < 18446744073709551616) (hb : b < 18446744073709551616) (hc : c < 4294967296) (hd : d < 4294967296) :
    sealB (keysL k) (firstB a c) = sealB (keysL k) (firstB b d) ↔ a = b ∧ c = d := by
  constructor
  · intro h
    have h1 := congrArg (openB (keysL k)) h
    rw [open_seal _ _ (keysL_length k hk) (firstB_length a c), open_seal _ _ (keysL_length k hk) (firstB_length b d)] at h1
    exact (nonce_inj12 a b c d ha hb hc hd).1 (List.append_cancel_right h1)
  · rintro ⟨rfl, rfl⟩; rfl
theorem first_ne (a c : Nat) (ha : a < 18446744073709551616) (h0 : a ≠ 0) : firstB a c ≠ zeroY 16 := by
  intro h
  have h1 := congrArg (fun l => num ((l.take 8).map yv)) h
  unfold firstB at h1
  rw [List.append_assoc, List.take_left' (beY_length 8 a), num_be12 8 a (by omega)] at h1
  have h2 : num (((zeroY 16).take 8).map yv) = 0 := by decide +kernel
  rw [h2] at h1
  omega
theorem field_enc (k m : List (BitVec 8)) (hk : k.length = 32) (W : World) : (Instr.field 28 (.agg (yvs (k ++ m))) 0).run Tryd.prog W = .ok (.agg (yvs k)) W := by
  obtain ⟨i0, hi, hs⟩ := Option.map_eq_some_iff.1 (show (Tryd.prog.info? 25).map (·.size) = some 32 by kernel_rfl)
  have hx : (yvs (k ++ m)).extract 0 32 = yvs k := by
    unfold yvs
    rw [List.map_append]
    simp [List.extract_toArray, hk]
  have hagg : (isAgg 25).run Tryd.prog W = .ok true W := by
    unfold isAgg
    rw [Sem.run_bind, run_underlying Tryd.underlying25 W]
    rfl
  have hpart : (part 25 (yvs (k ++ m)) 0).run Tryd.prog W = .ok (.agg (yvs k)) W := by
    unfold part
    rw [Sem.run_bind, hagg]
    simp [sizeOf, typeInfo, hi, hs, hx]
  simp [Instr.field, run_underlying Tryd.underlying28, asAgg, hpart]
theorem slice_k32 (g : Nat) (W : World) : (Instr.sliceAt 24 (.pointer (some ⟨g, 0, none⟩)) none none none).run Tryd.prog W = .ok (.slice (some ⟨g, 0, none⟩) 32 32) W := by
  obtain ⟨i0, hi0, _⟩ := Option.map_eq_some_iff.1 yone
  simp [Instr.sliceAt, run_underlying Tryd.underlying24, Instr.sureAddr, Instr.sliceBounds, sizeOf, typeInfo, hi0, Addr.add]
theorem arr_blk (g : Nat) (W : World) : (Instr.arrayAt 71 (.slice (some ⟨g, 0, none⟩) 16 512)).run Tryd.prog W = .ok (.pointer (some ⟨g, 0, none⟩)) W := by
  simp [Instr.arrayAt, run_underlying Tryd.underlying71]
theorem zero_blk (W : World) : (zeroValue 71).run Tryd.prog W = .ok (.agg (yvs (zeroY 16))) W := by kernel_rfl
theorem build_blk (W : World) : (Instr.build 71 #[]).run Tryd.prog W = .ok (.agg (yvs (zeroY 16))) W := by kernel_rfl
theorem info_blk (l : List (BitVec 8)) (h : l.length = 16) : (Tryd.prog.info? 71).map (·.size) = some (yvs l).toList.length := by rw [Array.length_toList]; exact size_block l h
end Go.Proofs.YtfgdddejpdjllaaDoor
