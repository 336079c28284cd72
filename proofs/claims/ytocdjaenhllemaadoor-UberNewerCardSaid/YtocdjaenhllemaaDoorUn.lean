/-
  Ubers: the lowest bit cleared and set; the laws' uber of any number; what is chosen of two, of one and rubbish.
-/
import Derived.Test.YtocdjaenhllemaaDoorUk
namespace Go.Proofs.YtocdjaenhllemaaDoor
set_option maxRecDepth 4000
open Go.ChangeShapes Go.WideShapes Go.ChangeAt Go.RowKit

theorem bv_clear (x : BitVec 64) : x &&& ~~~1#64 = (x >>> 1) <<< 1 := by
  apply BitVec.eq_of_getLsbD_eq
  intro i hi
  rw [BitVec.getLsbD_and, BitVec.getLsbD_not, BitVec.getLsbD_shiftLeft, BitVec.getLsbD_ushiftRight]
  cases i with
  | zero => simp
  | succ i =>
    have e : (1#64).getLsbD (i + 1) = false := by simp
    rw [e, show 1 + (i + 1 - 1) = i + 1 by omega]
    simp [hi]
theorem andnot_nat (s : Nat) (h : s < 18446744073709551616) : bits BinOp.andNot IntKind.u64 (s : Int) 1 = (s : Int) - (s : Int) % 2 := by
  simp only [bits]
  rw [show (1 : Int) = ((1 : Nat) : Int) from rfl, ofInt_nat, ofInt_nat]
  rw [show BitVec.ofNat IntKind.u64.bits s &&& ~~~1#IntKind.u64.bits = _ from bv_clear (BitVec.ofNat 64 s)]
  have e1 : s % 2 ^ 64 = s := Nat.mod_eq_of_lt (by simpa using h)
  have e : ((BitVec.ofNat 64 s >>> 1) <<< 1).toNat = s / 2 * 2 := by
    rw [BitVec.toNat_shiftLeft, BitVec.toNat_ushiftRight, BitVec.toNat_ofNat, e1, Nat.shiftRight_eq_div_pow, Nat.shiftLeft_eq]
    omega
  rw [show (BitVec.toNat (w := IntKind.u64.bits) ((BitVec.ofNat 64 s >>> 1) <<< 1)) = s / 2 * 2 from e, wrap_u64_of _ (by omega)]
  omega
theorem or_nat (t : Nat) (h : t < 18446744073709551616) : bits BinOp.or IntKind.u64 (t : Int) 1 = (t : Int) + 1 - (t : Int) % 2 := by
  have h1 := bits_or_u64 t 1 h (by omega)
  rw [show ((1 : Nat) : Int) = 1 from rfl] at h1
  rw [h1]
  have h2 := or_add (t / 2) 1 1 (by decide)
  have h3 : t ||| 1 = t / 2 * 2 + 1 := by
    rcases Nat.mod_two_eq_zero_or_one t with r | r
    · rw [show t = t / 2 * 2 ^ 1 by omega]
      rw [h2]
      omega
    · have h4 : t = t / 2 * 2 ^ 1 ||| 1 := by rw [h2]; omega
      rw [h4, Nat.or_assoc, Nat.or_self, h2]
      omega
  rw [h3]
  omega
theorem andnot_one (s : Int) (h0 : 0 ≤ s) (h1 : s ≤ 18446744073709551615) : bits BinOp.andNot IntKind.u64 s 1 = s - s % 2 := by
  obtain ⟨n, rfl⟩ := Int.eq_ofNat_of_zero_le h0
  exact andnot_nat n (by omega)
theorem or_one (s : Int) (h0 : 0 ≤ s) (h1 : s ≤ 18446744073709551615) : bits BinOp.or IntKind.u64 s 1 = s + 1 - s % 2 := by
  obtain ⟨n, rfl⟩ := Int.eq_ofNat_of_zero_le h0
  exact or_nat n (by omega)
def ofUI (x : Int) (h : 0 ≤ x ∧ x ≤ 18446744073709551615) : UbV := ⟨x, 16, fiveP, h, by decide⟩
theorem uofI_any (x : Int) (h : 0 ≤ x ∧ x ≤ 18446744073709551615) (w : World) :
    Calls Tryd.prog 22 #[.int .u64 x] w fun e w' => e = .returned (.agg (ubRow (ofUI x h)).toArray) ∧ Below w.heap.size w w' := by
  obtain ⟨n, rfl⟩ := Int.eq_ofNat_of_zero_le h.1
  exact uof_any n (by omega) w
theorem mayU_ofI (x : Int) (h : 0 ≤ x ∧ x ≤ 18446744073709551615) (h0 : x ≠ 0) : mayU (ofUI x h) = true := by
  have e : mayB fiveP 16 = true := by decide
  unfold mayU ofUI
  simp [e, h0]
theorem choose_first (k : List Int) (u : UbV) (r : List Int) (hu : mayU u = true) (eu : u.tx % 2 = 0) (hr : (getU k r).2 ≠ 0) : chooseU k (putU k u) r = (u, 0) := by
  have pr : pickU 1 (getU k r) = false := by unfold pickU; rw [decide_eq_false hr]; rfl
  have pu : pickU 0 (u, 0) = true := by simp [pickU, eu]
  unfold chooseU
  rw [getU_putU k u hu, pr, pu, if_pos (show true = true ∧ (false = true → (getU k r).1.tx < u.tx) from ⟨rfl, fun h => by cases h⟩)]
theorem choose_second (k : List Int) (u : UbV) (r : List Int) (hu : mayU u = true) (eu : u.tx % 2 = 1) (hr : (getU k r).2 ≠ 0) : chooseU k r (putU k u) = (u, 0) := by
  have pr : pickU 0 (getU k r) = false := by unfold pickU; rw [decide_eq_false hr]; rfl
  have pu : pickU 1 (u, 0) = true := by simp [pickU, eu]
  unfold chooseU
  rw [getU_putU k u hu, pr, pu, if_neg (show ¬ (false = true ∧ (true = true → u.tx < (getU k r).1.tx)) from fun h => by cases h.1), if_pos rfl]
theorem choose_none (k : List Int) (r s : List Int) (hr : pickU 0 (getU k r) = false) (hs : pickU 1 (getU k s) = false) : chooseU k r s = (zeroUb, 8) := by
  unfold chooseU
  rw [hr, hs, if_neg (fun h => by cases h.1), if_neg (fun h => by cases h)]
theorem pick_bad {s : Int} {g : UbV × Int} (h : g.2 ≠ 0) : pickU s g = false := by unfold pickU; rw [decide_eq_false h]; rfl
theorem pick_other {s : Int} {g : UbV × Int} (h : g.1.tx % 2 ≠ s) : pickU s g = false := by unfold pickU; rw [decide_eq_false h]; simp
end Go.Proofs.YtocdjaenhllemaaDoor
