/-
  The code: words: a key's round keys, word by word.
-/
import Derived.Test.YtbnclmlbennhaaaYStep
import Derived.Test.YtbnclmlbennhaaaKeyT
import Derived.Deep.Cut
namespace Go.Proofs.Ytbnclmlbennhaaa
set_option maxRecDepth 4000
open Go.RowKit

theorem ybound_ok (n lim : Nat) (c : BoundsCode) (h : n ≤ lim) (w : World) : (Instr.sliceBound (.int .i64 (n : Int)) lim c).run Try.prog w = .ok n w := by
  have : (n : Int) ≤ (lim : Int) := by omega
  simp [Instr.sliceBound, asIntOf, this]
/-- Four bytes from place o on, written over. -/
def put4 (M : List (BitVec 8)) (o : Nat) (a b c d : BitVec 8) : List (BitVec 8) := (((M.set o a).set (o + 1) b).set (o + 2) c).set (o + 3) d
theorem put4_length (M : List (BitVec 8)) (o : Nat) (a b c d : BitVec 8) : (put4 M o a b c d).length = M.length := by simp [put4]
theorem put4_below (M : List (BitVec 8)) (o j : Nat) (a b c d : BitVec 8) (h : j < o) : (put4 M o a b c d).getD j 0 = M.getD j 0 := by
  unfold put4
  simp only [List.getD, List.getElem?_set]
  rw [if_neg (by omega), if_neg (by omega), if_neg (by omega), if_neg (by omega)]
theorem put4_at (M : List (BitVec 8)) (o j : Nat) (a b c d : BitVec 8) (hM : o + 4 ≤ M.length) (h : j < 4) : (put4 M o a b c d).getD (o + j) 0 = [a, b, c, d].getD j 0 := by
  unfold put4
  simp only [List.getD, List.getElem?_set, List.length_set]
  match j, h with
  | 0, _ => rw [if_neg (by omega), if_neg (by omega), if_neg (by omega), if_pos (by omega), if_pos (by omega)]; rfl
  | 1, _ => rw [if_neg (by omega), if_neg (by omega), if_pos (by omega), if_pos (by omega)]; rfl
  | 2, _ => rw [if_neg (by omega), if_pos (by omega), if_pos (by omega)]; rfl
  | 3, _ => rw [if_pos (by omega), if_pos (by omega)]; rfl
theorem ArrY.put4 {w : World} {g t : Nat} {M : List (BitVec 8)} (h : ArrY w g t M) (o : Nat) (a b c d : BitVec 8) :
    ArrY ((((w.setCell ⟨g, o, none⟩ (.int .u8 (yv a))).setCell ⟨g, o + 1, none⟩ (.int .u8 (yv b))).setCell ⟨g, o + 2, none⟩ (.int .u8 (yv c))).setCell ⟨g, o + 3, none⟩ (.int .u8 (yv d))) g t (put4 M o a b c d) :=
  (((h.set o a).set (o + 1) b).set (o + 2) c).set (o + 3) d
theorem below_put4 {B : Nat} {a w : World} (h : Below B a w) {g : Nat} (hg : B ≤ g) (o : Nat) (v0 v1 v2 v3 : Value) :
    Below B a ((((w.setCell ⟨g, o, none⟩ v0).setCell ⟨g, o + 1, none⟩ v1).setCell ⟨g, o + 2, none⟩ v2).setCell ⟨g, o + 3, none⟩ v3) :=
  (((h.setCell (p := ⟨g, o, none⟩) hg v0).setCell (p := ⟨g, o + 1, none⟩) hg v1).setCell (p := ⟨g, o + 2, none⟩) hg v2).setCell (p := ⟨g, o + 3, none⟩) hg v3
theorem setF_at4 (o : Nat) (f : Nat → BitVec 8) (l : List (BitVec 8)) (r n : Nat) (hl : o + n ≤ l.length) (hr : r < n) : (setF (fun t => o + t) (fun t => f (o + t)) n l).getD (o + r) 0 = f (o + r) := by
  induction n with
  | zero => omega
  | succ n ih =>
    unfold setF
    by_cases h : r = n
    · subst h
      simp [List.getD, setF_length, show o + r < l.length by omega]
    · have := ih (by omega) (by omega)
      simp only [List.getD, List.getElem?_set] at this ⊢
      rw [if_neg (by omega)]
      exact this
theorem step_four (w : List (BitVec 8)) (i : Nat) : ∃ s0 s1 s2 s3, stepW w i = [s0, s1, s2, s3] := four4 _ (stepW_length w i)

end Go.Proofs.Ytbnclmlbennhaaa
