/-
  Plain facts: what the reference's columns are for its two rows of numbers.
-/
import Derived.Test.YtfgdddejpdjllaaDoorRCol
namespace Go.Proofs.YtfgdddejpdjllaaDoor
set_option maxRecDepth 4000
open Go.RowKit

theorem gm2 : ∀ x, gm 2 x = dbl x := by decide +kernel
theorem gm3 : ∀ x, gm 3 x = dbl x ^^^ x := by decide +kernel
theorem gm14 : ∀ x, gm 14 x = dbl (dbl (dbl x)) ^^^ (dbl (dbl x) ^^^ dbl x) := by decide +kernel
theorem gm11 : ∀ x, gm 11 x = dbl (dbl (dbl x)) ^^^ (dbl x ^^^ x) := by decide +kernel
theorem gm13 : ∀ x, gm 13 x = dbl (dbl (dbl x)) ^^^ (dbl (dbl x) ^^^ x) := by decide +kernel
theorem gm9 : ∀ x, gm 9 x = dbl (dbl (dbl x)) ^^^ x := by decide +kernel
theorem xor_nil (x : BitVec 8) : x ^^^ (0 : BitVec 8) = x := BitVec.xor_zero
/-- A byte of a column, of four products. -/
def col1 (g0 g1 g2 g3 a b c d : BitVec 8) : BitVec 8 := 0 ^^^ gm g0 a ^^^ gm g1 b ^^^ gm g2 c ^^^ gm g3 d
def col4 (g0 g1 g2 g3 a b c d : BitVec 8) : List (BitVec 8) := [col1 g0 g1 g2 g3 a b c d, col1 g0 g1 g2 g3 b c d a, col1 g0 g1 g2 g3 c d a b, col1 g0 g1 g2 g3 d a b c]
theorem colB_on4 (g0 g1 g2 g3 : BitVec 8) (x : List (BitVec 8)) (hx : x.length = 16) : colB [g0, g1, g2, g3] x = on4 (col4 g0 g1 g2 g3) x := by
  obtain ⟨a0, a1, a2, a3, a4, a5, a6, a7, a8, a9, a10, a11, a12, a13, a14, a15, rfl⟩ := sixteen x hx
  simp only [colB, colF, colP, on4, col4, col1, show List.range 16 = [0, 1, 2, 3, 4, 5, 6, 7, 8, 9, 10, 11, 12, 13, 14, 15] from rfl, List.map]
  rfl
theorem col_seal (a b c d : BitVec 8) : col4 2 3 1 1 a b c d = mixC a b c d := by
  unfold col4 col1 mixC mixY
  simp only [gm2, gm3, gm_one', dbl_add]
  generalize dbl a = a1, dbl b = b1, dbl c = c1, dbl d = d1
  simp only [BitVec.xor_assoc, BitVec.xor_comm, xor_lc, BitVec.xor_self, xor_cancel, xor_nil, BitVec.xor_zero]
theorem colB_seal (x : List (BitVec 8)) (hx : x.length = 16) : colB [2, 3, 1, 1] x = mixB x := by
  rw [colB_on4 _ _ _ _ x hx, mixB_on4 x hx]
  obtain ⟨a0, a1, a2, a3, a4, a5, a6, a7, a8, a9, a10, a11, a12, a13, a14, a15, rfl⟩ := sixteen x hx
  simp only [on4, col_seal]
theorem col_open (a b c d : BitVec 8) : col4 14 11 13 9 a b c d = mixC (a ^^^ dbl (dbl (a ^^^ c))) (b ^^^ dbl (dbl (b ^^^ d))) (c ^^^ dbl (dbl (c ^^^ a))) (d ^^^ dbl (dbl (d ^^^ b))) := by
  unfold col4 col1 mixC mixY
  simp only [gm14, gm11, gm13, gm9, dbl_add]
  generalize dbl (dbl (dbl a)) = a3, dbl (dbl (dbl b)) = b3, dbl (dbl (dbl c)) = c3, dbl (dbl (dbl d)) = d3
  generalize dbl (dbl a) = a2, dbl (dbl b) = b2, dbl (dbl c) = c2, dbl (dbl d) = d2
  generalize dbl a = a1, dbl b = b1, dbl c = c1, dbl d = d1
  simp only [BitVec.xor_assoc, BitVec.xor_comm, xor_lc, BitVec.xor_self, xor_cancel, xor_nil, BitVec.xor_zero]
theorem colB_open (x : List (BitVec 8)) (hx : x.length = 16) : colB [14, 11, 13, 9] x = unmixB x := by
  rw [colB_on4 _ _ _ _ x hx, unmixB, mixB_two x hx]
  obtain ⟨a0, a1, a2, a3, a4, a5, a6, a7, a8, a9, a10, a11, a12, a13, a14, a15, rfl⟩ := sixteen x hx
  rw [mixB_on4 _ (by simp [on4, mixD])]
  simp only [on4, mixD, List.cons_append, List.nil_append, col_open]
end Go.Proofs.YtfgdddejpdjllaaDoor
