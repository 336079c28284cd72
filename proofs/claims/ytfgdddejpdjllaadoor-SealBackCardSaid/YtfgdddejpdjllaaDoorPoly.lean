/-
  Plain facts: the product of two bytes by definition: polynomials' product, and its rest.
-/
import Derived.Test.YtfgdddejpdjllaaDoorAes0
import Derived.Test.YtfgdddejpdjllaaDoorLow
namespace Go.Proofs.YtfgdddejpdjllaaDoor
set_option maxRecDepth 4000
open Go.RowKit

def bI (b : Bool) : Int := if b then 1 else 0
theorem bI_step (p x y : Bool) : bits BinOp.xor IntKind.u8 (bI p) (bI x * bI y) = bI (p ^^ (x && y)) := by revert p x y; decide +kernel
theorem bI_flip (p : Bool) : bits BinOp.xor IntKind.u8 (bI p) 1 = bI (p ^^ true) := by revert p; decide +kernel
theorem bI_bit (b : Bool) : 0 ≤ bI b ∧ bI b ≤ 1 := by cases b <;> decide
/-- A polynomial's coefficients. -/
def pv (P : BitVec 16) : List Int := (List.range 15).map fun i => bI (P.getLsbD i)
def bl (c : BitVec 8) : List Int := (List.range 8).map fun i => bI (c.getLsbD i)
theorem pv_length (P : BitVec 16) : (pv P).length = 15 := by simp [pv]
theorem pv_at (P : BitVec 16) (k : Nat) (h : k < 15) : ((pv P).map (Value.int .u8))[k]? = some (.int .u8 (bI (P.getLsbD k))) := by simp [pv, h]
theorem pv_zero : (pv 0).map (Value.int .u8) = List.replicate 15 (.int .u8 0) := by kernel_rfl
def tp (n : Nat) : BitVec 16 := BitVec.twoPow 16 n
theorem pv_set (P : BitVec 16) (n : Nat) (c : Bool) (h : n < 15) : ((pv P).map (Value.int .u8)).set n (.int .u8 (bI (P.getLsbD n ^^ c))) = (pv (P ^^^ (if c then tp n else 0))).map (Value.int .u8) := by
  apply List.ext_getElem
  · simp [pv]
  · intro j h1 h2
    have hj : j < 15 := by simpa [pv] using h2
    rw [List.getElem_set]
    simp only [pv, List.getElem_map, List.getElem_range]
    by_cases e : n = j
    · subst e
      rw [if_pos rfl]
      cases c <;> simp [tp, show n < 16 by omega]
    · rw [if_neg e]
      cases c <;> simp [tp, BitVec.getLsbD_twoPow, e]
theorem bl_bits : ∀ a : BitVec 8, bitsI (yv a) 8 = bl a := by decide +kernel
theorem bl_of : ∀ a : BitVec 8, ofI (bl a) = yv a := by decide +kernel
theorem bl_at (a : BitVec 8) (k : Nat) (h : k < 8) : ((bl a).map (Value.int .u8))[k]? = some (.int .u8 (bI (a.getLsbD k))) := by simp [bl, h]
theorem pv_take (P : BitVec 16) : (pv P).take 8 = bl (P.setWidth 8) := by
  apply List.ext_getElem
  · simp [pv, bl]
  · intro j h1 h2
    have hj : j < 8 := by simpa [bl] using h2
    simp [pv, bl, BitVec.getLsbD_setWidth, hj]
/-- t steps of the product. -/
def mulP (a b : BitVec 8) : Nat → BitVec 16
  | 0 => 0
  | t + 1 => mulP a b t ^^^ (if a.getLsbD (t / 8) && b.getLsbD (t % 8) then tp (t / 8 + t % 8) else 0)
/-- What the rest's number turns, from place o on, j of five. -/
def partP (o : Nat) : Nat → BitVec 16
  | 0 => 0
  | 1 => tp (o + 8)
  | 2 => tp (o + 8) ^^^ tp (o + 4)
  | 3 => tp (o + 8) ^^^ tp (o + 4) ^^^ tp (o + 3)
  | 4 => tp (o + 8) ^^^ tp (o + 4) ^^^ tp (o + 3) ^^^ tp (o + 1)
  | _ => tp (o + 8) ^^^ tp (o + 4) ^^^ tp (o + 3) ^^^ tp (o + 1) ^^^ tp o
def redP (P : BitVec 16) : Nat → BitVec 16
  | 0 => P
  | n + 1 => redP P n ^^^ (if (redP P n).getLsbD (14 - n) then partP (6 - n) 5 else 0)
def rt (a b : BitVec 8) : BitVec 8 := (redP (mulP a b 64) 7).setWidth 8
theorem xor_swap16 (a b c d : BitVec 16) : (a ^^^ b) ^^^ (c ^^^ d) = (a ^^^ c) ^^^ (b ^^^ d) := by
  simp only [BitVec.xor_assoc]; rw [← BitVec.xor_assoc b c d, BitVec.xor_comm b c, BitVec.xor_assoc]
theorem mulP_addl (a a' b : BitVec 8) (t : Nat) : mulP (a ^^^ a') b t = mulP a b t ^^^ mulP a' b t := by
  induction t with
  | zero => simp [mulP]
  | succ t ih =>
    unfold mulP
    rw [ih, xor_swap16, BitVec.getLsbD_xor]
    congr 1
    cases a.getLsbD (t / 8) <;> cases a'.getLsbD (t / 8) <;> cases b.getLsbD (t % 8) <;> simp
theorem mulP_addr (a b b' : BitVec 8) (t : Nat) : mulP a (b ^^^ b') t = mulP a b t ^^^ mulP a b' t := by
  induction t with
  | zero => simp [mulP]
  | succ t ih =>
    unfold mulP
    rw [ih, xor_swap16, BitVec.getLsbD_xor]
    congr 1
    cases a.getLsbD (t / 8) <;> cases b.getLsbD (t % 8) <;> cases b'.getLsbD (t % 8) <;> simp
theorem redP_add (P Q : BitVec 16) (n : Nat) : redP (P ^^^ Q) n = redP P n ^^^ redP Q n := by
  induction n with
  | zero => rfl
  | succ n ih =>
    unfold redP
    rw [ih, xor_swap16, BitVec.getLsbD_xor]
    congr 1
    cases (redP P n).getLsbD (14 - n) <;> cases (redP Q n).getLsbD (14 - n) <;> simp
theorem rt_addl (a a' b : BitVec 8) : rt (a ^^^ a') b = rt a b ^^^ rt a' b := by unfold rt; rw [mulP_addl, redP_add, BitVec.setWidth_xor]
theorem rt_addr (a b b' : BitVec 8) : rt a (b ^^^ b') = rt a b ^^^ rt a b' := by unfold rt; rw [mulP_addr, redP_add, BitVec.setWidth_xor]
theorem rt_basis : ∀ i, i < 8 → ∀ j, j < 8 → rt (pw i) (pw j) = gm (pw i) (pw j) := by decide +kernel
theorem rt_eq (a b : BitVec 8) : rt a b = gm a b :=
  add_ext (fun b => rt a b) (fun b => gm a b) (fun x y => rt_addr a x y) (fun x y => gm_addr a x y)
    (fun j hj => add_ext (fun a => rt a (pw j)) (fun a => gm a (pw j)) (fun x y => rt_addl x y _) (fun x y => gm_addl x y _) (fun i hi => rt_basis i hi j hj) a) b
end Go.Proofs.YtfgdddejpdjllaaDoor
