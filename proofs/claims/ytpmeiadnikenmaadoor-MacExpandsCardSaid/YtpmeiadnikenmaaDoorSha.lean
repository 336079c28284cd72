/-
  SHA-256, plainly: a block's numbers, its rounds, the state behind it.
-/
import Derived.Test.YtpmeiadnikenmaaDoorBv
namespace Go.Proofs.YtpmeiadnikenmaaDoor
open Go.RowKit

/-- 32 bits turned by n places towards the higher ones. -/
def rotn (x : BitVec 32) (n : Int) : BitVec 32 := x.rotateLeft (n % 32).toNat
def rot3 (x : BitVec 32) (a b c : Int) : BitVec 32 := rotn x (-a) ^^^ rotn x (-b) ^^^ rotn x (-c)
def rot2 (x : BitVec 32) (a b : Int) (c : Nat) : BitVec 32 := rotn x (-a) ^^^ rotn x (-b) ^^^ (x >>> c)

/-- Word i of a block's bytes. -/
def wordAt (b : List Int) (i : Nat) : BitVec 32 := BitVec.ofNat 32 (num ((b.drop (4 * i)).take 4)).toNat
/-- The number that comes behind those of l, of a block's bytes b. -/
def nextW (b : List Int) (l : List (BitVec 32)) : BitVec 32 :=
  if l.length < 16 then wordAt b l.length
  else l.getD (l.length - 16) 0 + rot2 (l.getD (l.length - 15) 0) 7 18 3 + l.getD (l.length - 7) 0 + rot2 (l.getD (l.length - 2) 0) 17 19 10
def sch (b : List Int) : Nat → List (BitVec 32)
  | 0 => []
  | n + 1 => sch b n ++ [nextW b (sch b n)]
theorem sch_length (b : List Int) (n : Nat) : (sch b n).length = n := by
  induction n with
  | zero => rfl
  | succ n ih => simp [sch, ih]
/-- One round. -/
def round (k w : BitVec 32) (x : List (BitVec 32)) : List (BitVec 32) :=
  match x with
  | [a, b, c, d, e, f, g, h] =>
    let t1 := h + rot3 e 6 11 25 + (e &&& f ||| ~~~e &&& g) + k + w
    let t2 := rot3 a 2 13 22 + (a &&& b ||| a &&& c ||| b &&& c)
    [t1 + t2, a, b, c, d + t1, e, f, g]
  | _ => []
def rounds (ks ws : List (BitVec 32)) : Nat → List (BitVec 32) → List (BitVec 32)
  | 0, x => x
  | n + 1, x => round (ks.getD n 0) (ws.getD n 0) (rounds ks ws n x)
/-- The state behind a block. -/
def blockS (ks : List (BitVec 32)) (s : List (BitVec 32)) (b : List Int) : List (BitVec 32) := List.zipWith (· + ·) (rounds ks (sch b 64) 64 s) s

theorem take_set_same {α : Type} (l : List α) (i : Nat) (x : α) (h : i < l.length) : (l.set i x).take (i + 1) = l.take i ++ [x] := by
  rw [List.take_succ_eq_append_getElem (by simpa using h)]
  simp [List.take_set_of_le]
theorem getD_take {α : Type} (l : List α) (i j : Nat) (d : α) (h : j < i) : (l.take i).getD j d = l.getD j d := by
  simp [List.getD, h]
theorem num4_bound (b : List Int) (h : Byt b) (i : Nat) : 0 ≤ num ((b.drop (4 * i)).take 4) ∧ num ((b.drop (4 * i)).take 4) < 4294967296 := by
  have hy : Byt ((b.drop (4 * i)).take 4) := fun z hz => h z (List.mem_of_mem_drop (List.mem_of_mem_take hz))
  have h1 := num_bound _ hy
  have h2 : ((b.drop (4 * i)).take 4).length ≤ 4 := List.length_take_le _ _
  have h3 : (256 : Int) ^ ((b.drop (4 * i)).take 4).length ≤ 256 ^ 4 := by
    have : ((256 ^ ((b.drop (4 * i)).take 4).length : Nat) : Int) ≤ ((256 ^ 4 : Nat) : Int) := Int.ofNat_le.2 (Nat.pow_le_pow_right (by decide) h2)
    simpa using this
  have h4 : (256 : Int) ^ 4 = 4294967296 := by decide
  omega
theorem wordAt_wv (b : List Int) (h : Byt b) (i : Nat) : num ((b.drop (4 * i)).take 4) = wv (wordAt b i) := by
  obtain ⟨h0, h1⟩ := num4_bound b h i
  unfold wv wordAt
  rw [BitVec.toNat_ofNat, Nat.mod_eq_of_lt (by omega)]
  omega
end Go.Proofs.YtpmeiadnikenmaaDoor
