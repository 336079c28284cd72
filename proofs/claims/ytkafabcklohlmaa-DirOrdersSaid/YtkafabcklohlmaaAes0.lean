/-
  Gf: Plain facts: bytes as BitVec 8; their product modulo x^8 + x^4 + x^3 + x + 1; the box; blocks of sixteen, their rounds.
  Blk: Plain facts: blocks of sixteen bytes, what a round does with them and what undoes it; a key's round keys; a block sealed and opened.
  KeyT: A key's round keys, byte by byte.
  YMem: Rows of bytes in memory, held as BitVec 8.
  YSmall: The code on bytes alone: double, Times, Box, Unbox; origin.
  YSum: The code on blocks, a round's parts: summed, boxed, unboxed, turned, unturned.
  YTurn: The code on blocks: turned, unturned.
  YMix: The code on blocks: mixed, unmixed.
  YWord: The code: unmixed; words of a key: boxedWord, stepped.
  YStep: The code: stepped: what a word is summed of, beside the one eight ahead.
  YKeys: The code: words: a key's round keys, word by word.
  YRounds: The code: Rounds: a key's round keys.
  YSeal: The code: Seal and Open.
  YLaid: What a law's arguments give the walks: bytes, and rows of bytes by value.
-/
import Derived.Test.YtkafabcklohlmaaLow
import Derived.Test.YtkafabcklohlmaaRows
import Derived.WalkKit
import Derived.WalkSpells
import Derived.WalkLawsBesides
import Derived.Lib.Hide
import Derived.Laws.Tables
import Derived.Laws.Rows
import Derived.Maps.AppendAt
import Derived.OwnWalk
import Derived.Deep.MidRow
import Derived.Deep.QuietTactic
import Derived.BigQuiet
import Derived.BigRegion
import Derived.IntWalk
import Derived.WalkSmall
import Derived.Deep.RegionHeld3
import Derived.Deep.RegionLaw
import Derived.Laws.CopyOwn
import Derived.Deep.Cut
import Derived.ProofKit
import Derived.LaidMore
import Derived.OpenShut
import Derived.Stop.Joined
import Derived.ChangeOld
import Derived.Below
namespace Go.Proofs.Ytkafabcklohlmaa
set_option maxRecDepth 4000
open Go.RowKit

/-- A byte as the number that the model holds: a name of its own, that the walk doesn't open. -/
def yv (b : BitVec 8) : Int := b.toNat
theorem yv_pos (b : BitVec 8) : 0 ≤ yv b := by unfold yv; omega
theorem yv_lt (b : BitVec 8) : yv b < 256 := by unfold yv; have := b.isLt; omega
theorem yv_le (b : BitVec 8) : yv b ≤ 255 := by have := yv_lt b; omega
theorem yv_of (x : Int) (h0 : 0 ≤ x) (h1 : x ≤ 255) : ∃ b, x = yv b := ⟨BitVec.ofNat 8 x.toNat, by unfold yv; rw [BitVec.toNat_ofNat, Nat.mod_eq_of_lt (by omega)]; omega⟩
theorem yv_inj (a b : BitVec 8) : yv a = yv b ↔ a = b := by
  unfold yv; constructor
  · intro h; exact BitVec.eq_of_toNat_eq (by omega)
  · intro h; rw [h]
theorem yv_zero (b : BitVec 8) : yv b = 0 ↔ b = 0 := yv_inj b 0
theorem ybits_xor (k : IntKind) (a b : Nat) : bits BinOp.xor k (a : Int) (b : Int) = k.wrap (((a % 2 ^ k.bits) ^^^ (b % 2 ^ k.bits) : Nat) : Int) := by
  simp only [bits, ofInt_nat, BitVec.toNat_xor, BitVec.toNat_ofNat]
theorem ybits_and (k : IntKind) (a b : Nat) : bits BinOp.and k (a : Int) (b : Int) = k.wrap (((a % 2 ^ k.bits) &&& (b % 2 ^ k.bits) : Nat) : Int) := by
  simp only [bits, ofInt_nat, BitVec.toNat_and, BitVec.toNat_ofNat]
theorem mod8 (b : BitVec 8) : b.toNat % 2 ^ 8 = b.toNat := Nat.mod_eq_of_lt b.isLt
theorem yv_xor (a b : BitVec 8) : bits BinOp.xor IntKind.u8 (yv a) (yv b) = yv (a ^^^ b) := by
  have e : IntKind.u8.bits = 8 := rfl
  unfold yv
  rw [ybits_xor, e, mod8, mod8, ← BitVec.toNat_xor]
  exact wrap_u8_of _ (a ^^^ b).isLt
theorem yv_or (a b : BitVec 8) : bits BinOp.or IntKind.u8 (yv a) (yv b) = yv (a ||| b) := by
  have e : IntKind.u8.bits = 8 := rfl
  unfold yv
  rw [bits_nat_or, e, mod8, mod8, ← BitVec.toNat_or]
  exact wrap_u8_of _ (a ||| b).isLt
theorem yv_and (a b : BitVec 8) : bits BinOp.and IntKind.u8 (yv a) (yv b) = yv (a &&& b) := by
  have e : IntKind.u8.bits = 8 := rfl
  unfold yv
  rw [ybits_and, e, mod8, mod8, ← BitVec.toNat_and]
  exact wrap_u8_of _ (a &&& b).isLt
theorem yv_and1 (b : BitVec 8) : bits BinOp.and IntKind.u8 (yv b) 1 = yv (b &&& 1) := yv_and b 1
theorem yv_shr (a : BitVec 8) (k : Nat) : yv a / 2 ^ k = yv (a >>> k) := by
  unfold yv
  rw [BitVec.toNat_ushiftRight, Nat.shiftRight_eq_div_pow]; simp
theorem yv_shl (a : BitVec 8) (k : Nat) : IntKind.u8.wrap (yv a * 2 ^ k) = yv (a <<< k) := by
  unfold yv
  rw [BitVec.toNat_shiftLeft, Nat.shiftLeft_eq, IntKind.wrap_u8]; simp
theorem yv_half (a : BitVec 8) : yv a / (2 : Int) = yv (a >>> 1) := yv_shr a 1

/-- The product of a byte and 2. -/
def dbl (x : BitVec 8) : BitVec 8 := (x <<< 1) ^^^ (if x.getLsbD 7 then 0x1b else 0)
set_option maxRecDepth 100000 in
theorem dbl_eq : ∀ b : BitVec 8, bits BinOp.xor IntKind.u8 (yv b * 2 % 256) (yv b / 128 * 27) = yv (dbl b) := by decide +kernel
theorem xor_swap (a b c d : BitVec 8) : (a ^^^ b) ^^^ (c ^^^ d) = (a ^^^ c) ^^^ (b ^^^ d) := by
  simp only [BitVec.xor_assoc]; rw [← BitVec.xor_assoc b c d, BitVec.xor_comm b c, BitVec.xor_assoc]
theorem dbl_add (a b : BitVec 8) : dbl (a ^^^ b) = dbl a ^^^ dbl b := by
  unfold dbl
  rw [xor_swap, show (a ^^^ b) <<< 1 = (a <<< 1) ^^^ (b <<< 1) from BitVec.shiftLeft_xor_distrib .., BitVec.getLsbD_xor]
  congr 1
  cases a.getLsbD 7 <;> cases b.getLsbD 7 <;> simp
/-- n rounds of a product. -/
def gmN : Nat → BitVec 8 → BitVec 8 → BitVec 8
  | 0, _, _ => 0
  | n + 1, a, b => (if b.getLsbD 0 then a else 0) ^^^ gmN n (dbl a) (b >>> 1)
def gm (a b : BitVec 8) : BitVec 8 := gmN 8 a b
theorem gmN_zero (n : Nat) : ∀ a, gmN n a 0 = 0 := by
  induction n with
  | zero => intro a; rfl
  | succ n ih => intro a; unfold gmN; rw [show (0 : BitVec 8) >>> 1 = 0 from rfl, ih]; simp
theorem gmN_addr (n : Nat) : ∀ a b c, gmN n a (b ^^^ c) = gmN n a b ^^^ gmN n a c := by
  induction n with
  | zero => intro a b c; simp [gmN]
  | succ n ih =>
    intro a b c
    unfold gmN
    rw [show (b ^^^ c) >>> 1 = (b >>> 1) ^^^ (c >>> 1) from BitVec.ushiftRight_xor_distrib .., ih, xor_swap]
    congr 1
    rw [BitVec.getLsbD_xor]
    cases b.getLsbD 0 <;> cases c.getLsbD 0 <;> simp
theorem gmN_addl (n : Nat) : ∀ a b c, gmN n (a ^^^ b) c = gmN n a c ^^^ gmN n b c := by
  induction n with
  | zero => intro a b c; simp [gmN]
  | succ n ih =>
    intro a b c
    unfold gmN
    rw [dbl_add, ih, xor_swap]
    congr 1
    cases c.getLsbD 0 <;> simp
theorem gm_addr (a b c : BitVec 8) : gm a (b ^^^ c) = gm a b ^^^ gm a c := gmN_addr 8 a b c
theorem gm_addl (a b c : BitVec 8) : gm (a ^^^ b) c = gm a c ^^^ gm b c := gmN_addl 8 a b c
/-- Two additive functions that agree on the eight powers of 2 agree. -/
def pw (i : Nat) : BitVec 8 := 1 <<< i
def tm (x : BitVec 8) (i : Nat) : BitVec 8 := if x.getLsbD i then pw i else 0
theorem bits_sum (x : BitVec 8) : x = tm x 0 ^^^ (tm x 1 ^^^ (tm x 2 ^^^ (tm x 3 ^^^ (tm x 4 ^^^ (tm x 5 ^^^ (tm x 6 ^^^ tm x 7)))))) := by
  revert x
  decide +kernel
theorem add_zero (f : BitVec 8 → BitVec 8) (hf : ∀ x y, f (x ^^^ y) = f x ^^^ f y) : f 0 = 0 := by
  have := hf 0 0
  rw [show (0 : BitVec 8) ^^^ 0 = 0 from rfl, BitVec.xor_self] at this
  exact this
theorem add_split (f : BitVec 8 → BitVec 8) (hf : ∀ x y, f (x ^^^ y) = f x ^^^ f y) (x : BitVec 8) :
    f x = f (tm x 0) ^^^ (f (tm x 1) ^^^ (f (tm x 2) ^^^ (f (tm x 3) ^^^ (f (tm x 4) ^^^ (f (tm x 5) ^^^ (f (tm x 6) ^^^ f (tm x 7))))))) := by
  have h := congrArg f (bits_sum x)
  generalize tm x 0 = a0, tm x 1 = a1, tm x 2 = a2, tm x 3 = a3, tm x 4 = a4, tm x 5 = a5, tm x 6 = a6, tm x 7 = a7 at *
  rw [h, hf, hf, hf, hf, hf, hf, hf]
theorem add_ext (f g : BitVec 8 → BitVec 8) (hf : ∀ x y, f (x ^^^ y) = f x ^^^ f y) (hg : ∀ x y, g (x ^^^ y) = g x ^^^ g y) (h : ∀ i, i < 8 → f (pw i) = g (pw i)) (x : BitVec 8) : f x = g x := by
  have f0 := add_zero f hf
  have g0 := add_zero g hg
  have key : ∀ i, i < 8 → f (tm x i) = g (tm x i) := by
    intro i hi
    unfold tm
    cases x.getLsbD i
    · simp only [Bool.false_eq_true, if_false]; rw [f0, g0]
    · simp only [if_true]; exact h i hi
  rw [add_split f hf, add_split g hg, key 0 (by decide), key 1 (by decide), key 2 (by decide), key 3 (by decide), key 4 (by decide), key 5 (by decide), key 6 (by decide), key 7 (by decide)]
theorem gm_basis : ∀ i, i < 8 → ∀ j, j < 8 → gm (pw i) (pw j) = gm (pw j) (pw i) := by decide +kernel
theorem gm_comm (a b : BitVec 8) : gm a b = gm b a :=
  add_ext (fun b => gm a b) (fun b => gm b a) (fun x y => gm_addr a x y) (fun x y => gm_addl x y a)
    (fun j hj => add_ext (fun a => gm a (pw j)) (fun a => gm (pw j) a) (fun x y => gm_addl x y _) (fun x y => gm_addr _ x y) (fun i hi => gm_basis i hi j hj) a) b
theorem gm_basis3 : ∀ i, i < 8 → ∀ j, j < 8 → ∀ k, k < 8 → gm (pw i) (gm (pw j) (pw k)) = gm (gm (pw i) (pw j)) (pw k) := by decide +kernel
theorem gm_assoc (a b c : BitVec 8) : gm a (gm b c) = gm (gm a b) c :=
  add_ext (fun c => gm a (gm b c)) (fun c => gm (gm a b) c) (fun x y => by simp only [gm_addr]) (fun x y => gm_addr _ x y)
    (fun k hk => add_ext (fun b => gm a (gm b (pw k))) (fun b => gm (gm a b) (pw k)) (fun x y => by simp only [gm_addr, gm_addl]) (fun x y => by simp only [gm_addr, gm_addl])
      (fun j hj => add_ext (fun a => gm a (gm (pw j) (pw k))) (fun a => gm (gm a (pw j)) (pw k)) (fun x y => gm_addl x y _) (fun x y => by simp only [gm_addl])
        (fun i hi => gm_basis3 i hi j hj k hk) a) b) c
theorem gm_one : ∀ a, gm a 1 = a := by decide +kernel
theorem gm_nil (a : BitVec 8) : gm a 0 = 0 := gmN_zero 8 a
theorem gm_one' (a : BitVec 8) : gm 1 a = a := by rw [gm_comm]; exact gm_one a
theorem gm_nil' (a : BitVec 8) : gm 0 a = 0 := by rw [gm_comm]; exact gm_nil a
/-- The n-th power. -/
def gpow (a : BitVec 8) : Nat → BitVec 8
  | 0 => 1
  | n + 1 => gm (gpow a n) a
theorem gpow_add (a : BitVec 8) (m n : Nat) : gpow a (m + n) = gm (gpow a m) (gpow a n) := by
  induction n with
  | zero => rw [Nat.add_zero, gpow, gm_one]
  | succ n ih => rw [← Nat.add_assoc, gpow, ih, gpow, gm_assoc]
theorem gpow_one (a : BitVec 8) : gpow a 1 = a := gm_one' a
def sq (a : BitVec 8) : BitVec 8 := gm a a
theorem gpow_two (a : BitVec 8) (n : Nat) : gpow a (n + n) = sq (gpow a n) := gpow_add a n n
/-- The 254th power: of 2, 4, 8 .. 128. -/
def ginv (a : BitVec 8) : BitVec 8 :=
  let a2 := sq a; let a4 := sq a2; let a8 := sq a4; let a16 := sq a8; let a32 := sq a16; let a64 := sq a32; let a128 := sq a64
  gm a128 (gm a64 (gm a32 (gm a16 (gm a8 (gm a4 a2)))))
theorem gpow_254 (a : BitVec 8) : gpow a 254 = ginv a := by
  have h2 : gpow a 2 = sq a := by show gpow a (1 + 1) = _; rw [gpow_two, gpow_one]
  have h4 : gpow a 4 = sq (sq a) := by show gpow a (2 + 2) = _; rw [gpow_two, h2]
  have h8 : gpow a 8 = sq (sq (sq a)) := by show gpow a (4 + 4) = _; rw [gpow_two, h4]
  have h16 : gpow a 16 = sq (sq (sq (sq a))) := by show gpow a (8 + 8) = _; rw [gpow_two, h8]
  have h32 : gpow a 32 = sq (sq (sq (sq (sq a)))) := by show gpow a (16 + 16) = _; rw [gpow_two, h16]
  have h64 : gpow a 64 = sq (sq (sq (sq (sq (sq a))))) := by show gpow a (32 + 32) = _; rw [gpow_two, h32]
  have h128 : gpow a 128 = sq (sq (sq (sq (sq (sq (sq a)))))) := by show gpow a (64 + 64) = _; rw [gpow_two, h64]
  show gpow a (128 + (64 + (32 + (16 + (8 + (4 + 2)))))) = _
  rw [gpow_add, gpow_add, gpow_add, gpow_add, gpow_add, gpow_add, h2, h4, h8, h16, h32, h64, h128]
  rfl
theorem ginv_mul : ∀ a, a ≠ 0 → gm a (ginv a) = 1 := by decide +kernel
theorem ginv_nil : ginv 0 = 0 := by decide +kernel
theorem gm_eq_nil (a b : BitVec 8) : gm a b = 0 ↔ a = 0 ∨ b = 0 := by
  constructor
  · intro h
    by_cases ha : a = 0
    · exact .inl ha
    · refine .inr ?_
      have := ginv_mul a ha
      rw [← gm_one' b, ← this, gm_comm a, ← gm_assoc, h, gm_nil]
  · rintro (rfl | rfl)
    · exact gm_nil' b
    · exact gm_nil a
theorem ginv_unique (a b : BitVec 8) (h : gm a b = 1) : b = ginv a := by
  have ha : a ≠ 0 := by
    rintro rfl
    rw [gm_nil'] at h
    exact absurd h (by decide)
  rw [← gm_one' b, ← ginv_mul a ha, gm_comm a, ← gm_assoc, h, gm_one]

/-- The box, as the program's text has it. -/
def boxesL : List (BitVec 8) := [
  0x63, 0x7c, 0x77, 0x7b, 0xf2, 0x6b, 0x6f, 0xc5, 0x30, 0x01, 0x67, 0x2b, 0xfe, 0xd7, 0xab, 0x76,
  0xca, 0x82, 0xc9, 0x7d, 0xfa, 0x59, 0x47, 0xf0, 0xad, 0xd4, 0xa2, 0xaf, 0x9c, 0xa4, 0x72, 0xc0,
  0xb7, 0xfd, 0x93, 0x26, 0x36, 0x3f, 0xf7, 0xcc, 0x34, 0xa5, 0xe5, 0xf1, 0x71, 0xd8, 0x31, 0x15,
  0x04, 0xc7, 0x23, 0xc3, 0x18, 0x96, 0x05, 0x9a, 0x07, 0x12, 0x80, 0xe2, 0xeb, 0x27, 0xb2, 0x75,
  0x09, 0x83, 0x2c, 0x1a, 0x1b, 0x6e, 0x5a, 0xa0, 0x52, 0x3b, 0xd6, 0xb3, 0x29, 0xe3, 0x2f, 0x84,
  0x53, 0xd1, 0x00, 0xed, 0x20, 0xfc, 0xb1, 0x5b, 0x6a, 0xcb, 0xbe, 0x39, 0x4a, 0x4c, 0x58, 0xcf,
  0xd0, 0xef, 0xaa, 0xfb, 0x43, 0x4d, 0x33, 0x85, 0x45, 0xf9, 0x02, 0x7f, 0x50, 0x3c, 0x9f, 0xa8,
  0x51, 0xa3, 0x40, 0x8f, 0x92, 0x9d, 0x38, 0xf5, 0xbc, 0xb6, 0xda, 0x21, 0x10, 0xff, 0xf3, 0xd2,
  0xcd, 0x0c, 0x13, 0xec, 0x5f, 0x97, 0x44, 0x17, 0xc4, 0xa7, 0x7e, 0x3d, 0x64, 0x5d, 0x19, 0x73,
  0x60, 0x81, 0x4f, 0xdc, 0x22, 0x2a, 0x90, 0x88, 0x46, 0xee, 0xb8, 0x14, 0xde, 0x5e, 0x0b, 0xdb,
  0xe0, 0x32, 0x3a, 0x0a, 0x49, 0x06, 0x24, 0x5c, 0xc2, 0xd3, 0xac, 0x62, 0x91, 0x95, 0xe4, 0x79,
  0xe7, 0xc8, 0x37, 0x6d, 0x8d, 0xd5, 0x4e, 0xa9, 0x6c, 0x56, 0xf4, 0xea, 0x65, 0x7a, 0xae, 0x08,
  0xba, 0x78, 0x25, 0x2e, 0x1c, 0xa6, 0xb4, 0xc6, 0xe8, 0xdd, 0x74, 0x1f, 0x4b, 0xbd, 0x8b, 0x8a,
  0x70, 0x3e, 0xb5, 0x66, 0x48, 0x03, 0xf6, 0x0e, 0x61, 0x35, 0x57, 0xb9, 0x86, 0xc1, 0x1d, 0x9e,
  0xe1, 0xf8, 0x98, 0x11, 0x69, 0xd9, 0x8e, 0x94, 0x9b, 0x1e, 0x87, 0xe9, 0xce, 0x55, 0x28, 0xdf,
  0x8c, 0xa1, 0x89, 0x0d, 0xbf, 0xe6, 0x42, 0x68, 0x41, 0x99, 0x2d, 0x0f, 0xb0, 0x54, 0xbb, 0x16]
def unboxesL : List (BitVec 8) := [
  0x52, 0x09, 0x6a, 0xd5, 0x30, 0x36, 0xa5, 0x38, 0xbf, 0x40, 0xa3, 0x9e, 0x81, 0xf3, 0xd7, 0xfb,
  0x7c, 0xe3, 0x39, 0x82, 0x9b, 0x2f, 0xff, 0x87, 0x34, 0x8e, 0x43, 0x44, 0xc4, 0xde, 0xe9, 0xcb,
  0x54, 0x7b, 0x94, 0x32, 0xa6, 0xc2, 0x23, 0x3d, 0xee, 0x4c, 0x95, 0x0b, 0x42, 0xfa, 0xc3, 0x4e,
  0x08, 0x2e, 0xa1, 0x66, 0x28, 0xd9, 0x24, 0xb2, 0x76, 0x5b, 0xa2, 0x49, 0x6d, 0x8b, 0xd1, 0x25,
  0x72, 0xf8, 0xf6, 0x64, 0x86, 0x68, 0x98, 0x16, 0xd4, 0xa4, 0x5c, 0xcc, 0x5d, 0x65, 0xb6, 0x92,
  0x6c, 0x70, 0x48, 0x50, 0xfd, 0xed, 0xb9, 0xda, 0x5e, 0x15, 0x46, 0x57, 0xa7, 0x8d, 0x9d, 0x84,
  0x90, 0xd8, 0xab, 0x00, 0x8c, 0xbc, 0xd3, 0x0a, 0xf7, 0xe4, 0x58, 0x05, 0xb8, 0xb3, 0x45, 0x06,
  0xd0, 0x2c, 0x1e, 0x8f, 0xca, 0x3f, 0x0f, 0x02, 0xc1, 0xaf, 0xbd, 0x03, 0x01, 0x13, 0x8a, 0x6b,
  0x3a, 0x91, 0x11, 0x41, 0x4f, 0x67, 0xdc, 0xea, 0x97, 0xf2, 0xcf, 0xce, 0xf0, 0xb4, 0xe6, 0x73,
  0x96, 0xac, 0x74, 0x22, 0xe7, 0xad, 0x35, 0x85, 0xe2, 0xf9, 0x37, 0xe8, 0x1c, 0x75, 0xdf, 0x6e,
  0x47, 0xf1, 0x1a, 0x71, 0x1d, 0x29, 0xc5, 0x89, 0x6f, 0xb7, 0x62, 0x0e, 0xaa, 0x18, 0xbe, 0x1b,
  0xfc, 0x56, 0x3e, 0x4b, 0xc6, 0xd2, 0x79, 0x20, 0x9a, 0xdb, 0xc0, 0xfe, 0x78, 0xcd, 0x5a, 0xf4,
  0x1f, 0xdd, 0xa8, 0x33, 0x88, 0x07, 0xc7, 0x31, 0xb1, 0x12, 0x10, 0x59, 0x27, 0x80, 0xec, 0x5f,
  0x60, 0x51, 0x7f, 0xa9, 0x19, 0xb5, 0x4a, 0x0d, 0x2d, 0xe5, 0x7a, 0x9f, 0x93, 0xc9, 0x9c, 0xef,
  0xa0, 0xe0, 0x3b, 0x4d, 0xae, 0x2a, 0xf5, 0xb0, 0xc8, 0xeb, 0xbb, 0x3c, 0x83, 0x53, 0x99, 0x61,
  0x17, 0x2b, 0x04, 0x7e, 0xba, 0x77, 0xd6, 0x26, 0xe1, 0x69, 0x14, 0x63, 0x55, 0x21, 0x0c, 0x7d]
def sbox (b : BitVec 8) : BitVec 8 := boxesL.getD b.toNat 0
def ubox (b : BitVec 8) : BitVec 8 := unboxesL.getD b.toNat 0
theorem ubox_sbox : ∀ b, ubox (sbox b) = b := by decide +kernel
theorem sbox_ubox : ∀ b, sbox (ubox b) = b := by decide +kernel
theorem sbox_inj (a b : BitVec 8) : sbox a = sbox b ↔ a = b := ⟨fun h => by rw [← ubox_sbox a, h, ubox_sbox], fun h => by rw [h]⟩
theorem sbox_ne : ∀ b, sbox b ≠ b ∧ sbox b ≠ ~~~b := by decide +kernel
/-- The box, as the page tells it. -/
def affine (x : BitVec 8) : BitVec 8 := x ^^^ (x <<< 1 ||| x >>> 7) ^^^ (x <<< 2 ||| x >>> 6) ^^^ (x <<< 3 ||| x >>> 5) ^^^ (x <<< 4 ||| x >>> 4) ^^^ 0x63
theorem sbox_affine : ∀ b, sbox b = affine (ginv b) := by decide +kernel
end Go.Proofs.Ytkafabcklohlmaa
namespace Go.Proofs.Ytkafabcklohlmaa
set_option maxRecDepth 4000
open Go.RowKit

/-- k writes, one behind the other: at place p i what f i is. -/
def setF {α : Type} (p : Nat → Nat) (f : Nat → α) : Nat → List α → List α
  | 0, l => l
  | k + 1, l => (setF p f k l).set (p k) (f k)
theorem setF_length {α : Type} (p : Nat → Nat) (f : Nat → α) (k : Nat) (l : List α) : (setF p f k l).length = l.length := by
  induction k with
  | zero => rfl
  | succ k ih => rw [setF, List.length_set, ih]
theorem setF_other {α : Type} (p : Nat → Nat) (f : Nat → α) (l : List α) (i : Nat) (d : α) : ∀ k, (∀ j, j < k → p j ≠ i) → (setF p f k l).getD i d = l.getD i d := by
  intro k
  induction k with
  | zero => intro _; rfl
  | succ k ih =>
    intro h
    have := h k (by omega)
    rw [← ih fun j hj => h j (by omega), setF]
    simp [List.getD, this]
theorem setF_id {α : Type} (f : Nat → α) (l : List α) (k : Nat) (d : α) : (setF id f k l).getD k d = l.getD k d := setF_other id f l k d k fun j hj => by simp; omega
/-- A part of a row, written over. -/
def putL {α : Type} (M : List α) (o : Nat) (v : List α) : List α := M.take o ++ v ++ M.drop (o + v.length)
theorem putL_length {α : Type} (M : List α) (o : Nat) (v : List α) (h : o + v.length ≤ M.length) : (putL M o v).length = M.length := by
  simp [putL]; omega
theorem putL_set {α : Type} (M : List α) (o : Nat) (v : List α) (j : Nat) (x : α) (h : o + v.length ≤ M.length) (hj : j < v.length) : (putL M o v).set (o + j) x = putL M o (v.set j x) := by
  have e : (M.take o).length = o := by simp; omega
  unfold putL
  rw [List.length_set, List.append_assoc, List.append_assoc, List.set_append_right _ _ (by omega), e, show o + j - o = j by omega, List.set_append_left _ _ hj]
theorem putL_cons {α : Type} (M : List α) (o : Nat) (y : α) (ys : List α) (h : o < M.length) : putL (M.set o y) (o + 1) ys = putL M o (y :: ys) := by
  unfold putL
  rw [List.take_succ_eq_append_getElem (by simpa using h), List.getElem_set_self, List.take_set_of_le (Nat.le_refl _), List.drop_set_of_lt (by omega), List.length_cons, show o + 1 + ys.length = o + (ys.length + 1) by omega]
  simp
theorem putL_take {α : Type} (M : List α) (o : Nat) (v : List α) (h : o ≤ M.length) : (putL M o v).take (o + v.length) = M.take o ++ v := by
  unfold putL
  rw [List.take_append_of_le_length (by simp; omega), List.take_of_length_le (by simp; omega)]

def zeroY (n : Nat) : List (BitVec 8) := List.replicate n 0
/-- The sum of two blocks. -/
def sumB (a b : List (BitVec 8)) : List (BitVec 8) := List.zipWith (· ^^^ ·) a b
def boxB (x : List (BitVec 8)) : List (BitVec 8) := x.map sbox
def unboxB (x : List (BitVec 8)) : List (BitVec 8) := x.map ubox
/-- Where byte i comes from as rows are turned. -/
def org (i : Nat) : Nat := (i + i % 4 * 4) % 16
def turnB (x : List (BitVec 8)) : List (BitVec 8) := (List.range 16).map fun i => x.getD (org i) 0
def unturnB (x : List (BitVec 8)) : List (BitVec 8) := setF org (fun i => x.getD i 0) 16 (zeroY 16)
/-- A byte of a column made of all the column's. -/
def mixY (all here next : BitVec 8) : BitVec 8 := here ^^^ all ^^^ dbl (here ^^^ next)
def mixAt (x : List (BitVec 8)) (c i : Nat) : BitVec 8 :=
  mixY (x.getD c 0 ^^^ x.getD (c + 1) 0 ^^^ x.getD (c + 2) 0 ^^^ x.getD (c + 3) 0) (x.getD (c + i) 0) (x.getD (c + (i + 1) % 4) 0)
def mixB (x : List (BitVec 8)) : List (BitVec 8) := (List.range 16).map fun k => mixAt x (4 * (k / 4)) (k % 4)
def unmixB (x : List (BitVec 8)) : List (BitVec 8) := mixB (mixB (mixB x))

theorem sumB_length (a b : List (BitVec 8)) (n : Nat) (ha : a.length = n) (hb : b.length = n) : (sumB a b).length = n := by simp [sumB, ha, hb]
theorem boxB_length (x : List (BitVec 8)) : (boxB x).length = x.length := by simp [boxB]
theorem unboxB_length (x : List (BitVec 8)) : (unboxB x).length = x.length := by simp [unboxB]
theorem turnB_length (x : List (BitVec 8)) : (turnB x).length = 16 := by simp [turnB]
theorem unturnB_length (x : List (BitVec 8)) : (unturnB x).length = 16 := by simp [unturnB, setF_length, zeroY]
theorem mixB_length (x : List (BitVec 8)) : (mixB x).length = 16 := by simp [mixB]
theorem unmixB_length (x : List (BitVec 8)) : (unmixB x).length = 16 := mixB_length _
theorem sixteen {α : Type} (x : List α) (h : x.length = 16) : ∃ a0 a1 a2 a3 a4 a5 a6 a7 a8 a9 a10 a11 a12 a13 a14 a15, x = [a0, a1, a2, a3, a4, a5, a6, a7, a8, a9, a10, a11, a12, a13, a14, a15] := by
  match x, h with
  | [a0, a1, a2, a3, a4, a5, a6, a7, a8, a9, a10, a11, a12, a13, a14, a15], _ => exact ⟨_, _, _, _, _, _, _, _, _, _, _, _, _, _, _, _, rfl⟩

/- What the loops write. -/
theorem setF_sum (a b : List (BitVec 8)) (ha : a.length = 16) (hb : b.length = 16) : setF id (fun i => a.getD i 0 ^^^ b.getD i 0) 16 a = sumB a b := by
  obtain ⟨a0, a1, a2, a3, a4, a5, a6, a7, a8, a9, a10, a11, a12, a13, a14, a15, rfl⟩ := sixteen a ha
  obtain ⟨b0, b1, b2, b3, b4, b5, b6, b7, b8, b9, b10, b11, b12, b13, b14, b15, rfl⟩ := sixteen b hb
  rfl
theorem setF_box (f : BitVec 8 → BitVec 8) (a : List (BitVec 8)) (ha : a.length = 16) : setF id (fun i => f (a.getD i 0)) 16 a = a.map f := by
  obtain ⟨a0, a1, a2, a3, a4, a5, a6, a7, a8, a9, a10, a11, a12, a13, a14, a15, rfl⟩ := sixteen a ha
  rfl
theorem setF_map (f : Nat → BitVec 8) : setF id f 16 (zeroY 16) = (List.range 16).map f := by rfl

/- What undoes it. -/
theorem sumB_self (a b : List (BitVec 8)) (ha : a.length = 16) (hb : b.length = 16) : sumB (sumB a b) b = a := by
  obtain ⟨a0, a1, a2, a3, a4, a5, a6, a7, a8, a9, a10, a11, a12, a13, a14, a15, rfl⟩ := sixteen a ha
  obtain ⟨b0, b1, b2, b3, b4, b5, b6, b7, b8, b9, b10, b11, b12, b13, b14, b15, rfl⟩ := sixteen b hb
  have e : ∀ x y : BitVec 8, x ^^^ y ^^^ y = x := fun x y => by rw [BitVec.xor_assoc, BitVec.xor_self, BitVec.xor_zero]
  simp only [sumB, List.zipWith, e]
theorem unboxB_boxB (x : List (BitVec 8)) : unboxB (boxB x) = x := by
  unfold unboxB boxB; rw [List.map_map]
  exact (List.map_congr_left fun a _ => ubox_sbox a).trans (List.map_id x)
theorem boxB_unboxB (x : List (BitVec 8)) : boxB (unboxB x) = x := by
  unfold unboxB boxB; rw [List.map_map]
  exact (List.map_congr_left fun a _ => sbox_ubox a).trans (List.map_id x)
theorem unturn_eq (a0 a1 a2 a3 a4 a5 a6 a7 a8 a9 a10 a11 a12 a13 a14 a15 : BitVec 8) : unturnB [a0, a1, a2, a3, a4, a5, a6, a7, a8, a9, a10, a11, a12, a13, a14, a15] = [a0, a13, a10, a7, a4, a1, a14, a11, a8, a5, a2, a15, a12, a9, a6, a3] := by
  simp [unturnB, setF, org, zeroY, List.replicate]
theorem turn_eq (a0 a1 a2 a3 a4 a5 a6 a7 a8 a9 a10 a11 a12 a13 a14 a15 : BitVec 8) : turnB [a0, a1, a2, a3, a4, a5, a6, a7, a8, a9, a10, a11, a12, a13, a14, a15] = [a0, a5, a10, a15, a4, a9, a14, a3, a8, a13, a2, a7, a12, a1, a6, a11] := by
  simp [turnB, org, List.range_succ]
theorem turnB_unturnB (a : List (BitVec 8)) (ha : a.length = 16) : turnB (unturnB a) = a := by
  obtain ⟨a0, a1, a2, a3, a4, a5, a6, a7, a8, a9, a10, a11, a12, a13, a14, a15, rfl⟩ := sixteen a ha
  rw [unturn_eq, turn_eq]
theorem unturnB_turnB (a : List (BitVec 8)) (ha : a.length = 16) : unturnB (turnB a) = a := by
  obtain ⟨a0, a1, a2, a3, a4, a5, a6, a7, a8, a9, a10, a11, a12, a13, a14, a15, rfl⟩ := sixteen a ha
  rw [turn_eq, unturn_eq]
theorem xor_lc (a b c : BitVec 8) : a ^^^ (b ^^^ c) = b ^^^ (a ^^^ c) := by rw [← BitVec.xor_assoc, BitVec.xor_comm a b, BitVec.xor_assoc]
theorem xor_cancel (a b : BitVec 8) : a ^^^ (a ^^^ b) = b := by rw [← BitVec.xor_assoc, BitVec.xor_self, BitVec.zero_xor]
/-- A column mixed, byte by byte. -/
def mixC (a b c d : BitVec 8) : List (BitVec 8) := [mixY (a ^^^ b ^^^ c ^^^ d) a b, mixY (a ^^^ b ^^^ c ^^^ d) b c, mixY (a ^^^ b ^^^ c ^^^ d) c d, mixY (a ^^^ b ^^^ c ^^^ d) d a]
/-- Mixed twice. -/
def mixD (a b c d : BitVec 8) : List (BitVec 8) := [a ^^^ dbl (dbl (a ^^^ c)), b ^^^ dbl (dbl (b ^^^ d)), c ^^^ dbl (dbl (c ^^^ a)), d ^^^ dbl (dbl (d ^^^ b))]
def on4 (f : BitVec 8 → BitVec 8 → BitVec 8 → BitVec 8 → List (BitVec 8)) : List (BitVec 8) → List (BitVec 8)
  | [a0, a1, a2, a3, a4, a5, a6, a7, a8, a9, a10, a11, a12, a13, a14, a15] => f a0 a1 a2 a3 ++ f a4 a5 a6 a7 ++ f a8 a9 a10 a11 ++ f a12 a13 a14 a15
  | _ => []
theorem mixB_on4 (a : List (BitVec 8)) (ha : a.length = 16) : mixB a = on4 mixC a := by
  obtain ⟨a0, a1, a2, a3, a4, a5, a6, a7, a8, a9, a10, a11, a12, a13, a14, a15, rfl⟩ := sixteen a ha
  rfl
theorem mixC_twice (a b c d : BitVec 8) : mixC (mixY (a ^^^ b ^^^ c ^^^ d) a b) (mixY (a ^^^ b ^^^ c ^^^ d) b c) (mixY (a ^^^ b ^^^ c ^^^ d) c d) (mixY (a ^^^ b ^^^ c ^^^ d) d a) = mixD a b c d := by
  unfold mixC mixD mixY
  simp only [dbl_add]
  generalize dbl (dbl a) = a2, dbl (dbl b) = b2, dbl (dbl c) = c2, dbl (dbl d) = d2
  generalize dbl a = a1, dbl b = b1, dbl c = c1, dbl d = d1
  simp only [BitVec.xor_assoc, BitVec.xor_comm, xor_lc, BitVec.xor_self, xor_cancel, BitVec.xor_zero]
theorem mixD_twice (a b c d : BitVec 8) : mixD (a ^^^ dbl (dbl (a ^^^ c))) (b ^^^ dbl (dbl (b ^^^ d))) (c ^^^ dbl (dbl (c ^^^ a))) (d ^^^ dbl (dbl (d ^^^ b))) = [a, b, c, d] := by
  unfold mixD
  simp only [dbl_add]
  generalize dbl (dbl (dbl (dbl a))) = a4, dbl (dbl (dbl (dbl b))) = b4, dbl (dbl (dbl (dbl c))) = c4, dbl (dbl (dbl (dbl d))) = d4
  generalize dbl (dbl a) = a2, dbl (dbl b) = b2, dbl (dbl c) = c2, dbl (dbl d) = d2
  simp only [BitVec.xor_assoc, BitVec.xor_comm, xor_lc, BitVec.xor_self, xor_cancel, BitVec.xor_zero]
theorem mixB_two (a : List (BitVec 8)) (ha : a.length = 16) : mixB (mixB a) = on4 mixD a := by
  rw [mixB_on4 _ (mixB_length a), mixB_on4 _ ha]
  obtain ⟨a0, a1, a2, a3, a4, a5, a6, a7, a8, a9, a10, a11, a12, a13, a14, a15, rfl⟩ := sixteen a ha
  show mixC _ _ _ _ ++ mixC _ _ _ _ ++ mixC _ _ _ _ ++ mixC _ _ _ _ = mixD _ _ _ _ ++ mixD _ _ _ _ ++ mixD _ _ _ _ ++ mixD _ _ _ _
  rw [mixC_twice, mixC_twice, mixC_twice, mixC_twice]
theorem mixB_four (a : List (BitVec 8)) (ha : a.length = 16) : mixB (mixB (mixB (mixB a))) = a := by
  rw [mixB_two _ (mixB_length _), mixB_two _ ha]
  obtain ⟨a0, a1, a2, a3, a4, a5, a6, a7, a8, a9, a10, a11, a12, a13, a14, a15, rfl⟩ := sixteen a ha
  show mixD _ _ _ _ ++ mixD _ _ _ _ ++ mixD _ _ _ _ ++ mixD _ _ _ _ = _
  rw [mixD_twice, mixD_twice, mixD_twice, mixD_twice]; rfl

/-- What word i is summed of, beside the one eight ahead. -/
def stepW (w : List (BitVec 8)) (i : Nat) : List (BitVec 8) :=
  if i % 8 = 0 then [sbox (w.getD 1 0) ^^^ pw (i / 8 - 1), sbox (w.getD 2 0), sbox (w.getD 3 0), sbox (w.getD 0 0)]
  else if i % 8 = 4 then [sbox (w.getD 0 0), sbox (w.getD 1 0), sbox (w.getD 2 0), sbox (w.getD 3 0)]
  else [w.getD 0 0, w.getD 1 0, w.getD 2 0, w.getD 3 0]
def wordL (l : List (BitVec 8)) (i : Nat) : List (BitVec 8) := (l.drop (4 * i)).take 4
def nextL (l : List (BitVec 8)) (i : Nat) : List (BitVec 8) := sumB (stepW (wordL l (i - 1)) i) (wordL l (i - 8))
/-- A key's words, the first n + 8 of them. -/
def keyL (k : List (BitVec 8)) : Nat → List (BitVec 8)
  | 0 => k
  | n + 1 => keyL k n ++ nextL (keyL k n) (n + 8)
theorem stepW_length (w : List (BitVec 8)) (i : Nat) : (stepW w i).length = 4 := by unfold stepW; split <;> (try split) <;> rfl
theorem wordL_length (l : List (BitVec 8)) (i : Nat) (h : 4 * i + 4 ≤ l.length) : (wordL l i).length = 4 := by simp [wordL]; omega
theorem keyL_length (k : List (BitVec 8)) (hk : k.length = 32) (n : Nat) : (keyL k n).length = 32 + 4 * n := by
  induction n with
  | zero => exact hk
  | succ n ih =>
    rw [keyL, List.length_append, ih, nextL, sumB_length _ _ 4 (stepW_length _ _) (wordL_length _ _ (by rw [ih]; omega))]
    omega
def keysL (k : List (BitVec 8)) : List (BitVec 8) := keyL k 52
theorem keysL_length (k : List (BitVec 8)) (hk : k.length = 32) : (keysL k).length = 240 := keyL_length k hk 52
/-- Round key i. -/
def rkeyL (M : List (BitVec 8)) (i : Nat) : List (BitVec 8) := (M.drop (16 * i)).take 16
theorem rkeyL_length (M : List (BitVec 8)) (h : M.length = 240) (i : Nat) (hi : i < 15) : (rkeyL M i).length = 16 := by simp [rkeyL, h]; omega

/-- n rounds of sealing, behind the first sum. -/
def sealN (M : List (BitVec 8)) (b : List (BitVec 8)) : Nat → List (BitVec 8)
  | 0 => sumB b (rkeyL M 0)
  | n + 1 => sumB (mixB (turnB (boxB (sealN M b n)))) (rkeyL M (n + 1))
def sealB (M : List (BitVec 8)) (b : List (BitVec 8)) : List (BitVec 8) := sumB (turnB (boxB (sealN M b 13))) (rkeyL M 14)
/-- Opening: n rounds undone. -/
def openN (M : List (BitVec 8)) (b : List (BitVec 8)) : Nat → List (BitVec 8)
  | 0 => unboxB (unturnB (sumB b (rkeyL M 14)))
  | n + 1 => unboxB (unturnB (unmixB (sumB (openN M b n) (rkeyL M (13 - n)))))
def openB (M : List (BitVec 8)) (b : List (BitVec 8)) : List (BitVec 8) := sumB (openN M b 13) (rkeyL M 0)
theorem sealN_length (M b : List (BitVec 8)) (hM : M.length = 240) (hb : b.length = 16) : ∀ n, n ≤ 13 → (sealN M b n).length = 16 := by
  intro n hn
  cases n with
  | zero => exact sumB_length _ _ 16 hb (rkeyL_length M hM 0 (by omega))
  | succ n => exact sumB_length _ _ 16 (mixB_length _) (rkeyL_length M hM _ (by omega))
theorem sealB_length (M b : List (BitVec 8)) (hM : M.length = 240) : (sealB M b).length = 16 := sumB_length _ _ 16 (turnB_length _) (rkeyL_length M hM _ (by omega))
theorem openN_length (M b : List (BitVec 8)) : ∀ n, (openN M b n).length = 16 := by
  intro n
  cases n with
  | zero => rw [openN, unboxB_length, unturnB_length]
  | succ n => rw [openN, unboxB_length, unturnB_length]
theorem openB_length (M b : List (BitVec 8)) (hM : M.length = 240) : (openB M b).length = 16 := sumB_length _ _ 16 (openN_length M b 13) (rkeyL_length M hM _ (by omega))

theorem open_seal (M b : List (BitVec 8)) (hM : M.length = 240) (hb : b.length = 16) : openB M (sealB M b) = b := by
  have key : ∀ n, n ≤ 13 → openN M (sealB M b) n = sealN M b (13 - n) := by
    intro n
    induction n with
    | zero =>
      intro _
      rw [openN, sealB, sumB_self _ _ (turnB_length _) (rkeyL_length M hM _ (by omega)), unturnB_turnB _ (by rw [boxB_length]; exact sealN_length M b hM hb 13 (by omega)), unboxB_boxB]
    | succ n ih =>
      intro hn
      rw [openN, ih (by omega), show 13 - n = (13 - (n + 1)) + 1 by omega, sealN, sumB_self _ _ (mixB_length _) (rkeyL_length M hM _ (by omega)), unmixB, mixB_four _ (turnB_length _),
        unturnB_turnB _ (by rw [boxB_length]; exact sealN_length M b hM hb _ (by omega)), unboxB_boxB]
  rw [openB, key 13 (by omega)]
  exact sumB_self _ _ hb (rkeyL_length M hM 0 (by omega))
theorem seal_open (M b : List (BitVec 8)) (hM : M.length = 240) (hb : b.length = 16) : sealB M (openB M b) = b := by
  have key : ∀ n, n ≤ 13 → sealN M (openB M b) n = openN M b (13 - n) := by
    intro n
    induction n with
    | zero => intro _; rw [sealN, openB, sumB_self _ _ (openN_length M b 13) (rkeyL_length M hM 0 (by omega))]
    | succ n ih =>
      intro hn
      have e : sumB (openN M b (13 - (n + 1))) (rkeyL M (n + 1)) = mixB (turnB (boxB (openN M b (13 - n)))) := by
        rw [show 13 - n = (13 - (n + 1)) + 1 by omega, openN, boxB_unboxB, turnB_unturnB _ (unmixB_length _), unmixB, mixB_four _ (sumB_length _ _ 16 (openN_length M b _) (rkeyL_length M hM _ (by omega))), show 13 - (13 - (n + 1)) = n + 1 by omega]
      rw [sealN, ih (by omega), ← e, sumB_self _ _ (openN_length M b _) (rkeyL_length M hM _ (by omega))]
  rw [sealB, key 13 (by omega), show 13 - 13 = 0 from rfl, openN, boxB_unboxB, turnB_unturnB _ (sumB_length _ _ 16 hb (rkeyL_length M hM _ (by omega))), sumB_self _ _ hb (rkeyL_length M hM _ (by omega))]
theorem seal_inj (M a b : List (BitVec 8)) (hM : M.length = 240) (ha : a.length = 16) (hb : b.length = 16) : sealB M a = sealB M b ↔ a = b :=
  ⟨fun h => by rw [← open_seal M a hM ha, h, open_seal M b hM hb], fun h => by rw [h]⟩
/- The document's example. -/
def exK : List (BitVec 8) := (List.range 32).map fun i => BitVec.ofNat 8 i
def exB : List (BitVec 8) := (List.range 16).map fun i => BitVec.ofNat 8 (17 * i)
def exW : List (BitVec 8) := [0x8e, 0xa2, 0xb7, 0xca, 0x51, 0x67, 0x45, 0xbf, 0xea, 0xfc, 0x49, 0x90, 0x4b, 0x49, 0x60, 0x89]
set_option maxRecDepth 100000 in
theorem ex_seal : sealB (keysL exK) exB = exW := by decide +kernel
theorem exK_length : exK.length = 32 := by decide
theorem exB_length : exB.length = 16 := by decide
theorem ex_open : openB (keysL exK) exW = exB := by rw [← ex_seal]; exact open_seal _ _ (keysL_length _ exK_length) exB_length
end Go.Proofs.Ytkafabcklohlmaa
namespace Go.Proofs.Ytkafabcklohlmaa
set_option maxRecDepth 4000
open Go.RowKit

theorem getD_append_left' (l m : List (BitVec 8)) (j : Nat) (h : j < l.length) : (l ++ m).getD j 0 = l.getD j 0 := by
  simp [List.getD, List.getElem?_append_left h]
theorem getD_append_right' (l m : List (BitVec 8)) (n j : Nat) (h : l.length = n) : (l ++ m).getD (n + j) 0 = m.getD j 0 := by
  subst h
  simp [List.getD, List.getElem?_append_right]
theorem keyL_prefix (k : List (BitVec 8)) (hk : k.length = 32) (n m j : Nat) (h : j < 32 + 4 * n) : (keyL k (n + m)).getD j 0 = (keyL k n).getD j 0 := by
  induction m with
  | zero => rfl
  | succ m ih => rw [← Nat.add_assoc, keyL, getD_append_left' _ _ _ (by rw [keyL_length k hk]; omega), ih]
theorem keys_below (k : List (BitVec 8)) (hk : k.length = 32) (n j : Nat) (hn : n ≤ 52) (h : j < 32 + 4 * n) : (keysL k).getD j 0 = (keyL k n).getD j 0 := by
  have := keyL_prefix k hk n (52 - n) j h
  rwa [show n + (52 - n) = 52 by omega] at this
theorem keys_key (k : List (BitVec 8)) (hk : k.length = 32) (j : Nat) (h : j < 32) : (keysL k).getD j 0 = k.getD j 0 := keys_below k hk 0 j (by omega) (by omega)
theorem wordL_eq (l : List (BitVec 8)) (i : Nat) (h : 4 * i + 4 ≤ l.length) : wordL l i = [l.getD (4 * i) 0, l.getD (4 * i + 1) 0, l.getD (4 * i + 2) 0, l.getD (4 * i + 3) 0] := by
  apply List.ext_getElem
  · simp [wordL]; omega
  · intro j h1 h2
    have hj : j < 4 := by simpa using h2
    have : ∀ j, j < 4 → (wordL l i)[j]? = some (l.getD (4 * i + j) 0) := by
      intro j hj
      have : 4 * i + j < l.length := by omega
      simp [wordL, hj, this]
    have e := this j hj
    rw [List.getElem?_eq_getElem h1] at e
    rw [Option.some.inj e]
    match j, hj with
    | 0, _ | 1, _ | 2, _ | 3, _ => rfl
/-- The word ahead, and so on: four bytes of the round keys. -/
def tw (T : List (BitVec 8)) (i : Nat) : List (BitVec 8) := [T.getD (4 * i) 0, T.getD (4 * i + 1) 0, T.getD (4 * i + 2) 0, T.getD (4 * i + 3) 0]
theorem tw_at (T : List (BitVec 8)) (i j : Nat) (h : j < 4) : (tw T i).getD j 0 = T.getD (4 * i + j) 0 := by
  match j, h with
  | 0, _ | 1, _ | 2, _ | 3, _ => rfl
theorem keys_step (k : List (BitVec 8)) (hk : k.length = 32) (i j : Nat) (h8 : 8 ≤ i) (h60 : i < 60) (hj : j < 4) :
    (keysL k).getD (4 * i + j) 0 = (stepW (tw (keysL k) (i - 1)) i).getD j 0 ^^^ (keysL k).getD (4 * (i - 8) + j) 0 := by
  obtain ⟨n, rfl⟩ : ∃ n, i = n + 8 := ⟨i - 8, by omega⟩
  have hl := keyL_length k hk n
  have ew : ∀ p, p < n + 8 → wordL (keyL k n) p = tw (keysL k) p := by
    intro p hp
    rw [wordL_eq _ _ (by rw [hl]; omega)]
    unfold tw
    rw [keys_below k hk n (4 * p) (by omega) (by omega), keys_below k hk n (4 * p + 1) (by omega) (by omega), keys_below k hk n (4 * p + 2) (by omega) (by omega), keys_below k hk n (4 * p + 3) (by omega) (by omega)]
  rw [keys_below k hk (n + 1) _ (by omega) (by omega), keyL, show 4 * (n + 8) + j = (32 + 4 * n) + j by omega, getD_append_right' _ _ _ _ hl, nextL, ew _ (by omega), ew _ (by omega), ← tw_at _ _ _ hj]
  have h4 := stepW_length (tw (keysL k) (n + 8 - 1)) (n + 8)
  have hz : ∀ a b : List (BitVec 8), a.length = 4 → b.length = 4 → (sumB a b).getD j 0 = a.getD j 0 ^^^ b.getD j 0 := by
    intro a b ha hb
    simp [sumB, ha, hb, hj]
  exact hz _ _ h4 rfl
end Go.Proofs.Ytkafabcklohlmaa
namespace Go.Proofs.Ytkafabcklohlmaa
set_option maxRecDepth 4000
open Go.RowKit

def yvs (l : List (BitVec 8)) : Array Value := (l.map fun b => Value.int .u8 (yv b)).toArray
theorem yvs_size (l : List (BitVec 8)) : (yvs l).size = l.length := by simp [yvs]
theorem yvs_at (l : List (BitVec 8)) (k : Nat) (h : k < l.length) : (yvs l)[k]? = some (.int .u8 (yv (l.getD k 0))) := by simp [yvs, h]
theorem yvs_one (l : List (BitVec 8)) : (yvs l).all (·.oneCell') = true := by
  rw [Array.all_eq_true_iff_forall_mem]
  intro v hv
  simp only [yvs, List.mem_toArray, List.mem_map] at hv
  obtain ⟨n, _, rfl⟩ := hv
  rfl
theorem yvs_zero (n : Nat) : yvs (zeroY n) = Array.replicate n (.int .u8 0) := by
  apply Array.ext'
  simp [yvs, zeroY]; exact .inr rfl
/-- Block g is a row of type t that holds these bytes. -/
def ArrY (w : World) (g t : Nat) (l : List (BitVec 8)) : Prop := w.heap[g]? = some (.cells (yvs l) t (0, 0))
theorem ArrY.cell {w : World} {g t : Nat} {l : List (BitVec 8)} (h : ArrY w g t l) {k : Nat} (hk : k < l.length) : w.cell? ⟨g, k, none⟩ = some (.int .u8 (yv (l.getD k 0))) := by
  rw [cell_of_row w g k _ _ _ h]; exact yvs_at l k hk
theorem ArrY.free {w : World} {g t : Nat} {l : List (BitVec 8)} (h : ArrY w g t l) (k : Nat) : w.frozen? ⟨g, k, none⟩ = false := frozen_of_row w g k _ _ h
theorem ArrY.set {w : World} {g t : Nat} {l : List (BitVec 8)} (h : ArrY w g t l) (k : Nat) (v : BitVec 8) : ArrY (w.setCell ⟨g, k, none⟩ (.int .u8 (yv v))) g t (l.set k v) := by
  unfold ArrY
  rw [heap_setCell_same w g k _ _ _ h]
  congr 2
  simp only [yvs, List.setIfInBounds_toArray, List.map_set]
theorem ArrY.other {w : World} {g t : Nat} {l : List (BitVec 8)} (h : ArrY w g t l) (a : Addr) (v : Value) (hne : g ≠ a.block) : ArrY (w.setCell a v) g t l := by
  unfold ArrY
  rw [heap_setCell_other w a g v hne]; exact h
theorem ArrY.below {w' w : World} {g t B : Nat} {l : List (BitVec 8)} (h : ArrY w g t l) (hb : Below B w w') (hg : g < B) : ArrY w' g t l := (hb.block g hg).trans h
theorem ArrY.range {w : World} {g t : Nat} {l : List (BitVec 8)} (h : ArrY w g t l) (o n : Nat) : w.rangeAt g o (yvs ((l.drop o).take n)).toList := by
  intro j v hv
  rw [cell_of_row w g (o + j) _ _ _ h]
  have hj : j < ((l.drop o).take n).length := by
    have := (List.getElem?_eq_some_iff.1 hv).1
    simpa [yvs] using this
  rw [Array.getElem?_toList, yvs_at _ _ hj] at hv
  have h2 : o + j < l.length := by simp at hj; omega
  rw [yvs_at _ _ h2, ← hv]
  congr 3
  simp at hj
  simp [List.getD, hj, h2]
theorem ArrY.all {w : World} {g t : Nat} {l : List (BitVec 8)} (h : ArrY w g t l) : w.rangeAt g 0 (yvs l).toList := fun j v hv => by
  rw [cell_of_row w g (0 + j) _ _ _ h, Nat.zero_add, ← Array.getElem?_toList]; exact hv
theorem ArrY.there {w : World} {g t : Nat} {l : List (BitVec 8)} (h : ArrY w g t l) (o n : Nat) (hn : o + n ≤ l.length) : w.there g o n := fun j hj => ⟨by rw [h.cell (k := o + j) (by omega)]; rfl, h.free _⟩
theorem ArrY.put (t : Nat) (g : Nat) (ys : List (BitVec 8)) : ∀ (o : Nat) (l : List (BitVec 8)) (w : World), ArrY w g t l → o + ys.length ≤ l.length → ArrY (w.setCells g o (yvs ys).toList) g t (putL l o ys) := by
  induction ys with
  | nil => intro o l w h _; simpa [yvs, putL, World.setCells] using h
  | cons y ys ih =>
    intro o l w h hl
    simp only [List.length_cons] at hl
    rw [← putL_cons l o y ys (by omega)]
    exact ih (o + 1) _ _ (h.set o y) (by rw [List.length_set]; omega)
theorem below_setCells {B : Nat} {a : World} {g : Nat} (hg : B ≤ g) : ∀ (vs : List Value) (o : Nat) (w : World), Below B a w → Below B a (w.setCells g o vs)
  | [], _, _, h => h
  | v :: vs, o, _, h => below_setCells hg vs (o + 1) _ (h.setCell (p := ⟨g, o, none⟩) hg v)

/-- An index into an array that is held by value. -/
theorem yindex_agg {P : Program} (T E : TypeId) (n : Nat) (cs : Array Value) (k : Nat) (v : Value) (i0 : TypeInfo) (d : TypeDesc) (hu : P.underlying T = some (.array n E)) (hE : P.underlying E = some d)
    (hd : (match d with | .struct _ | .array _ _ => true | _ => false) = false) (hi : P.info? E = some i0) (hs : i0.size = 1) (hk : k < n) (hv : cs[k]? = some v) (w : World) :
    (Instr.index T (.agg cs) (.int .i64 (k : Int))).run P w = .ok v w := by
  have hagg : (isAgg E).run P w = .ok false w := by
    unfold isAgg
    rw [Sem.run_bind, run_underlying hE w]
    cases d <;> simp_all
  have hpart : (part E cs k).run P w = .ok v w := by
    unfold part
    rw [Sem.run_bind, hagg]
    simp [hv]
  simp [Instr.index, asIntOf, run_underlying hu, hk, sizeOf, typeInfo, hi, hs, hpart]
theorem yone : (Try.prog.info? 5).map (·.size) = some 1 := by kernel_rfl
theorem ytwo (w : World) (A B : Obj) : ((w.alloc A).alloc B).heap[w.heap.size]? = some A ∧ ((w.alloc A).alloc B).heap[w.heap.size + 1]? = some B ∧ ((w.alloc A).alloc B).heap.size = w.heap.size + 2 ∧ Below w.heap.size w ((w.alloc A).alloc B) := by
  refine ⟨?_, ?_, by simp, ((Below.refl w.heap.size w).alloc (Nat.le_refl _) A).alloc (by simp) B⟩
  · rw [Below.heap_alloc _ _ _ (by simp)]; exact heap_alloc_new w A
  · have := heap_alloc_new (w.alloc A) B
    simpa using this
theorem ygen2 {P : Program} {c : Code} {Q : Exit → Act → World → Prop} {a : Act} {w : World} {A B : Obj}
    (h : ∀ W0 : World, W0.heap[w.heap.size]? = some A ∧ W0.heap[w.heap.size + 1]? = some B ∧ W0.heap.size = w.heap.size + 2 ∧ Below w.heap.size w W0 → c.wp P Q a W0) :
    c.wp P Q a ((w.alloc A).alloc B) := h _ (ytwo w A B)
theorem ythree (w : World) (A B C : Obj) : (((w.alloc A).alloc B).alloc C).heap[w.heap.size]? = some A ∧ (((w.alloc A).alloc B).alloc C).heap[w.heap.size + 1]? = some B ∧
    (((w.alloc A).alloc B).alloc C).heap[w.heap.size + 1 + 1]? = some C ∧ (((w.alloc A).alloc B).alloc C).heap.size = w.heap.size + 3 ∧ Below w.heap.size w (((w.alloc A).alloc B).alloc C) := by
  refine ⟨?_, ?_, ?_, by simp, (((Below.refl w.heap.size w).alloc (Nat.le_refl _) A).alloc (by simp) B).alloc (by simp; omega) C⟩
  · rw [Below.heap_alloc _ _ _ (by simp; omega), Below.heap_alloc _ _ _ (by simp)]; exact heap_alloc_new w A
  · rw [Below.heap_alloc _ _ _ (by simp)]
    have := heap_alloc_new (w.alloc A) B
    simpa using this
  · have := heap_alloc_new ((w.alloc A).alloc B) C
    simpa using this
theorem ygen3 {P : Program} {c : Code} {Q : Exit → Act → World → Prop} {a : Act} {w : World} {A B C : Obj}
    (h : ∀ W0 : World, W0.heap[w.heap.size]? = some A ∧ W0.heap[w.heap.size + 1]? = some B ∧ W0.heap[w.heap.size + 1 + 1]? = some C ∧ W0.heap.size = w.heap.size + 3 ∧ Below w.heap.size w W0 → c.wp P Q a W0) :
    c.wp P Q a (((w.alloc A).alloc B).alloc C) := h _ (ythree w A B C)
theorem ybelow_drewN {B : Nat} {a w : World} (h : Below B a w) (n : Nat) : Below B a (w.drewN n) := ⟨h.os, h.tape, h.output, h.size, h.block⟩
/-- Behind draws the world is a letter again, with the same memory. -/
theorem ygen_drewN {P : Program} {c : Code} {Q : Exit → Act → World → Prop} {a : Act} {w : World} {n : Nat} (h : ∀ W : World, (∀ k : Nat, W.heap[k]? = w.heap[k]?) ∧ W.heap.size = w.heap.size ∧ (∀ B a, Below B a w → Below B a W) → c.wp P Q a W) : c.wp P Q a (w.drewN n) :=
  h _ ⟨fun _ => rfl, rfl, fun _ _ hb => ybelow_drewN hb n⟩
theorem ybelow_row {B : Nat} {a w : World} (h : Below B a w) {g : Nat} (hg : B ≤ g) (cs : Array Value) : Below B a (w.setRow g cs) :=
  h.trans ⟨rfl, rfl, rfl, by simp, fun k hk => setRow_other _ g k cs (by omega)⟩
/-- Nothing but draws came between. -/
def Still (w w' : World) : Prop := ∀ B, Below B w w'
theorem Still.refl (w : World) : Still w w := fun B => Below.refl B w
theorem Still.row {w w' : World} (h : Still w w') (k : Nat) : w'.heap[k]? = w.heap[k]? := (h (k + 1)).block k (by omega)
end Go.Proofs.Ytkafabcklohlmaa
namespace Go.Proofs.Ytkafabcklohlmaa
set_option maxRecDepth 4000
open Go.RowKit

theorem and_one : ∀ b : BitVec 8, bits BinOp.and IntKind.u8 (yv b) 1 = if b.getLsbD 0 then 1 else 0 := by decide +kernel
/-- A byte in a table of 256. -/
theorem index_str (s : ByteArray) (b c : BitVec 8) (h : s.data[b.toNat]? = some ⟨c⟩) (w : World) : (Instr.index 9 (.string s) (.int .u8 (yv b))).run Try.prog w = .ok (.int .u8 (yv c)) w := by
  have h0 := yv_pos b
  have e : s[(yv b).toNat]? = some ⟨c⟩ := by
    have e2 : (yv b).toNat = b.toNat := by unfold yv; simp
    rw [e2, ← h]; rfl
  simp [Instr.index, asIntOf, run_underlying Try.underlying9, h0, e]
  rfl
def byteOf (b : BitVec 8) : UInt8 := ⟨b⟩
theorem tab_at (l : List (BitVec 8)) (hl : l.length = 256) (b : BitVec 8) : (l.map byteOf).toArray[b.toNat]? = some ⟨l.getD b.toNat 0⟩ := by
  have := b.isLt
  simp [hl, byteOf, this]
theorem boxes_length : boxesL.length = 256 := by decide +kernel
theorem unboxes_length : unboxesL.length = 256 := by decide +kernel
end Go.Proofs.Ytkafabcklohlmaa
namespace Go.Proofs.Ytkafabcklohlmaa
set_option maxRecDepth 4000
open Go.RowKit

end Go.Proofs.Ytkafabcklohlmaa
namespace Go.Proofs.Ytkafabcklohlmaa
set_option maxRecDepth 4000
open Go.RowKit

end Go.Proofs.Ytkafabcklohlmaa
namespace Go.Proofs.Ytkafabcklohlmaa
set_option maxRecDepth 4000
open Go.RowKit

def mixK (a : List (BitVec 8)) (k : Nat) : BitVec 8 := mixAt a (4 * (k / 4)) (k % 4)
end Go.Proofs.Ytkafabcklohlmaa
namespace Go.Proofs.Ytkafabcklohlmaa
set_option maxRecDepth 4000
open Go.RowKit

def boxW (a : List (BitVec 8)) : List (BitVec 8) := [sbox (a.getD 0 0), sbox (a.getD 1 0), sbox (a.getD 2 0), sbox (a.getD 3 0)]
theorem four4 {α : Type} (x : List α) (h : x.length = 4) : ∃ a0 a1 a2 a3, x = [a0, a1, a2, a3] := by
  match x, h with
  | [a0, a1, a2, a3], _ => exact ⟨_, _, _, _, rfl⟩
theorem setF_boxW (a : List (BitVec 8)) (ha : a.length = 4) : setF id (fun j => sbox (a.getD j 0)) 4 a = boxW a := by
  obtain ⟨a0, a1, a2, a3, rfl⟩ := four4 a ha
  rfl
end Go.Proofs.Ytkafabcklohlmaa
namespace Go.Proofs.Ytkafabcklohlmaa
set_option maxRecDepth 4000
open Go.RowKit

def wordA (a0 a1 a2 a3 : BitVec 8) : Array Value := #[.int .u8 (yv a0), .int .u8 (yv a1), .int .u8 (yv a2), .int .u8 (yv a3)]
theorem wordA_eq (a0 a1 a2 a3 : BitVec 8) : yvs [a0, a1, a2, a3] = #[.int .u8 (yv a0), .int .u8 (yv a1), .int .u8 (yv a2), .int .u8 (yv a3)] := rfl
theorem boxW_eq (a0 a1 a2 a3 : BitVec 8) : boxW [a0, a1, a2, a3] = [sbox a0, sbox a1, sbox a2, sbox a3] := rfl
theorem pw_lift (i : Nat) (h : i < 8) : (2 : Int) ^ i % 256 = yv (pw i) := by
  match i, h with
  | 0, _ | 1, _ | 2, _ | 3, _ | 4, _ | 5, _ | 6, _ | 7, _ => rfl
end Go.Proofs.Ytkafabcklohlmaa
namespace Go.Proofs.Ytkafabcklohlmaa
set_option maxRecDepth 4000
open Go.RowKit

theorem ybound_ok (n lim : Nat) (c : BoundsCode) (h : n ≤ lim) (w : World) : (Instr.sliceBound (.int .i64 (n : Int)) lim c).run Try.prog w = .ok n w := by
  have : (n : Int) ≤ (lim : Int) := by omega
  simp [Instr.sliceBound, asIntOf, this]
/-- Four bytes from place o on, written over. -/
def put4 (M : List (BitVec 8)) (o : Nat) (a b c d : BitVec 8) : List (BitVec 8) := (((M.set o a).set (o + 1) b).set (o + 2) c).set (o + 3) d
theorem put4_length (M : List (BitVec 8)) (o : Nat) (a b c d : BitVec 8) : (put4 M o a b c d).length = M.length := by simp [put4]
theorem put4_below (M : List (BitVec 8)) (o j : Nat) (a b c d : BitVec 8) (h : j < o) : (put4 M o a b c d).getD j 0 = M.getD j 0 := by
  unfold put4
  simp only [List.getD, List.getElem?_set]
  rw [if_neg (by omega), if_neg (by omega), if_neg (by omega), if_neg (by omega)]
theorem put4_at (M : List (BitVec 8)) (o j : Nat) (a b c d : BitVec 8) (hM : o + 4 ≤ M.length) (h : j < 4) : (put4 M o a b c d).getD (o + j) 0 = [a, b, c, d].getD j 0 := by
  unfold put4
  simp only [List.getD, List.getElem?_set, List.length_set]
  match j, h with
  | 0, _ => rw [if_neg (by omega), if_neg (by omega), if_neg (by omega), if_pos (by omega), if_pos (by omega)]; rfl
  | 1, _ => rw [if_neg (by omega), if_neg (by omega), if_pos (by omega), if_pos (by omega)]; rfl
  | 2, _ => rw [if_neg (by omega), if_pos (by omega), if_pos (by omega)]; rfl
  | 3, _ => rw [if_pos (by omega), if_pos (by omega)]; rfl
theorem ArrY.put4 {w : World} {g t : Nat} {M : List (BitVec 8)} (h : ArrY w g t M) (o : Nat) (a b c d : BitVec 8) :
    ArrY ((((w.setCell ⟨g, o, none⟩ (.int .u8 (yv a))).setCell ⟨g, o + 1, none⟩ (.int .u8 (yv b))).setCell ⟨g, o + 2, none⟩ (.int .u8 (yv c))).setCell ⟨g, o + 3, none⟩ (.int .u8 (yv d))) g t (put4 M o a b c d) :=
  (((h.set o a).set (o + 1) b).set (o + 2) c).set (o + 3) d
theorem below_put4 {B : Nat} {a w : World} (h : Below B a w) {g : Nat} (hg : B ≤ g) (o : Nat) (v0 v1 v2 v3 : Value) :
    Below B a ((((w.setCell ⟨g, o, none⟩ v0).setCell ⟨g, o + 1, none⟩ v1).setCell ⟨g, o + 2, none⟩ v2).setCell ⟨g, o + 3, none⟩ v3) :=
  (((h.setCell (p := ⟨g, o, none⟩) hg v0).setCell (p := ⟨g, o + 1, none⟩) hg v1).setCell (p := ⟨g, o + 2, none⟩) hg v2).setCell (p := ⟨g, o + 3, none⟩) hg v3
theorem setF_at4 (o : Nat) (f : Nat → BitVec 8) (l : List (BitVec 8)) (r n : Nat) (hl : o + n ≤ l.length) (hr : r < n) : (setF (fun t => o + t) (fun t => f (o + t)) n l).getD (o + r) 0 = f (o + r) := by
  induction n with
  | zero => omega
  | succ n ih =>
    unfold setF
    by_cases h : r = n
    · subst h
      simp [List.getD, setF_length, show o + r < l.length by omega]
    · have := ih (by omega) (by omega)
      simp only [List.getD, List.getElem?_set] at this ⊢
      rw [if_neg (by omega)]
      exact this
theorem step_four (w : List (BitVec 8)) (i : Nat) : ∃ s0 s1 s2 s3, stepW w i = [s0, s1, s2, s3] := four4 _ (stepW_length w i)

end Go.Proofs.Ytkafabcklohlmaa
namespace Go.Proofs.Ytkafabcklohlmaa
set_option maxRecDepth 4000
open Go.RowKit

theorem ystep_copy {P : Program} {ops : Array Oper} {o : Oper} {a : Act} {w : World} {K : Act → World → Prop} {Q : Exit → Act → World → Prop} {E : Prop} (hgd : o.guard = none) (d s : Operand) (dT sT : TypeId)
    (ho : o.op = .call { callee := .builtin .copy, args := #[d, s], argTypes := #[dT, sT] }) (elem : TypeId) (hu : P.underlying dT = some (.slice elem)) (hsz : (P.info? elem).map (·.size) = some 1)
    (g off dLen dCap : Nat) (ad : Addr) (sLen sCap : Nat) (hd : a.eval d = .slice (some ⟨g, off, none⟩) dLen dCap) (hs : a.eval s = .slice (some ad) sLen sCap)
    (cur : List Value) (t : TypeId) (hg : w.heap[g]? = some (.cells cur.toArray t (0, 0))) (cs : List Value) (hn : cs.length = Nat.min sLen dLen)
    (hsrc : ∀ j v, cs[j]? = some v → w.cell? (ad.add j) = some v) (hfit : off + cs.length ≤ cur.length) (h1 : ∀ v ∈ cs, v.oneCell' = true)
    (h : K (a.put o.dst (goInt cs.length)) (w.setRow g (List.take off cur ++ (cs ++ List.drop (off + cs.length) cur)).toArray)) :
    if Region.wanted o (yielded ops a.tmps) = true then Oper.wp P o a w K Q else E := by
  have hw : Region.wanted o (yielded ops a.tmps) = true := by simp [Region.wanted, hgd]
  rw [if_pos hw]
  have hrun := run_copy_row (P := P) w dT sT o.type elem g off dLen dCap ad sLen sCap cur.toArray t cs hu hsz hg hn hsrc (by simpa using hfit) h1
  unfold Oper.wp
  simp [execOp, ho, resolve, invoke, builtin, hd, hs, hrun, Result.andThen]
  exact h
theorem put4_putL (M : List (BitVec 8)) (o : Nat) (a b c d : BitVec 8) (h : o + 4 ≤ M.length) : put4 M o a b c d = putL M o [a, b, c, d] := by
  unfold put4
  rw [← putL_cons _ _ _ _ (by omega), ← putL_cons _ _ _ _ (by simp; omega), ← putL_cons _ _ _ _ (by simp; omega), ← putL_cons _ _ _ _ (by simp; omega)]
  simp [putL]
theorem yvs_putL (M : List (BitVec 8)) (o : Nat) (ys : List (BitVec 8)) : (List.take o (yvs M).toList ++ ((yvs ys).toList ++ List.drop (o + (yvs ys).toList.length) (yvs M).toList)).toArray = yvs (putL M o ys) := by
  simp [yvs, putL, List.map_take, List.map_drop]
theorem ygen_fresh {P : Program} {c : Code} {Q : Exit → Act → World → Prop} {a : Act} {w : World} {old cs : Array Value} {T : TypeId} {B : Obj}
    (h : ∀ W : World, W.heap[w.heap.size]? = some (.cells cs T (0, 0)) ∧ W.heap[w.heap.size + 1]? = some B ∧ W.heap.size = w.heap.size + 2 ∧ Below w.heap.size w W → c.wp P Q a W) :
    c.wp P Q a (((w.alloc (.cells old T)).setRow w.heap.size cs).alloc B) := by
  have e1 := setRow_heap (w.alloc (.cells old T)) w.heap.size _ cs _ _ (heap_alloc_new w _)
  refine h _ ⟨?_, ?_, by simp, (ybelow_row ((Below.refl w.heap.size w).alloc (Nat.le_refl _) _) (Nat.le_refl _) cs).alloc (by simp) _⟩
  · rw [Below.heap_alloc _ _ _ (by simp)]; exact e1
  · have := heap_alloc_new ((w.alloc (.cells old T)).setRow w.heap.size cs) B
    simpa using this

end Go.Proofs.Ytkafabcklohlmaa
namespace Go.Proofs.Ytkafabcklohlmaa
set_option maxRecDepth 4000
open Go.RowKit

theorem get8 {α : Type} {a0 a1 a2 a3 a4 a5 a6 a7 a8 : α} : (#[a0, a1, a2, a3, a4, a5, a6, a7, a8] : Array α)[8]? = some a8 := rfl
theorem ygen_row {w : World} {old cs : Array Value} {T : TypeId} : ((w.alloc (.cells old T)).setRow w.heap.size cs).heap[w.heap.size]? = some (.cells cs T (0, 0)) ∧ ((w.alloc (.cells old T)).setRow w.heap.size cs).heap.size = w.heap.size + 1 ∧
    Below w.heap.size w ((w.alloc (.cells old T)).setRow w.heap.size cs) :=
  ⟨setRow_heap (w.alloc (.cells old T)) w.heap.size _ cs _ _ (heap_alloc_new w _), by simp, ybelow_row ((Below.refl w.heap.size w).alloc (Nat.le_refl _) _) (Nat.le_refl _) cs⟩

end Go.Proofs.Ytkafabcklohlmaa
namespace Go.Proofs.Ytkafabcklohlmaa
set_option maxRecDepth 4000
open Go.ChangeShapes Go.WideShapes Go.ChangeAt Go.RowKit

theorem own : ownKnob Try.prog.godebug = none := by kernel_rfl
theorem laidOut : laidOutB Try.prog = true := by kernel_rfl
section
variable {H : Type} {enc : TypeId × Value → H}
/-- A byte. -/
theorem byte_of {a : Int} (h : (Lit.int .u8 a).wf = true) : ∃ b, a = yv b := by
  refine yv_of a ?_ ?_ <;> simp [Lit.wf, IntKind.min, IntKind.max, IntKind.signed, IntKind.bits] at h <;> omega
/-- Bytes by value. -/
theorem open_yrow {W : World} {v : Value} {d : DataW H} {p : List MemPlace} {t n : Nat} (ht : Try.prog.underlying t = some (.array n 5)) (hct : Try.prog.cellsOf t = n) (hn : 2 ≤ n) (h : ∃ fuel, DataW.trod enc Try.prog W 0 (fun _ => true) true fuel t v.cells.toList = some (d, p)) :
    ∃ l : List (BitVec 8), v = .agg (yvs l) ∧ l.length = n := by
  obtain ⟨fuel, hf⟩ := h
  obtain ⟨xs, m, rfl, hx, hlen, hxn, hel⟩ := DataW.trod_array ht hf
  have c1 : Try.prog.cellsOf 5 = 1 := by kernel_rfl
  rw [hct] at hlen
  have hv : v = .agg v.cells := by
    cases v <;> first | rfl | (simp [Value.cells] at hlen; omega)
  have key : ∀ i, i < n → ∃ b : BitVec 8, v.cells.toList[i]? = some (.int .u8 (yv b)) := by
    intro i hi
    have h0 := hel i hi
    rw [c1, Nat.mul_one] at h0
    obtain ⟨y, hy⟩ : ∃ y, xs[i]? = some y := ⟨_, List.getElem?_eq_getElem (by omega)⟩
    rw [hy] at h0
    obtain ⟨k, e1, _, e3⟩ := DataW.trod_int Try.underlying5 h0
    have e4 := congrArg (fun l => l[0]?) e1
    obtain ⟨b, rfl⟩ := byte_of e3
    exact ⟨b, by simpa using e4⟩
  refine ⟨v.cells.toList.map (fun u => BitVec.ofNat 8 (intOf u).toNat), ?_, by rw [List.length_map]; exact hlen⟩
  have : yvs (v.cells.toList.map (fun u => BitVec.ofNat 8 (intOf u).toNat)) = v.cells := by
    unfold yvs
    rw [List.map_map]
    apply Array.ext'
    rw [List.toList_toArray]
    apply List.ext_getElem?
    intro i
    rw [List.getElem?_map]
    by_cases hi : i < n
    · obtain ⟨b, hb⟩ := key i hi
      rw [hb]
      simp [intOf, yv]
    · rw [List.getElem?_eq_none (by omega)]; rfl
  rw [this]; exact hv
end
end Go.Proofs.Ytkafabcklohlmaa
