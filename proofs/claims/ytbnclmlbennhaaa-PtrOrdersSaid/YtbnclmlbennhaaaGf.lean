/-
  Plain facts: bytes as BitVec 8; their product modulo x^8 + x^4 + x^3 + x + 1; the box; blocks of sixteen, their rounds.
-/
import Derived.Test.YtbnclmlbennhaaaMath
namespace Go.Proofs.Ytbnclmlbennhaaa
set_option maxRecDepth 4000
open Go.RowKit

/-- A byte as the number that the model holds: a name of its own, that the walk doesn't open. -/
def yv (b : BitVec 8) : Int := b.toNat
theorem yv_pos (b : BitVec 8) : 0 ≤ yv b := by unfold yv; omega
theorem yv_lt (b : BitVec 8) : yv b < 256 := by unfold yv; have := b.isLt; omega
theorem yv_le (b : BitVec 8) : yv b ≤ 255 := by have := yv_lt b; omega
theorem yv_of (x : Int) (h0 : 0 ≤ x) (h1 : x ≤ 255) : ∃ b, x = yv b := ⟨BitVec.ofNat 8 x.toNat, by unfold yv; rw [BitVec.toNat_ofNat, Nat.mod_eq_of_lt (by omega)]; omega⟩
theorem yv_inj (a b : BitVec 8) : yv a = yv b ↔ a = b := by
  unfold yv; constructor
  · intro h; exact BitVec.eq_of_toNat_eq (by omega)
  · intro h; rw [h]
theorem yv_zero (b : BitVec 8) : yv b = 0 ↔ b = 0 := yv_inj b 0
theorem ybits_xor (k : IntKind) (a b : Nat) : bits BinOp.xor k (a : Int) (b : Int) = k.wrap (((a % 2 ^ k.bits) ^^^ (b % 2 ^ k.bits) : Nat) : Int) := by
  simp only [bits, ofInt_nat, BitVec.toNat_xor, BitVec.toNat_ofNat]
theorem ybits_and (k : IntKind) (a b : Nat) : bits BinOp.and k (a : Int) (b : Int) = k.wrap (((a % 2 ^ k.bits) &&& (b % 2 ^ k.bits) : Nat) : Int) := by
  simp only [bits, ofInt_nat, BitVec.toNat_and, BitVec.toNat_ofNat]
theorem mod8 (b : BitVec 8) : b.toNat % 2 ^ 8 = b.toNat := Nat.mod_eq_of_lt b.isLt
theorem yv_xor (a b : BitVec 8) : bits BinOp.xor IntKind.u8 (yv a) (yv b) = yv (a ^^^ b) := by
  have e : IntKind.u8.bits = 8 := rfl
  unfold yv
  rw [ybits_xor, e, mod8, mod8, ← BitVec.toNat_xor]
  exact wrap_u8_of _ (a ^^^ b).isLt
theorem yv_or (a b : BitVec 8) : bits BinOp.or IntKind.u8 (yv a) (yv b) = yv (a ||| b) := by
  have e : IntKind.u8.bits = 8 := rfl
  unfold yv
  rw [bits_nat_or, e, mod8, mod8, ← BitVec.toNat_or]
  exact wrap_u8_of _ (a ||| b).isLt
theorem yv_and (a b : BitVec 8) : bits BinOp.and IntKind.u8 (yv a) (yv b) = yv (a &&& b) := by
  have e : IntKind.u8.bits = 8 := rfl
  unfold yv
  rw [ybits_and, e, mod8, mod8, ← BitVec.toNat_and]
  exact wrap_u8_of _ (a &&& b).isLt
theorem yv_and1 (b : BitVec 8) : bits BinOp.and IntKind.u8 (yv b) 1 = yv (b &&& 1) := yv_and b 1
theorem yv_shr (a : BitVec 8) (k : Nat) : yv a / 2 ^ k = yv (a >>> k) := by
  unfold yv
  rw [BitVec.toNat_ushiftRight, Nat.shiftRight_eq_div_pow]; simp
theorem yv_shl (a : BitVec 8) (k : Nat) : IntKind.u8.wrap (yv a * 2 ^ k) = yv (a <<< k) := by
  unfold yv
  rw [BitVec.toNat_shiftLeft, Nat.shiftLeft_eq, IntKind.wrap_u8]; simp
theorem yv_half (a : BitVec 8) : yv a / (2 : Int) = yv (a >>> 1) := yv_shr a 1

/-- The product of a byte and 2. -/
def dbl (x : BitVec 8) : BitVec 8 := (x <<< 1) ^^^ (if x.getLsbD 7 then 0x1b else 0)
set_option maxRecDepth 100000 in
theorem dbl_eq : ∀ b : BitVec 8, bits BinOp.xor IntKind.u8 (yv b * 2 % 256) (yv b / 128 * 27) = yv (dbl b) := by decide +kernel
theorem xor_swap (a b c d : BitVec 8) : (a ^^^ b) ^^^ (c ^^^ d) = (a ^^^ c) ^^^ (b ^^^ d) := by
  simp only [BitVec.xor_assoc]; rw [← BitVec.xor_assoc b c d, BitVec.xor_comm b c, BitVec.xor_assoc]
theorem dbl_add (a b : BitVec 8) : dbl (a ^^^ b) = dbl a ^^^ dbl b := by
  unfold dbl
  rw [xor_swap, show (a ^^^ b) <<< 1 = (a <<< 1) ^^^ (b <<< 1) from BitVec.shiftLeft_xor_distrib .., BitVec.getLsbD_xor]
  congr 1
  cases a.getLsbD 7 <;> cases b.getLsbD 7 <;> simp
/-- n rounds of a product. -/
def gmN : Nat → BitVec 8 → BitVec 8 → BitVec 8
  | 0, _, _ => 0
  | n + 1, a, b => (if b.getLsbD 0 then a else 0) ^^^ gmN n (dbl a) (b >>> 1)
def gm (a b : BitVec 8) : BitVec 8 := gmN 8 a b
theorem gmN_zero (n : Nat) : ∀ a, gmN n a 0 = 0 := by
  induction n with
  | zero => intro a; rfl
  | succ n ih => intro a; unfold gmN; rw [show (0 : BitVec 8) >>> 1 = 0 from rfl, ih]; simp
theorem gmN_addr (n : Nat) : ∀ a b c, gmN n a (b ^^^ c) = gmN n a b ^^^ gmN n a c := by
  induction n with
  | zero => intro a b c; simp [gmN]
  | succ n ih =>
    intro a b c
    unfold gmN
    rw [show (b ^^^ c) >>> 1 = (b >>> 1) ^^^ (c >>> 1) from BitVec.ushiftRight_xor_distrib .., ih, xor_swap]
    congr 1
    rw [BitVec.getLsbD_xor]
    cases b.getLsbD 0 <;> cases c.getLsbD 0 <;> simp
theorem gmN_addl (n : Nat) : ∀ a b c, gmN n (a ^^^ b) c = gmN n a c ^^^ gmN n b c := by
  induction n with
  | zero => intro a b c; simp [gmN]
  | succ n ih =>
    intro a b c
    unfold gmN
    rw [dbl_add, ih, xor_swap]
    congr 1
    cases c.getLsbD 0 <;> simp
theorem gm_addr (a b c : BitVec 8) : gm a (b ^^^ c) = gm a b ^^^ gm a c := gmN_addr 8 a b c
theorem gm_addl (a b c : BitVec 8) : gm (a ^^^ b) c = gm a c ^^^ gm b c := gmN_addl 8 a b c
/-- Two additive functions that agree on the eight powers of 2 agree. -/
def pw (i : Nat) : BitVec 8 := 1 <<< i
def tm (x : BitVec 8) (i : Nat) : BitVec 8 := if x.getLsbD i then pw i else 0
theorem bits_sum (x : BitVec 8) : x = tm x 0 ^^^ (tm x 1 ^^^ (tm x 2 ^^^ (tm x 3 ^^^ (tm x 4 ^^^ (tm x 5 ^^^ (tm x 6 ^^^ tm x 7)))))) := by
  revert x
  decide +kernel
theorem add_zero (f : BitVec 8 → BitVec 8) (hf : ∀ x y, f (x ^^^ y) = f x ^^^ f y) : f 0 = 0 := by
  have := hf 0 0
  rw [show (0 : BitVec 8) ^^^ 0 = 0 from rfl, BitVec.xor_self] at this
  exact this
theorem add_split (f : BitVec 8 → BitVec 8) (hf : ∀ x y, f (x ^^^ y) = f x ^^^ f y) (x : BitVec 8) :
    f x = f (tm x 0) ^^^ (f (tm x 1) ^^^ (f (tm x 2) ^^^ (f (tm x 3) ^^^ (f (tm x 4) ^^^ (f (tm x 5) ^^^ (f (tm x 6) ^^^ f (tm x 7))))))) := by
  have h := congrArg f (bits_sum x)
  generalize tm x 0 = a0, tm x 1 = a1, tm x 2 = a2, tm x 3 = a3, tm x 4 = a4, tm x 5 = a5, tm x 6 = a6, tm x 7 = a7 at *
  rw [h, hf, hf, hf, hf, hf, hf, hf]
theorem add_ext (f g : BitVec 8 → BitVec 8) (hf : ∀ x y, f (x ^^^ y) = f x ^^^ f y) (hg : ∀ x y, g (x ^^^ y) = g x ^^^ g y) (h : ∀ i, i < 8 → f (pw i) = g (pw i)) (x : BitVec 8) : f x = g x := by
  have f0 := add_zero f hf
  have g0 := add_zero g hg
  have key : ∀ i, i < 8 → f (tm x i) = g (tm x i) := by
    intro i hi
    unfold tm
    cases x.getLsbD i
    · simp only [Bool.false_eq_true, if_false]; rw [f0, g0]
    · simp only [if_true]; exact h i hi
  rw [add_split f hf, add_split g hg, key 0 (by decide), key 1 (by decide), key 2 (by decide), key 3 (by decide), key 4 (by decide), key 5 (by decide), key 6 (by decide), key 7 (by decide)]
theorem gm_basis : ∀ i, i < 8 → ∀ j, j < 8 → gm (pw i) (pw j) = gm (pw j) (pw i) := by decide +kernel
theorem gm_comm (a b : BitVec 8) : gm a b = gm b a :=
  add_ext (fun b => gm a b) (fun b => gm b a) (fun x y => gm_addr a x y) (fun x y => gm_addl x y a)
    (fun j hj => add_ext (fun a => gm a (pw j)) (fun a => gm (pw j) a) (fun x y => gm_addl x y _) (fun x y => gm_addr _ x y) (fun i hi => gm_basis i hi j hj) a) b
theorem gm_basis3 : ∀ i, i < 8 → ∀ j, j < 8 → ∀ k, k < 8 → gm (pw i) (gm (pw j) (pw k)) = gm (gm (pw i) (pw j)) (pw k) := by decide +kernel
theorem gm_assoc (a b c : BitVec 8) : gm a (gm b c) = gm (gm a b) c :=
  add_ext (fun c => gm a (gm b c)) (fun c => gm (gm a b) c) (fun x y => by simp only [gm_addr]) (fun x y => gm_addr _ x y)
    (fun k hk => add_ext (fun b => gm a (gm b (pw k))) (fun b => gm (gm a b) (pw k)) (fun x y => by simp only [gm_addr, gm_addl]) (fun x y => by simp only [gm_addr, gm_addl])
      (fun j hj => add_ext (fun a => gm a (gm (pw j) (pw k))) (fun a => gm (gm a (pw j)) (pw k)) (fun x y => gm_addl x y _) (fun x y => by simp only [gm_addl])
        (fun i hi => gm_basis3 i hi j hj k hk) a) b) c
theorem gm_one : ∀ a, gm a 1 = a := by decide +kernel
theorem gm_nil (a : BitVec 8) : gm a 0 = 0 := gmN_zero 8 a
theorem gm_one' (a : BitVec 8) : gm 1 a = a := by rw [gm_comm]; exact gm_one a
theorem gm_nil' (a : BitVec 8) : gm 0 a = 0 := by rw [gm_comm]; exact gm_nil a
/-- The n-th power. -/
def gpow (a : BitVec 8) : Nat → BitVec 8
  | 0 => 1
  | n + 1 => gm (gpow a n) a
theorem gpow_add (a : BitVec 8) (m n : Nat) : gpow a (m + n) = gm (gpow a m) (gpow a n) := by
  induction n with
  | zero => rw [Nat.add_zero, gpow, gm_one]
  | succ n ih => rw [← Nat.add_assoc, gpow, ih, gpow, gm_assoc]
theorem gpow_one (a : BitVec 8) : gpow a 1 = a := gm_one' a
def sq (a : BitVec 8) : BitVec 8 := gm a a
theorem gpow_two (a : BitVec 8) (n : Nat) : gpow a (n + n) = sq (gpow a n) := gpow_add a n n
/-- The 254th power: of 2, 4, 8 .. 128. -/
def ginv (a : BitVec 8) : BitVec 8 :=
  let a2 := sq a; let a4 := sq a2; let a8 := sq a4; let a16 := sq a8; let a32 := sq a16; let a64 := sq a32; let a128 := sq a64
  gm a128 (gm a64 (gm a32 (gm a16 (gm a8 (gm a4 a2)))))
theorem gpow_254 (a : BitVec 8) : gpow a 254 = ginv a := by
  have h2 : gpow a 2 = sq a := by show gpow a (1 + 1) = _; rw [gpow_two, gpow_one]
  have h4 : gpow a 4 = sq (sq a) := by show gpow a (2 + 2) = _; rw [gpow_two, h2]
  have h8 : gpow a 8 = sq (sq (sq a)) := by show gpow a (4 + 4) = _; rw [gpow_two, h4]
  have h16 : gpow a 16 = sq (sq (sq (sq a))) := by show gpow a (8 + 8) = _; rw [gpow_two, h8]
  have h32 : gpow a 32 = sq (sq (sq (sq (sq a)))) := by show gpow a (16 + 16) = _; rw [gpow_two, h16]
  have h64 : gpow a 64 = sq (sq (sq (sq (sq (sq a))))) := by show gpow a (32 + 32) = _; rw [gpow_two, h32]
  have h128 : gpow a 128 = sq (sq (sq (sq (sq (sq (sq a)))))) := by show gpow a (64 + 64) = _; rw [gpow_two, h64]
  show gpow a (128 + (64 + (32 + (16 + (8 + (4 + 2)))))) = _
  rw [gpow_add, gpow_add, gpow_add, gpow_add, gpow_add, gpow_add, h2, h4, h8, h16, h32, h64, h128]
  rfl
theorem ginv_mul : ∀ a, a ≠ 0 → gm a (ginv a) = 1 := by decide +kernel
theorem ginv_nil : ginv 0 = 0 := by decide +kernel
theorem gm_eq_nil (a b : BitVec 8) : gm a b = 0 ↔ a = 0 ∨ b = 0 := by
  constructor
  · intro h
    by_cases ha : a = 0
    · exact .inl ha
    · refine .inr ?_
      have := ginv_mul a ha
      rw [← gm_one' b, ← this, gm_comm a, ← gm_assoc, h, gm_nil]
  · rintro (rfl | rfl)
    · exact gm_nil' b
    · exact gm_nil a
theorem ginv_unique (a b : BitVec 8) (h : gm a b = 1) : b = ginv a := by
  have ha : a ≠ 0 := by
    rintro rfl
    rw [gm_nil'] at h
    exact absurd h (by decide)
  rw [← gm_one' b, ← ginv_mul a ha, gm_comm a, ← gm_assoc, h, gm_one]

/-- The box, as the program's text has it. -/
def boxesL : List (BitVec 8) := [
  0x63, 0x7c, 0x77, 0x7b, 0xf2, 0x6b, 0x6f, 0xc5, 0x30, 0x01, 0x67, 0x2b, 0xfe, 0xd7, 0xab, 0x76,
  0xca, 0x82, 0xc9, 0x7d, 0xfa, 0x59, 0x47, 0xf0, 0xad, 0xd4, 0xa2, 0xaf, 0x9c, 0xa4, 0x72, 0xc0,
  0xb7, 0xfd, 0x93, 0x26, 0x36, 0x3f, 0xf7, 0xcc, 0x34, 0xa5, 0xe5, 0xf1, 0x71, 0xd8, 0x31, 0x15,
  0x04, 0xc7, 0x23, 0xc3, 0x18, 0x96, 0x05, 0x9a, 0x07, 0x12, 0x80, 0xe2, 0xeb, 0x27, 0xb2, 0x75,
  0x09, 0x83, 0x2c, 0x1a, 0x1b, 0x6e, 0x5a, 0xa0, 0x52, 0x3b, 0xd6, 0xb3, 0x29, 0xe3, 0x2f, 0x84,
  0x53, 0xd1, 0x00, 0xed, 0x20, 0xfc, 0xb1, 0x5b, 0x6a, 0xcb, 0xbe, 0x39, 0x4a, 0x4c, 0x58, 0xcf,
  0xd0, 0xef, 0xaa, 0xfb, 0x43, 0x4d, 0x33, 0x85, 0x45, 0xf9, 0x02, 0x7f, 0x50, 0x3c, 0x9f, 0xa8,
  0x51, 0xa3, 0x40, 0x8f, 0x92, 0x9d, 0x38, 0xf5, 0xbc, 0xb6, 0xda, 0x21, 0x10, 0xff, 0xf3, 0xd2,
  0xcd, 0x0c, 0x13, 0xec, 0x5f, 0x97, 0x44, 0x17, 0xc4, 0xa7, 0x7e, 0x3d, 0x64, 0x5d, 0x19, 0x73,
  0x60, 0x81, 0x4f, 0xdc, 0x22, 0x2a, 0x90, 0x88, 0x46, 0xee, 0xb8, 0x14, 0xde, 0x5e, 0x0b, 0xdb,
  0xe0, 0x32, 0x3a, 0x0a, 0x49, 0x06, 0x24, 0x5c, 0xc2, 0xd3, 0xac, 0x62, 0x91, 0x95, 0xe4, 0x79,
  0xe7, 0xc8, 0x37, 0x6d, 0x8d, 0xd5, 0x4e, 0xa9, 0x6c, 0x56, 0xf4, 0xea, 0x65, 0x7a, 0xae, 0x08,
  0xba, 0x78, 0x25, 0x2e, 0x1c, 0xa6, 0xb4, 0xc6, 0xe8, 0xdd, 0x74, 0x1f, 0x4b, 0xbd, 0x8b, 0x8a,
  0x70, 0x3e, 0xb5, 0x66, 0x48, 0x03, 0xf6, 0x0e, 0x61, 0x35, 0x57, 0xb9, 0x86, 0xc1, 0x1d, 0x9e,
  0xe1, 0xf8, 0x98, 0x11, 0x69, 0xd9, 0x8e, 0x94, 0x9b, 0x1e, 0x87, 0xe9, 0xce, 0x55, 0x28, 0xdf,
  0x8c, 0xa1, 0x89, 0x0d, 0xbf, 0xe6, 0x42, 0x68, 0x41, 0x99, 0x2d, 0x0f, 0xb0, 0x54, 0xbb, 0x16]
def unboxesL : List (BitVec 8) := [
  0x52, 0x09, 0x6a, 0xd5, 0x30, 0x36, 0xa5, 0x38, 0xbf, 0x40, 0xa3, 0x9e, 0x81, 0xf3, 0xd7, 0xfb,
  0x7c, 0xe3, 0x39, 0x82, 0x9b, 0x2f, 0xff, 0x87, 0x34, 0x8e, 0x43, 0x44, 0xc4, 0xde, 0xe9, 0xcb,
  0x54, 0x7b, 0x94, 0x32, 0xa6, 0xc2, 0x23, 0x3d, 0xee, 0x4c, 0x95, 0x0b, 0x42, 0xfa, 0xc3, 0x4e,
  0x08, 0x2e, 0xa1, 0x66, 0x28, 0xd9, 0x24, 0xb2, 0x76, 0x5b, 0xa2, 0x49, 0x6d, 0x8b, 0xd1, 0x25,
  0x72, 0xf8, 0xf6, 0x64, 0x86, 0x68, 0x98, 0x16, 0xd4, 0xa4, 0x5c, 0xcc, 0x5d, 0x65, 0xb6, 0x92,
  0x6c, 0x70, 0x48, 0x50, 0xfd, 0xed, 0xb9, 0xda, 0x5e, 0x15, 0x46, 0x57, 0xa7, 0x8d, 0x9d, 0x84,
  0x90, 0xd8, 0xab, 0x00, 0x8c, 0xbc, 0xd3, 0x0a, 0xf7, 0xe4, 0x58, 0x05, 0xb8, 0xb3, 0x45, 0x06,
  0xd0, 0x2c, 0x1e, 0x8f, 0xca, 0x3f, 0x0f, 0x02, 0xc1, 0xaf, 0xbd, 0x03, 0x01, 0x13, 0x8a, 0x6b,
  0x3a, 0x91, 0x11, 0x41, 0x4f, 0x67, 0xdc, 0xea, 0x97, 0xf2, 0xcf, 0xce, 0xf0, 0xb4, 0xe6, 0x73,
  0x96, 0xac, 0x74, 0x22, 0xe7, 0xad, 0x35, 0x85, 0xe2, 0xf9, 0x37, 0xe8, 0x1c, 0x75, 0xdf, 0x6e,
  0x47, 0xf1, 0x1a, 0x71, 0x1d, 0x29, 0xc5, 0x89, 0x6f, 0xb7, 0x62, 0x0e, 0xaa, 0x18, 0xbe, 0x1b,
  0xfc, 0x56, 0x3e, 0x4b, 0xc6, 0xd2, 0x79, 0x20, 0x9a, 0xdb, 0xc0, 0xfe, 0x78, 0xcd, 0x5a, 0xf4,
  0x1f, 0xdd, 0xa8, 0x33, 0x88, 0x07, 0xc7, 0x31, 0xb1, 0x12, 0x10, 0x59, 0x27, 0x80, 0xec, 0x5f,
  0x60, 0x51, 0x7f, 0xa9, 0x19, 0xb5, 0x4a, 0x0d, 0x2d, 0xe5, 0x7a, 0x9f, 0x93, 0xc9, 0x9c, 0xef,
  0xa0, 0xe0, 0x3b, 0x4d, 0xae, 0x2a, 0xf5, 0xb0, 0xc8, 0xeb, 0xbb, 0x3c, 0x83, 0x53, 0x99, 0x61,
  0x17, 0x2b, 0x04, 0x7e, 0xba, 0x77, 0xd6, 0x26, 0xe1, 0x69, 0x14, 0x63, 0x55, 0x21, 0x0c, 0x7d]
def sbox (b : BitVec 8) : BitVec 8 := boxesL.getD b.toNat 0
def ubox (b : BitVec 8) : BitVec 8 := unboxesL.getD b.toNat 0
theorem ubox_sbox : ∀ b, ubox (sbox b) = b := by decide +kernel
theorem sbox_ubox : ∀ b, sbox (ubox b) = b := by decide +kernel
theorem sbox_inj (a b : BitVec 8) : sbox a = sbox b ↔ a = b := ⟨fun h => by rw [← ubox_sbox a, h, ubox_sbox], fun h => by rw [h]⟩
theorem sbox_ne : ∀ b, sbox b ≠ b ∧ sbox b ≠ ~~~b := by decide +kernel
/-- The box, as the page tells it. -/
def affine (x : BitVec 8) : BitVec 8 := x ^^^ (x <<< 1 ||| x >>> 7) ^^^ (x <<< 2 ||| x >>> 6) ^^^ (x <<< 3 ||| x >>> 5) ^^^ (x <<< 4 ||| x >>> 4) ^^^ 0x63
theorem sbox_affine : ∀ b, sbox b = affine (ginv b) := by decide +kernel
end Go.Proofs.Ytbnclmlbennhaaa
