/-
  Plain facts: blocks of sixteen bytes, what a round does with them and what undoes it; a key's round keys; a block sealed and opened.
-/
import Derived.Test.YtbnclmlbennhaaaGf
namespace Go.Proofs.Ytbnclmlbennhaaa
set_option maxRecDepth 4000
open Go.RowKit

/-- k writes, one behind the other: at place p i what f i is. -/
def setF {α : Type} (p : Nat → Nat) (f : Nat → α) : Nat → List α → List α
  | 0, l => l
  | k + 1, l => (setF p f k l).set (p k) (f k)
theorem setF_length {α : Type} (p : Nat → Nat) (f : Nat → α) (k : Nat) (l : List α) : (setF p f k l).length = l.length := by
  induction k with
  | zero => rfl
  | succ k ih => rw [setF, List.length_set, ih]
theorem setF_other {α : Type} (p : Nat → Nat) (f : Nat → α) (l : List α) (i : Nat) (d : α) : ∀ k, (∀ j, j < k → p j ≠ i) → (setF p f k l).getD i d = l.getD i d := by
  intro k
  induction k with
  | zero => intro _; rfl
  | succ k ih =>
    intro h
    have := h k (by omega)
    rw [← ih fun j hj => h j (by omega), setF]
    simp [List.getD, this]
theorem setF_id {α : Type} (f : Nat → α) (l : List α) (k : Nat) (d : α) : (setF id f k l).getD k d = l.getD k d := setF_other id f l k d k fun j hj => by simp; omega
/-- A part of a row, written over. -/
def putL {α : Type} (M : List α) (o : Nat) (v : List α) : List α := M.take o ++ v ++ M.drop (o + v.length)
theorem putL_length {α : Type} (M : List α) (o : Nat) (v : List α) (h : o + v.length ≤ M.length) : (putL M o v).length = M.length := by
  simp [putL]; omega
theorem putL_set {α : Type} (M : List α) (o : Nat) (v : List α) (j : Nat) (x : α) (h : o + v.length ≤ M.length) (hj : j < v.length) : (putL M o v).set (o + j) x = putL M o (v.set j x) := by
  have e : (M.take o).length = o := by simp; omega
  unfold putL
  rw [List.length_set, List.append_assoc, List.append_assoc, List.set_append_right _ _ (by omega), e, show o + j - o = j by omega, List.set_append_left _ _ hj]
theorem putL_cons {α : Type} (M : List α) (o : Nat) (y : α) (ys : List α) (h : o < M.length) : putL (M.set o y) (o + 1) ys = putL M o (y :: ys) := by
  unfold putL
  rw [List.take_succ_eq_append_getElem (by simpa using h), List.getElem_set_self, List.take_set_of_le (Nat.le_refl _), List.drop_set_of_lt (by omega), List.length_cons, show o + 1 + ys.length = o + (ys.length + 1) by omega]
  simp
theorem putL_take {α : Type} (M : List α) (o : Nat) (v : List α) (h : o ≤ M.length) : (putL M o v).take (o + v.length) = M.take o ++ v := by
  unfold putL
  rw [List.take_append_of_le_length (by simp; omega), List.take_of_length_le (by simp; omega)]

def zeroY (n : Nat) : List (BitVec 8) := List.replicate n 0
/-- The sum of two blocks. -/
def sumB (a b : List (BitVec 8)) : List (BitVec 8) := List.zipWith (· ^^^ ·) a b
def boxB (x : List (BitVec 8)) : List (BitVec 8) := x.map sbox
def unboxB (x : List (BitVec 8)) : List (BitVec 8) := x.map ubox
/-- Where byte i comes from as rows are turned. -/
def org (i : Nat) : Nat := (i + i % 4 * 4) % 16
def turnB (x : List (BitVec 8)) : List (BitVec 8) := (List.range 16).map fun i => x.getD (org i) 0
def unturnB (x : List (BitVec 8)) : List (BitVec 8) := setF org (fun i => x.getD i 0) 16 (zeroY 16)
/-- A byte of a column made of all the column's. -/
def mixY (all here next : BitVec 8) : BitVec 8 := here ^^^ all ^^^ dbl (here ^^^ next)
def mixAt (x : List (BitVec 8)) (c i : Nat) : BitVec 8 :=
  mixY (x.getD c 0 ^^^ x.getD (c + 1) 0 ^^^ x.getD (c + 2) 0 ^^^ x.getD (c + 3) 0) (x.getD (c + i) 0) (x.getD (c + (i + 1) % 4) 0)
def mixB (x : List (BitVec 8)) : List (BitVec 8) := (List.range 16).map fun k => mixAt x (4 * (k / 4)) (k % 4)
def unmixB (x : List (BitVec 8)) : List (BitVec 8) := mixB (mixB (mixB x))

theorem sumB_length (a b : List (BitVec 8)) (n : Nat) (ha : a.length = n) (hb : b.length = n) : (sumB a b).length = n := by simp [sumB, ha, hb]
theorem boxB_length (x : List (BitVec 8)) : (boxB x).length = x.length := by simp [boxB]
theorem unboxB_length (x : List (BitVec 8)) : (unboxB x).length = x.length := by simp [unboxB]
theorem turnB_length (x : List (BitVec 8)) : (turnB x).length = 16 := by simp [turnB]
theorem unturnB_length (x : List (BitVec 8)) : (unturnB x).length = 16 := by simp [unturnB, setF_length, zeroY]
theorem mixB_length (x : List (BitVec 8)) : (mixB x).length = 16 := by simp [mixB]
theorem unmixB_length (x : List (BitVec 8)) : (unmixB x).length = 16 := mixB_length _
theorem sixteen {α : Type} (x : List α) (h : x.length = 16) : ∃ a0 a1 a2 a3 a4 a5 a6 a7 a8 a9 a10 a11 a12 a13 a14 a15, x = [a0, a1, a2, a3, a4, a5, a6, a7, a8, a9, a10, a11, a12, a13, a14, a15] := by
  match x, h with
  | [a0, a1, a2, a3, a4, a5, a6, a7, a8, a9, a10, a11, a12, a13, a14, a15], _ => exact ⟨_, _, _, _, _, _, _, _, _, _, _, _, _, _, _, _, rfl⟩

/- What the loops write. -/
theorem setF_sum (a b : List (BitVec 8)) (ha : a.length = 16) (hb : b.length = 16) : setF id (fun i => a.getD i 0 ^^^ b.getD i 0) 16 a = sumB a b := by
  obtain ⟨a0, a1, a2, a3, a4, a5, a6, a7, a8, a9, a10, a11, a12, a13, a14, a15, rfl⟩ := sixteen a ha
  obtain ⟨b0, b1, b2, b3, b4, b5, b6, b7, b8, b9, b10, b11, b12, b13, b14, b15, rfl⟩ := sixteen b hb
  rfl
theorem setF_box (f : BitVec 8 → BitVec 8) (a : List (BitVec 8)) (ha : a.length = 16) : setF id (fun i => f (a.getD i 0)) 16 a = a.map f := by
  obtain ⟨a0, a1, a2, a3, a4, a5, a6, a7, a8, a9, a10, a11, a12, a13, a14, a15, rfl⟩ := sixteen a ha
  rfl
theorem setF_map (f : Nat → BitVec 8) : setF id f 16 (zeroY 16) = (List.range 16).map f := by rfl

/- What undoes it. -/
theorem sumB_self (a b : List (BitVec 8)) (ha : a.length = 16) (hb : b.length = 16) : sumB (sumB a b) b = a := by
  obtain ⟨a0, a1, a2, a3, a4, a5, a6, a7, a8, a9, a10, a11, a12, a13, a14, a15, rfl⟩ := sixteen a ha
  obtain ⟨b0, b1, b2, b3, b4, b5, b6, b7, b8, b9, b10, b11, b12, b13, b14, b15, rfl⟩ := sixteen b hb
  have e : ∀ x y : BitVec 8, x ^^^ y ^^^ y = x := fun x y => by rw [BitVec.xor_assoc, BitVec.xor_self, BitVec.xor_zero]
  simp only [sumB, List.zipWith, e]
theorem unboxB_boxB (x : List (BitVec 8)) : unboxB (boxB x) = x := by
  unfold unboxB boxB; rw [List.map_map]
  exact (List.map_congr_left fun a _ => ubox_sbox a).trans (List.map_id x)
theorem boxB_unboxB (x : List (BitVec 8)) : boxB (unboxB x) = x := by
  unfold unboxB boxB; rw [List.map_map]
  exact (List.map_congr_left fun a _ => sbox_ubox a).trans (List.map_id x)
theorem unturn_eq (a0 a1 a2 a3 a4 a5 a6 a7 a8 a9 a10 a11 a12 a13 a14 a15 : BitVec 8) : unturnB [a0, a1, a2, a3, a4, a5, a6, a7, a8, a9, a10, a11, a12, a13, a14, a15] = [a0, a13, a10, a7, a4, a1, a14, a11, a8, a5, a2, a15, a12, a9, a6, a3] := by
  simp [unturnB, setF, org, zeroY, List.replicate]
theorem turn_eq (a0 a1 a2 a3 a4 a5 a6 a7 a8 a9 a10 a11 a12 a13 a14 a15 : BitVec 8) : turnB [a0, a1, a2, a3, a4, a5, a6, a7, a8, a9, a10, a11, a12, a13, a14, a15] = [a0, a5, a10, a15, a4, a9, a14, a3, a8, a13, a2, a7, a12, a1, a6, a11] := by
  simp [turnB, org, List.range_succ]
theorem turnB_unturnB (a : List (BitVec 8)) (ha : a.length = 16) : turnB (unturnB a) = a := by
  obtain ⟨a0, a1, a2, a3, a4, a5, a6, a7, a8, a9, a10, a11, a12, a13, a14, a15, rfl⟩ := sixteen a ha
  rw [unturn_eq, turn_eq]
theorem unturnB_turnB (a : List (BitVec 8)) (ha : a.length = 16) : unturnB (turnB a) = a := by
  obtain ⟨a0, a1, a2, a3, a4, a5, a6, a7, a8, a9, a10, a11, a12, a13, a14, a15, rfl⟩ := sixteen a ha
  rw [turn_eq, unturn_eq]
theorem xor_lc (a b c : BitVec 8) : a ^^^ (b ^^^ c) = b ^^^ (a ^^^ c) := by rw [← BitVec.xor_assoc, BitVec.xor_comm a b, BitVec.xor_assoc]
theorem xor_cancel (a b : BitVec 8) : a ^^^ (a ^^^ b) = b := by rw [← BitVec.xor_assoc, BitVec.xor_self, BitVec.zero_xor]
/-- A column mixed, byte by byte. -/
def mixC (a b c d : BitVec 8) : List (BitVec 8) := [mixY (a ^^^ b ^^^ c ^^^ d) a b, mixY (a ^^^ b ^^^ c ^^^ d) b c, mixY (a ^^^ b ^^^ c ^^^ d) c d, mixY (a ^^^ b ^^^ c ^^^ d) d a]
/-- Mixed twice. -/
def mixD (a b c d : BitVec 8) : List (BitVec 8) := [a ^^^ dbl (dbl (a ^^^ c)), b ^^^ dbl (dbl (b ^^^ d)), c ^^^ dbl (dbl (c ^^^ a)), d ^^^ dbl (dbl (d ^^^ b))]
def on4 (f : BitVec 8 → BitVec 8 → BitVec 8 → BitVec 8 → List (BitVec 8)) : List (BitVec 8) → List (BitVec 8)
  | [a0, a1, a2, a3, a4, a5, a6, a7, a8, a9, a10, a11, a12, a13, a14, a15] => f a0 a1 a2 a3 ++ f a4 a5 a6 a7 ++ f a8 a9 a10 a11 ++ f a12 a13 a14 a15
  | _ => []
theorem mixB_on4 (a : List (BitVec 8)) (ha : a.length = 16) : mixB a = on4 mixC a := by
  obtain ⟨a0, a1, a2, a3, a4, a5, a6, a7, a8, a9, a10, a11, a12, a13, a14, a15, rfl⟩ := sixteen a ha
  rfl
theorem mixC_twice (a b c d : BitVec 8) : mixC (mixY (a ^^^ b ^^^ c ^^^ d) a b) (mixY (a ^^^ b ^^^ c ^^^ d) b c) (mixY (a ^^^ b ^^^ c ^^^ d) c d) (mixY (a ^^^ b ^^^ c ^^^ d) d a) = mixD a b c d := by
  unfold mixC mixD mixY
  simp only [dbl_add]
  generalize dbl (dbl a) = a2, dbl (dbl b) = b2, dbl (dbl c) = c2, dbl (dbl d) = d2
  generalize dbl a = a1, dbl b = b1, dbl c = c1, dbl d = d1
  simp only [BitVec.xor_assoc, BitVec.xor_comm, xor_lc, BitVec.xor_self, xor_cancel, BitVec.xor_zero]
theorem mixD_twice (a b c d : BitVec 8) : mixD (a ^^^ dbl (dbl (a ^^^ c))) (b ^^^ dbl (dbl (b ^^^ d))) (c ^^^ dbl (dbl (c ^^^ a))) (d ^^^ dbl (dbl (d ^^^ b))) = [a, b, c, d] := by
  unfold mixD
  simp only [dbl_add]
  generalize dbl (dbl (dbl (dbl a))) = a4, dbl (dbl (dbl (dbl b))) = b4, dbl (dbl (dbl (dbl c))) = c4, dbl (dbl (dbl (dbl d))) = d4
  generalize dbl (dbl a) = a2, dbl (dbl b) = b2, dbl (dbl c) = c2, dbl (dbl d) = d2
  simp only [BitVec.xor_assoc, BitVec.xor_comm, xor_lc, BitVec.xor_self, xor_cancel, BitVec.xor_zero]
theorem mixB_two (a : List (BitVec 8)) (ha : a.length = 16) : mixB (mixB a) = on4 mixD a := by
  rw [mixB_on4 _ (mixB_length a), mixB_on4 _ ha]
  obtain ⟨a0, a1, a2, a3, a4, a5, a6, a7, a8, a9, a10, a11, a12, a13, a14, a15, rfl⟩ := sixteen a ha
  show mixC _ _ _ _ ++ mixC _ _ _ _ ++ mixC _ _ _ _ ++ mixC _ _ _ _ = mixD _ _ _ _ ++ mixD _ _ _ _ ++ mixD _ _ _ _ ++ mixD _ _ _ _
  rw [mixC_twice, mixC_twice, mixC_twice, mixC_twice]
theorem mixB_four (a : List (BitVec 8)) (ha : a.length = 16) : mixB (mixB (mixB (mixB a))) = a := by
  rw [mixB_two _ (mixB_length _), mixB_two _ ha]
  obtain ⟨a0, a1, a2, a3, a4, a5, a6, a7, a8, a9, a10, a11, a12, a13, a14, a15, rfl⟩ := sixteen a ha
  show mixD _ _ _ _ ++ mixD _ _ _ _ ++ mixD _ _ _ _ ++ mixD _ _ _ _ = _
  rw [mixD_twice, mixD_twice, mixD_twice, mixD_twice]; rfl

/-- What word i is summed of, beside the one eight ahead. -/
def stepW (w : List (BitVec 8)) (i : Nat) : List (BitVec 8) :=
  if i % 8 = 0 then [sbox (w.getD 1 0) ^^^ pw (i / 8 - 1), sbox (w.getD 2 0), sbox (w.getD 3 0), sbox (w.getD 0 0)]
  else if i % 8 = 4 then [sbox (w.getD 0 0), sbox (w.getD 1 0), sbox (w.getD 2 0), sbox (w.getD 3 0)]
  else [w.getD 0 0, w.getD 1 0, w.getD 2 0, w.getD 3 0]
def wordL (l : List (BitVec 8)) (i : Nat) : List (BitVec 8) := (l.drop (4 * i)).take 4
def nextL (l : List (BitVec 8)) (i : Nat) : List (BitVec 8) := sumB (stepW (wordL l (i - 1)) i) (wordL l (i - 8))
/-- A key's words, the first n + 8 of them. -/
def keyL (k : List (BitVec 8)) : Nat → List (BitVec 8)
  | 0 => k
  | n + 1 => keyL k n ++ nextL (keyL k n) (n + 8)
theorem stepW_length (w : List (BitVec 8)) (i : Nat) : (stepW w i).length = 4 := by unfold stepW; split <;> (try split) <;> rfl
theorem wordL_length (l : List (BitVec 8)) (i : Nat) (h : 4 * i + 4 ≤ l.length) : (wordL l i).length = 4 := by simp [wordL]; omega
theorem keyL_length (k : List (BitVec 8)) (hk : k.length = 32) (n : Nat) : (keyL k n).length = 32 + 4 * n := by
  induction n with
  | zero => exact hk
  | succ n ih =>
    rw [keyL, List.length_append, ih, nextL, sumB_length _ _ 4 (stepW_length _ _) (wordL_length _ _ (by rw [ih]; omega))]
    omega
def keysL (k : List (BitVec 8)) : List (BitVec 8) := keyL k 52
theorem keysL_length (k : List (BitVec 8)) (hk : k.length = 32) : (keysL k).length = 240 := keyL_length k hk 52
/-- Round key i. -/
def rkeyL (M : List (BitVec 8)) (i : Nat) : List (BitVec 8) := (M.drop (16 * i)).take 16
theorem rkeyL_length (M : List (BitVec 8)) (h : M.length = 240) (i : Nat) (hi : i < 15) : (rkeyL M i).length = 16 := by simp [rkeyL, h]; omega

/-- n rounds of sealing, behind the first sum. -/
def sealN (M : List (BitVec 8)) (b : List (BitVec 8)) : Nat → List (BitVec 8)
  | 0 => sumB b (rkeyL M 0)
  | n + 1 => sumB (mixB (turnB (boxB (sealN M b n)))) (rkeyL M (n + 1))
def sealB (M : List (BitVec 8)) (b : List (BitVec 8)) : List (BitVec 8) := sumB (turnB (boxB (sealN M b 13))) (rkeyL M 14)
/-- Opening: n rounds undone. -/
def openN (M : List (BitVec 8)) (b : List (BitVec 8)) : Nat → List (BitVec 8)
  | 0 => unboxB (unturnB (sumB b (rkeyL M 14)))
  | n + 1 => unboxB (unturnB (unmixB (sumB (openN M b n) (rkeyL M (13 - n)))))
def openB (M : List (BitVec 8)) (b : List (BitVec 8)) : List (BitVec 8) := sumB (openN M b 13) (rkeyL M 0)
theorem sealN_length (M b : List (BitVec 8)) (hM : M.length = 240) (hb : b.length = 16) : ∀ n, n ≤ 13 → (sealN M b n).length = 16 := by
  intro n hn
  cases n with
  | zero => exact sumB_length _ _ 16 hb (rkeyL_length M hM 0 (by omega))
  | succ n => exact sumB_length _ _ 16 (mixB_length _) (rkeyL_length M hM _ (by omega))
theorem sealB_length (M b : List (BitVec 8)) (hM : M.length = 240) : (sealB M b).length = 16 := sumB_length _ _ 16 (turnB_length _) (rkeyL_length M hM _ (by omega))
theorem openN_length (M b : List (BitVec 8)) : ∀ n, (openN M b n).length = 16 := by
  intro n
  cases n with
  | zero => rw [openN, unboxB_length, unturnB_length]
  | succ n => rw [openN, unboxB_length, unturnB_length]
theorem openB_length (M b : List (BitVec 8)) (hM : M.length = 240) : (openB M b).length = 16 := sumB_length _ _ 16 (openN_length M b 13) (rkeyL_length M hM _ (by omega))

theorem open_seal (M b : List (BitVec 8)) (hM : M.length = 240) (hb : b.length = 16) : openB M (sealB M b) = b := by
  have key : ∀ n, n ≤ 13 → openN M (sealB M b) n = sealN M b (13 - n) := by
    intro n
    induction n with
    | zero =>
      intro _
      rw [openN, sealB, sumB_self _ _ (turnB_length _) (rkeyL_length M hM _ (by omega)), unturnB_turnB _ (by rw [boxB_length]; exact sealN_length M b hM hb 13 (by omega)), unboxB_boxB]
    | succ n ih =>
      intro hn
      rw [openN, ih (by omega), show 13 - n = (13 - (n + 1)) + 1 by omega, sealN, sumB_self _ _ (mixB_length _) (rkeyL_length M hM _ (by omega)), unmixB, mixB_four _ (turnB_length _),
        unturnB_turnB _ (by rw [boxB_length]; exact sealN_length M b hM hb _ (by omega)), unboxB_boxB]
  rw [openB, key 13 (by omega)]
  exact sumB_self _ _ hb (rkeyL_length M hM 0 (by omega))
theorem seal_open (M b : List (BitVec 8)) (hM : M.length = 240) (hb : b.length = 16) : sealB M (openB M b) = b := by
  have key : ∀ n, n ≤ 13 → sealN M (openB M b) n = openN M b (13 - n) := by
    intro n
    induction n with
    | zero => intro _; rw [sealN, openB, sumB_self _ _ (openN_length M b 13) (rkeyL_length M hM 0 (by omega))]
    | succ n ih =>
      intro hn
      have e : sumB (openN M b (13 - (n + 1))) (rkeyL M (n + 1)) = mixB (turnB (boxB (openN M b (13 - n)))) := by
        rw [show 13 - n = (13 - (n + 1)) + 1 by omega, openN, boxB_unboxB, turnB_unturnB _ (unmixB_length _), unmixB, mixB_four _ (sumB_length _ _ 16 (openN_length M b _) (rkeyL_length M hM _ (by omega))), show 13 - (13 - (n + 1)) = n + 1 by omega]
      rw [sealN, ih (by omega), ← e, sumB_self _ _ (openN_length M b _) (rkeyL_length M hM _ (by omega))]
  rw [sealB, key 13 (by omega), show 13 - 13 = 0 from rfl, openN, boxB_unboxB, turnB_unturnB _ (sumB_length _ _ 16 hb (rkeyL_length M hM _ (by omega))), sumB_self _ _ hb (rkeyL_length M hM _ (by omega))]
theorem seal_inj (M a b : List (BitVec 8)) (hM : M.length = 240) (ha : a.length = 16) (hb : b.length = 16) : sealB M a = sealB M b ↔ a = b :=
  ⟨fun h => by rw [← open_seal M a hM ha, h, open_seal M b hM hb], fun h => by rw [h]⟩
/- The document's example. -/
def exK : List (BitVec 8) := (List.range 32).map fun i => BitVec.ofNat 8 i
def exB : List (BitVec 8) := (List.range 16).map fun i => BitVec.ofNat 8 (17 * i)
def exW : List (BitVec 8) := [0x8e, 0xa2, 0xb7, 0xca, 0x51, 0x67, 0x45, 0xbf, 0xea, 0xfc, 0x49, 0x90, 0x4b, 0x49, 0x60, 0x89]
set_option maxRecDepth 100000 in
theorem ex_seal : sealB (keysL exK) exB = exW := by decide +kernel
theorem exK_length : exK.length = 32 := by decide
theorem exB_length : exB.length = 16 := by decide
theorem ex_open : openB (keysL exK) exW = exB := by rw [← ex_seal]; exact open_seal _ _ (keysL_length _ exK_length) exB_length
end Go.Proofs.Ytbnclmlbennhaaa
