/-
  Plain facts on numbers of digits by 10000, the lowest first, over no program.
-/
import Derived.Test.YtpmeiadnikenmaaDoorMath
namespace Go.Proofs.YtpmeiadnikenmaaDoor
open Go.RowKit

/-- What digits are worth. -/
def valL : List Int → Int
  | [] => 0
  | d :: r => d + 10000 * valL r
def Dig (l : List Int) : Prop := ∀ z ∈ l, 0 ≤ z ∧ z ≤ 9999
/-- The highest digit isn't nought. -/
def Trim (l : List Int) : Prop := l = [] ∨ l[l.length - 1]?.getD 0 ≠ 0

theorem at_set (l : List Int) (k j : Nat) (v : Int) (h : k < l.length) : (l.set k v)[j]?.getD 0 = if j = k then v else l[j]?.getD 0 := by
  by_cases e : j = k
  · subst e; simp [h]
  · rw [if_neg e, List.getElem?_set_ne (Ne.symm e)]

theorem valL_set (l : List Int) : ∀ k v, k < l.length → valL (l.set k v) = valL l + (v - l[k]?.getD 0) * 10000 ^ k := by
  induction l with
  | nil => intro k v h; simp at h
  | cons d r ih =>
    intro k v h
    cases k with
    | zero => simp [valL]; omega
    | succ k =>
      have := ih k v (by simpa using h)
      simp only [List.set_cons_succ, valL, List.getElem?_cons_succ, Int.pow_succ, this]
      rw [← Int.mul_assoc]
      omega
theorem valL_append (l m : List Int) : valL (l ++ m) = valL l + valL m * 10000 ^ l.length := by
  induction l with
  | nil => simp [valL]
  | cons d r ih =>
    simp only [List.cons_append, valL, ih, List.length_cons, Int.pow_succ]
    rw [← Int.mul_assoc]
    omega
theorem valL_take (l : List Int) (k : Nat) (h : k < l.length) : valL (l.take (k + 1)) = valL (l.take k) + l[k]?.getD 0 * 10000 ^ k := by
  rw [take_next l k h, valL_append]
  simp [valL, List.length_take, Nat.min_eq_left (Nat.le_of_lt h)]
theorem valL_bound (l : List Int) : Dig l → 0 ≤ valL l ∧ valL l < 10000 ^ l.length := by
  induction l with
  | nil => intro _; simp [valL]
  | cons d r ih =>
    intro h
    have h1 := h d (by simp)
    have h2 := ih fun z hz => h z (by simp [hz])
    simp only [valL, List.length_cons, Int.pow_succ]
    omega
theorem dig_at (l : List Int) (h : Dig l) (k : Nat) : 0 ≤ l[k]?.getD 0 ∧ l[k]?.getD 0 ≤ 9999 := by
  by_cases hk : k < l.length
  · simp only [List.getElem?_eq_getElem hk, Option.getD_some]
    exact h _ (List.getElem_mem hk)
  · simp [List.getElem?_eq_none (by omega : l.length ≤ k)]
theorem dig_of_at (l : List Int) (h : ∀ j : Nat, 0 ≤ l[j]?.getD 0 ∧ l[j]?.getD 0 ≤ 9999) : Dig l := by
  intro z hz
  obtain ⟨i, hi, rfl⟩ := List.getElem_of_mem hz
  have := h i
  simpa [hi] using this
theorem dig_take (l : List Int) (h : Dig l) (k : Nat) : Dig (l.take k) := fun z hz => h z (List.mem_of_mem_take hz)
theorem valL_nonneg (l : List Int) (h : ∀ j : Nat, 0 ≤ l[j]?.getD 0) : 0 ≤ valL l := by
  induction l with
  | nil => simp [valL]
  | cons d r ih =>
    have h1 : 0 ≤ d := by simpa using h 0
    have h2 := ih fun j => by simpa using h (j + 1)
    simp only [valL]; omega
theorem mul_dig (a b : Int) (ha : 0 ≤ a) (ha' : a ≤ 9999) (hb : 0 ≤ b) (hb' : b ≤ 9999) : 0 ≤ a * b ∧ a * b ≤ 99980001 := by
  refine ⟨Int.mul_nonneg ha hb, ?_⟩
  have h1 : a * b ≤ 9999 * b := Int.mul_le_mul_of_nonneg_right ha' hb
  omega

/-- What the inner loop of a product keeps of the digits. -/
structure Inn10 (la lb xs : List Int) (i k : Nat) (V : Int) : Prop where
  len : xs.length = la.length + lb.length + 1
  pos : ∀ j : Nat, 0 ≤ xs[j]?.getD 0
  le : ∀ j : Nat, j ≠ i + k → xs[j]?.getD 0 ≤ 10001
  cur : xs[i + k]?.getD 0 ≤ 20002
  full : k = lb.length → ∀ j : Nat, xs[j]?.getD 0 ≤ 10001
  zero : ∀ j : Nat, i + lb.length ≤ j → i + k < j → xs[j]?.getD 0 = 0
  val : valL xs = V + la[i]?.getD 0 * 10000 ^ i * valL (lb.take k)

/-- One round of it: three stores. -/
theorem Inn10.step {la lb xs : List Int} {i k : Nat} {V : Int} (h : Inn10 la lb xs i k V) (hi : i < la.length) (hk : k < lb.length) (ha : Dig la) (hb : Dig lb) (s : Int)
    (hs : s = xs[i + k]?.getD 0 + la[i]?.getD 0 * lb[k]?.getD 0) :
    (0 ≤ s ∧ s ≤ 100000003) ∧ Inn10 la lb (((xs.set (i + k) s).set (i + k + 1) (xs[i + k + 1]?.getD 0 + s / 10000)).set (i + k) (s % 10000)) i (k + 1) V := by
  have hl := h.len
  obtain ⟨a1, a2⟩ := dig_at la ha i
  obtain ⟨b1, b2⟩ := dig_at lb hb k
  obtain ⟨m1, m2⟩ := mul_dig _ _ a1 a2 b1 b2
  have c1 := h.pos (i + k)
  have c2 := h.cur
  have hs0 : 0 ≤ s := by omega
  have hs1 : s ≤ 100000003 := by omega
  have hn := h.le (i + k + 1) (by omega)
  have hn0 := h.pos (i + k + 1)
  have key : ∀ j : Nat, (((xs.set (i + k) s).set (i + k + 1) (xs[i + k + 1]?.getD 0 + s / 10000)).set (i + k) (s % 10000))[j]?.getD 0 =
      if j = i + k then s % 10000 else if j = i + k + 1 then xs[i + k + 1]?.getD 0 + s / 10000 else xs[j]?.getD 0 := by
    intro j
    rw [at_set _ _ _ _ (by simp; omega), at_set _ _ _ _ (by simp; omega), at_set _ _ _ _ (by omega)]
    by_cases e : j = i + k
    · rw [if_pos e, if_pos e]
    · rw [if_neg e, if_neg e, if_neg e]
  refine ⟨⟨hs0, hs1⟩, ⟨by simpa using hl, ?_, ?_, ?_, ?_, ?_, ?_⟩⟩
  · intro j
    have := h.pos j
    rw [key]; split
    · omega
    · split <;> omega
  · intro j hj
    rw [key]
    by_cases e : j = i + k
    · rw [if_pos e]; omega
    · have := h.le j e
      rw [if_neg e, if_neg (by omega)]; exact this
  · rw [show i + (k + 1) = i + k + 1 from rfl, key, if_neg (by omega), if_pos rfl]; omega
  · intro hf j
    have hz := h.zero (i + k + 1) (by omega) (by omega)
    rw [key]
    by_cases e : j = i + k
    · rw [if_pos e]; omega
    · have := h.le j e
      rw [if_neg e]; split <;> omega
  · intro j h1 h2
    rw [key, if_neg (by omega), if_neg (by omega)]
    exact h.zero j h1 (by omega)
  · have g1 := valL_set xs (i + k) s (by omega)
    have g2 := valL_set (xs.set (i + k) s) (i + k + 1) (xs[i + k + 1]?.getD 0 + s / 10000) (by simp; omega)
    have g3 := valL_set ((xs.set (i + k) s).set (i + k + 1) (xs[i + k + 1]?.getD 0 + s / 10000)) (i + k) (s % 10000) (by simp; omega)
    rw [at_set _ _ _ _ (by omega), if_neg (by omega)] at g2
    rw [at_set _ _ _ _ (by simp; omega), if_neg (by omega), at_set _ _ _ _ (by omega), if_pos rfl] at g3
    rw [g3, g2, g1, h.val, valL_take lb k hk]
    have e1 : (10000 : Int) ^ (i + k + 1) = 10000 ^ (i + k) * 10000 := Int.pow_succ _ _
    have e2 : la[i]?.getD 0 * 10000 ^ i * (valL (lb.take k) + lb[k]?.getD 0 * 10000 ^ k) = la[i]?.getD 0 * 10000 ^ i * valL (lb.take k) + (la[i]?.getD 0 * lb[k]?.getD 0) * 10000 ^ (i + k) := by
      rw [Int.mul_add, Int.pow_add]; congr 1; ac_rfl
    have e3 : (s - xs[i + k]?.getD 0) = la[i]?.getD 0 * lb[k]?.getD 0 := by omega
    have e4 : xs[i + k + 1]?.getD 0 + s / 10000 - xs[i + k + 1]?.getD 0 = s / 10000 := by omega
    have e5 : s % 10000 - s = - (s / 10000 * 10000) := by omega
    rw [e2, e3, e4, e5, e1, Int.neg_mul, show s / 10000 * (10000 ^ (i + k) * 10000) = s / 10000 * 10000 * 10000 ^ (i + k) from by ac_rfl]
    omega

/-- What the outer loop keeps. -/
structure Out10 (la lb xs : List Int) (i : Nat) : Prop where
  len : xs.length = la.length + lb.length + 1
  bnd : ∀ j : Nat, 0 ≤ xs[j]?.getD 0 ∧ xs[j]?.getD 0 ≤ 10001
  zero : ∀ j : Nat, i + lb.length ≤ j → xs[j]?.getD 0 = 0
  val : valL xs = valL (la.take i) * valL lb
theorem Out10.inner {la lb xs : List Int} {i : Nat} (h : Out10 la lb xs i) : Inn10 la lb xs i 0 (valL xs) :=
  ⟨h.len, fun j => (h.bnd j).1, fun j _ => (h.bnd j).2, by have := (h.bnd (i + 0)).2; omega, fun _ j => (h.bnd j).2, fun j h1 _ => h.zero j h1, by simp [valL]⟩
theorem Inn10.outer {la lb xs : List Int} {i : Nat} {V : Int} (h : Inn10 la lb xs i lb.length V) (hV : V = valL (la.take i) * valL lb) (hi : i < la.length) : Out10 la lb xs (i + 1) :=
  ⟨h.len, fun j => ⟨h.pos j, h.full rfl j⟩, fun j h1 => h.zero j (by omega) (by omega), by
    rw [h.val, hV, List.take_length, valL_take la i hi, Int.add_mul]⟩
theorem valL_zeros (n : Nat) : valL (List.replicate n 0) = 0 := by
  induction n with
  | zero => rfl
  | succ n ih => simp only [List.replicate_succ, valL, ih]; omega
theorem at_zeros (n j : Nat) : (List.replicate n (0 : Int))[j]?.getD 0 = 0 := by
  by_cases h : j < n <;> simp [h]
theorem Out10.start (la lb : List Int) : Out10 la lb (List.replicate (la.length + lb.length + 1) 0) 0 :=
  ⟨by simp, fun j => by rw [at_zeros]; omega, fun j _ => at_zeros _ _, by rw [valL_zeros]; simp [valL]⟩

/-- What the loop behind it keeps, that carries what is left. -/
structure Nrm (xs : List Int) (i n : Nat) (V : Int) : Prop where
  len : xs.length = n
  pos : ∀ j : Nat, 0 ≤ xs[j]?.getD 0
  lo : ∀ j : Nat, j < i → xs[j]?.getD 0 ≤ 9999
  hi : ∀ j : Nat, i < j → xs[j]?.getD 0 ≤ 10001
  cur : xs[i]?.getD 0 ≤ 10003
  val : valL xs = V
theorem Out10.norm {la lb xs : List Int} {i : Nat} (h : Out10 la lb xs i) : Nrm xs 0 (la.length + lb.length + 1) (valL xs) :=
  ⟨h.len, fun j => (h.bnd j).1, fun j hj => by omega, fun j _ => (h.bnd j).2, by have := (h.bnd 0).2; omega, rfl⟩
theorem Nrm.step {xs : List Int} {i n : Nat} {V : Int} (h : Nrm xs i n V) (hi : i + 1 < n) :
    Nrm ((xs.set (i + 1) (xs[i + 1]?.getD 0 + xs[i]?.getD 0 / 10000)).set i (xs[i]?.getD 0 % 10000)) (i + 1) n V := by
  have hl := h.len
  have c1 := h.pos i
  have c2 := h.cur
  have d1 := h.pos (i + 1)
  have d2 := h.hi (i + 1) (by omega)
  have key : ∀ j : Nat, ((xs.set (i + 1) (xs[i + 1]?.getD 0 + xs[i]?.getD 0 / 10000)).set i (xs[i]?.getD 0 % 10000))[j]?.getD 0 =
      if j = i then xs[i]?.getD 0 % 10000 else if j = i + 1 then xs[i + 1]?.getD 0 + xs[i]?.getD 0 / 10000 else xs[j]?.getD 0 := by
    intro j
    rw [at_set _ _ _ _ (by simp; omega), at_set _ _ _ _ (by omega)]
  refine ⟨by simpa using hl, ?_, ?_, ?_, ?_, ?_⟩
  · intro j
    have := h.pos j
    rw [key]; split
    · omega
    · split <;> omega
  · intro j hj
    rw [key]
    by_cases e : j = i
    · rw [if_pos e]; omega
    · rw [if_neg e, if_neg (by omega)]; exact h.lo j (by omega)
  · intro j hj
    rw [key, if_neg (by omega), if_neg (by omega)]; exact h.hi j (by omega)
  · rw [key, if_neg (by omega), if_pos rfl]; omega
  · have g1 := valL_set xs (i + 1) (xs[i + 1]?.getD 0 + xs[i]?.getD 0 / 10000) (by omega)
    have g2 := valL_set (xs.set (i + 1) (xs[i + 1]?.getD 0 + xs[i]?.getD 0 / 10000)) i (xs[i]?.getD 0 % 10000) (by simp; omega)
    rw [at_set _ _ _ _ (by omega), if_neg (by omega)] at g2
    rw [g2, g1, h.val, Int.pow_succ]
    have e1 : xs[i + 1]?.getD 0 + xs[i]?.getD 0 / 10000 - xs[i + 1]?.getD 0 = xs[i]?.getD 0 / 10000 := by omega
    have e2 : xs[i]?.getD 0 % 10000 - xs[i]?.getD 0 = - (xs[i]?.getD 0 / 10000 * 10000) := by omega
    rw [e1, e2, Int.neg_mul, show xs[i]?.getD 0 / 10000 * (10000 ^ i * 10000) = xs[i]?.getD 0 / 10000 * 10000 * 10000 ^ i from by ac_rfl]
    omega
theorem Nrm.done {xs : List Int} {i n : Nat} {V : Int} (h : Nrm xs i n V) (hi : i + 1 = n) (hV : V < 10000 ^ i) : Dig xs := by
  have hl := h.len
  have e1 := valL_take xs i (by omega)
  rw [List.take_of_length_le (by omega), h.val] at e1
  have e2 : 0 ≤ valL (xs.take i) := valL_nonneg _ fun j => by
    rw [List.getElem?_take]; split
    · exact h.pos j
    · simp
  have hp : (0 : Int) < 10000 ^ i := Int.pow_pos (by decide)
  have h0 : xs[i]?.getD 0 = 0 := by
    have p := h.pos i
    by_cases hc : 0 < xs[i]?.getD 0
    · have := Int.mul_le_mul_of_nonneg_right (show 1 ≤ xs[i]?.getD 0 from hc) (Int.le_of_lt hp)
      omega
    · omega
  refine dig_of_at xs fun j => ⟨h.pos j, ?_⟩
  by_cases h1 : j < i
  · exact h.lo j h1
  · by_cases h2 : j = i
    · rw [h2, h0]; omega
    · rw [List.getElem?_eq_none (by omega)]; simp

theorem trim_step (xs : List Int) (m : Nat) (hm : m + 1 ≤ xs.length) (h : xs[m]?.getD 0 = 0) : valL (xs.take m) = valL (xs.take (m + 1)) := by
  rw [valL_take xs m (by omega), h]; simp
theorem trim_done (xs : List Int) (m : Nat) (hm : m + 1 ≤ xs.length) (h : xs[m]?.getD 0 ≠ 0) : Trim (xs.take (m + 1)) := by
  right
  rw [List.length_take, Nat.min_eq_left hm, Nat.add_sub_cancel, List.getElem?_take, if_pos (by omega)]
  exact h

/-- Which is greater: by the length, or by the highest digit that differs. -/
theorem cmp_len (la lb : List Int) (ha : Dig la) (hb : Dig lb) (tb : Trim lb) (h : la.length < lb.length) : valL la < valL lb := by
  rcases tb with rfl | tb
  · simp at h
  · obtain ⟨n, hn⟩ : ∃ n, lb.length = n + 1 := ⟨lb.length - 1, by omega⟩
    rw [hn, Nat.add_sub_cancel] at tb
    have e := valL_take lb n (by omega)
    rw [List.take_of_length_le (by omega)] at e
    have p := (valL_bound (lb.take n) (dig_take lb hb n)).1
    have q := (valL_bound la ha).2
    have d := dig_at lb hb n
    have hp : (0 : Int) < 10000 ^ n := Int.pow_pos (by decide)
    have hle : (10000 : Int) ^ la.length ≤ 10000 ^ n := by
      have : ((10000 ^ la.length : Nat) : Int) ≤ ((10000 ^ n : Nat) : Int) := Int.ofNat_le.2 (Nat.pow_le_pow_right (by decide) (by omega))
      simpa using this
    have := Int.mul_le_mul_of_nonneg_right (show 1 ≤ lb[n]?.getD 0 by omega) (Int.le_of_lt hp)
    omega
theorem dropL_at (l : List Int) (i : Nat) (h : i < l.length) : l.drop i = l[i]?.getD 0 :: l.drop (i + 1) := by
  rw [List.drop_eq_getElem_cons h]; simp [h]
theorem valL_split (l : List Int) (k : Nat) (h : k ≤ l.length) : valL l = valL (l.take k) + valL (l.drop k) * 10000 ^ k := by
  have e : l = l.take k ++ l.drop k := (List.take_append_drop k l).symm
  conv => lhs; rw [e]
  rw [valL_append, List.length_take, Nat.min_eq_left h]
theorem cmp_at (la lb : List Int) (i : Nat) (h1 : i < la.length) (h2 : i < lb.length) (ha : Dig la) (hb : Dig lb) (h : la.drop (i + 1) = lb.drop (i + 1))
    (hne : la[i]?.getD 0 ≠ lb[i]?.getD 0) : valL lb < valL la ↔ lb[i]?.getD 0 < la[i]?.getD 0 := by
  have e1 := valL_split la i (by omega)
  have e2 := valL_split lb i (by omega)
  rw [dropL_at la i h1, valL, h, Int.add_mul] at e1
  rw [dropL_at lb i h2, valL, Int.add_mul] at e2
  have l1 := valL_bound (la.take i) (dig_take la ha i)
  have l2 := valL_bound (lb.take i) (dig_take lb hb i)
  rw [List.length_take, Nat.min_eq_left (by omega)] at l1 l2
  have hp : (0 : Int) < 10000 ^ i := Int.pow_pos (by decide)
  generalize la[i]?.getD 0 = x at *
  generalize lb[i]?.getD 0 = y at *
  have key : ∀ x y : Int, x < y → x * 10000 ^ i + 10000 ^ i ≤ y * 10000 ^ i := by
    intro x y hxy
    have := Int.mul_le_mul_of_nonneg_right (show x + 1 ≤ y by omega) (Int.le_of_lt hp)
    rwa [Int.add_mul, Int.one_mul] at this
  constructor
  · intro hlt
    by_cases h' : y < x
    · exact h'
    · have := key x y (by omega)
      omega
  · intro hlt
    have := key y x hlt
    omega

/-- What is kept while the digits of x are laid. -/
structure Of10 (x y : Int) (l : List Int) : Prop where
  y0 : 0 ≤ y
  y1 : y ≤ x
  val : y * 10000 ^ l.length + valL l = x
  dig : Dig l
  trim : y = 0 → Trim l
  lt : y < 10000 ^ (20 - l.length)
  len : l.length ≤ 20
theorem Of10.start (x : Int) (h0 : 0 ≤ x) (h1 : x < 18446744073709551616) : Of10 x x [] :=
  ⟨h0, Int.le_refl _, by simp [valL], by simp [Dig], fun _ => .inl rfl, by simp; omega, by simp⟩
theorem Of10.step {x y : Int} {l : List Int} (h : Of10 x y l) (hy : 0 < y) : Of10 x (y / 10000) (l ++ [y % 10000]) ∧ l.length < 20 := by
  obtain ⟨a1, a2, a3, a4, a5, a6, a7⟩ := h
  have hl : l.length < 20 := by
    by_cases hc : l.length < 20
    · exact hc
    · rw [show 20 - l.length = 0 from by omega, Int.pow_zero] at a6; omega
  refine ⟨⟨by omega, by omega, ?_, ?_, ?_, ?_, by simp; omega⟩, hl⟩
  · rw [valL_append, List.length_append, List.length_singleton, Int.pow_succ]
    simp only [valL, Int.mul_zero, Int.add_zero]
    rw [show y / 10000 * (10000 ^ l.length * 10000) = y / 10000 * 10000 * 10000 ^ l.length from by ac_rfl]
    have e : y = y / 10000 * 10000 + y % 10000 := by omega
    have e2 : y * 10000 ^ l.length = (y / 10000 * 10000 + y % 10000) * 10000 ^ l.length := by rw [← e]
    rw [Int.add_mul] at e2
    omega
  · intro z hz
    rcases List.mem_append.1 hz with h | h
    · exact a4 z h
    · simp at h; omega
  · intro hz
    right
    simp
    omega
  · rw [List.length_append, List.length_singleton]
    rw [show 20 - l.length = (20 - (l.length + 1)) + 1 from by omega, Int.pow_succ] at a6
    omega
end Go.Proofs.YtpmeiadnikenmaaDoor
