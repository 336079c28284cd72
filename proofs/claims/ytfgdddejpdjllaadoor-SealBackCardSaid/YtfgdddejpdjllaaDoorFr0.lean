/-
  Times: The product of two numbers of four 32-bit words, as the Go text makes it, is their product modulo 2^128.
  Power: The power of a number of 64 bits, as the Go text makes it of four words, is that power modulo 2^128.
  Root: Whether a number of four words is above another one, as the Go text asks it; the k-th root of such a number, bit by bit.
  Frac: Frac, of any number: the error, or what is behind the whole part of the root.
  Roots: The root that is found bit by bit is the root, rounded down; what is behind its whole part.
  Digits: Plain facts on numbers of digits by 10000, the lowest first, over no program.
  Long: The reference's numbers of digits by 10000: made of a number, their product, their power, which is greater.
  RefFrac: The reference's Frac, of any number: what num's answers.
-/
import Derived.Test.YtfgdddejpdjllaaDoorRows
import Derived.WalkKit
import Derived.WalkSpells
import Derived.WalkLawsBesides
import Derived.Deep.QuietTactic
import Derived.BigQuiet
import Derived.Lib.Hide
import Derived.Laws.Tables
import Derived.WalkSmall
import Derived.Test.YtfgdddejpdjllaaDoorLow
import Derived.Test.YtfgdddejpdjllaaDoorWide
import Derived.Deep.RegionWith
import Derived.BigRegion
namespace Go.Proofs.YtfgdddejpdjllaaDoor
set_option maxRecDepth 4000
open Go.RowKit

/-- Words in memory: block g holds them. -/
def wordsOf (xs : List Nat) : Array Value := (xs.map fun n : Nat => Value.int .u32 (n : Int)).toArray
def Small (xs : List Nat) : Prop := ∀ d ∈ xs, d < 4294967296

theorem small_at {xs : List Nat} (h : Small xs) (k : Nat) : xs[k]?.getD 0 < 4294967296 := by
  by_cases hk : k < xs.length
  · simp only [List.getElem?_eq_getElem hk, Option.getD_some]
    exact h _ (List.getElem_mem hk)
  · simp [List.getElem?_eq_none (by omega : xs.length ≤ k)]
theorem small_set {xs : List Nat} (h : Small xs) (k v : Nat) (hv : v < 4294967296) : Small (xs.set k v) := by
  intro d hd
  rcases List.mem_or_eq_of_mem_set hd with h' | rfl
  · exact h d h'
  · exact hv
theorem mul_small (a b : Nat) (ha : a < 4294967296) (hb : b < 4294967296) : a * b ≤ 18446744065119617025 := by
  have := Nat.mul_le_mul (Nat.le_of_lt_succ ha : a ≤ 4294967295) (Nat.le_of_lt_succ hb : b ≤ 4294967295)
  simpa using this

theorem four (w : World) (A B C D : Obj) : ((((w.alloc A).alloc B).alloc C).alloc D).heap[w.heap.size + 1 + 1 + 1]? = some D ∧ ((((w.alloc A).alloc B).alloc C).alloc D).heap[w.heap.size + 1 + 1]? = some C ∧
    ((((w.alloc A).alloc B).alloc C).alloc D).heap[w.heap.size + 1]? = some B ∧ ((((w.alloc A).alloc B).alloc C).alloc D).heap.size = w.heap.size + 4 ∧ Below w.heap.size w ((((w.alloc A).alloc B).alloc C).alloc D) := by
  refine ⟨?_, ?_, ?_, ?_, ((((Below.refl w.heap.size w).alloc (Nat.le_refl _) A).alloc (by simp) B).alloc (by simp; omega) C).alloc (by simp; omega) D⟩
  · show ((((w.heap.push A).push B).push C).push D)[w.heap.size + 1 + 1 + 1]? = _
    simp [Array.getElem_push]
  · show ((((w.heap.push A).push B).push C).push D)[w.heap.size + 1 + 1]? = _
    simp [Array.getElem_push]
  · show ((((w.heap.push A).push B).push C).push D)[w.heap.size + 1]? = _
    simp [Array.getElem_push]
  · simp

theorem below_row {B : Nat} {a w : World} (h : Below B a w) {g : Nat} (hg : B ≤ g) (cs : Array Value) : Below B a (w.setRow g cs) :=
  h.trans ⟨rfl, rfl, rfl, by simp, fun k hk => setRow_other w g k cs (by omega)⟩
theorem words_one (xs : List Nat) : (wordsOf xs).all (·.oneCell') = true := by
  rw [Array.all_eq_true_iff_forall_mem]
  intro v hv
  simp only [wordsOf, List.mem_toArray, List.mem_map] at hv
  obtain ⟨n, _, rfl⟩ := hv
  rfl
end Go.Proofs.YtfgdddejpdjllaaDoor
namespace Go.Proofs.YtfgdddejpdjllaaDoor
set_option maxRecDepth 4000
open Go.RowKit
def wd (x : Nat) : List Nat := [x % 4294967296, x / 4294967296 % 4294967296, 0, 0]
theorem wd_length (x : Nat) : (wd x).length = 4 := rfl
theorem wd_small (x : Nat) : Small (wd x) := by
  intro d hd
  simp only [wd, List.mem_cons, List.not_mem_nil, or_false] at hd
  omega
theorem wd_val (x : Nat) (h : x < 18446744073709551616) : val (wd x) = x := by simp only [wd, val]; omega

end Go.Proofs.YtfgdddejpdjllaaDoor
namespace Go.Proofs.YtfgdddejpdjllaaDoor
set_option maxRecDepth 4000
open Go.RowKit
theorem two (w : World) (A B : Obj) : ((w.alloc A).alloc B).heap[w.heap.size]? = some A ∧ ((w.alloc A).alloc B).heap[w.heap.size + 1]? = some B ∧ ((w.alloc A).alloc B).heap.size = w.heap.size + 2 ∧ Below w.heap.size w ((w.alloc A).alloc B) := by
  refine ⟨?_, ?_, ?_, ((Below.refl w.heap.size w).alloc (Nat.le_refl _) A).alloc (by simp) B⟩
  · rw [Below.heap_alloc _ _ _ (by simp)]; exact heap_alloc_new w A
  · show ((w.heap.push A).push B)[w.heap.size + 1]? = _
    simp [Array.getElem_push]
  · simp

theorem bcell {W w1 : World} (hb : Below W.heap.size W w1) : (∀ b o, b < W.heap.size → w1.cell? ⟨b, o, none⟩ = W.cell? ⟨b, o, none⟩) ∧ (∀ b o, b < W.heap.size → w1.frozen? ⟨b, o, none⟩ = W.frozen? ⟨b, o, none⟩) :=
  ⟨fun b o h => hb.cell (p := ⟨b, o, none⟩) h, fun b o h => hb.frozen (p := ⟨b, o, none⟩) h⟩

theorem place_or (f n : Nat) (hn : n ≤ 39) (hf : f % 2 ^ (n + 1) = 0) (hl : f < 2 ^ 40) : bits BinOp.or IntKind.u64 (f : Int) (IntKind.u64.wrap (2 ^ n)) = ((f + 2 ^ n : Nat) : Int) := by
  have h1 : 2 ^ n ≤ 2 ^ 39 := Nat.pow_le_pow_right (by decide) hn
  have e1 : ((2 : Int) ^ n) = ((2 ^ n : Nat) : Int) := by simp
  rw [e1, wrap_u64_of _ (by omega), bits_or_u64 _ _ (by omega) (by omega)]
  have h2 := Nat.div_add_mod f (2 ^ (n + 1))
  rw [hf, Nat.add_zero, Nat.mul_comm] at h2
  have h3 := or_add (f / 2 ^ (n + 1)) (2 ^ n) (n + 1) (by rw [Nat.pow_succ]; have := Nat.two_pow_pos n; omega)
  rw [h2] at h3
  rw [h3]
theorem place_lt (f n : Nat) (hn : n ≤ 39) (hf : f % 2 ^ (n + 1) = 0) (hl : f < 2 ^ 40) : f + 2 ^ n < 2 ^ 40 ∧ (f + 2 ^ n) % 2 ^ n = 0 ∧ f % 2 ^ n = 0 := by
  have h2 := Nat.div_add_mod f (2 ^ (n + 1))
  rw [hf, Nat.add_zero] at h2
  generalize f / 2 ^ (n + 1) = q at *
  subst h2
  have e : (2 : Nat) ^ 40 = 2 ^ (n + 1) * 2 ^ (39 - n) := by rw [← Nat.pow_add]; congr 1; omega
  rw [e] at hl ⊢
  have hq := Nat.lt_of_mul_lt_mul_left hl
  have h3 := Nat.mul_le_mul_left (2 ^ (n + 1)) (Nat.succ_le_of_lt hq)
  rw [Nat.mul_succ] at h3
  have h4 := Nat.two_pow_pos n
  refine ⟨by rw [Nat.pow_succ] at *; omega, ?_, ?_⟩
  · rw [Nat.pow_succ, Nat.mul_assoc]; simp
  · rw [Nat.pow_succ, Nat.mul_assoc]; simp

/-- The k-th root of p times 2^(32 k), rounded down, by its bits. -/
def rootUpto (g k : Nat) : Nat → Nat → Nat
  | 0, f => f
  | n + 1, f => rootUpto g k n (if (f + 2 ^ n) ^ k ≤ g then f + 2 ^ n else f)

end Go.Proofs.YtfgdddejpdjllaaDoor
namespace Go.Proofs.YtfgdddejpdjllaaDoor
set_option maxRecDepth 4000
open Go.RowKit
/-- What Frac answers where it answers. -/
def fracI (p k : Nat) : Nat := rootUpto (p * 4294967296 ^ k) k 40 0 % 4294967296

end Go.Proofs.YtfgdddejpdjllaaDoor
namespace Go.Proofs.YtfgdddejpdjllaaDoor
set_option maxRecDepth 4000
open Go.RowKit
theorem rootUpto_spec (g k : Nat) : ∀ n f, f ^ k ≤ g → g < (f + 2 ^ n) ^ k → (rootUpto g k n f) ^ k ≤ g ∧ g < (rootUpto g k n f + 1) ^ k := by
  intro n
  induction n with
  | zero => intro f h1 h2; exact ⟨h1, by simpa [rootUpto] using h2⟩
  | succ n ih =>
    intro f h1 h2
    simp only [rootUpto]
    split
    · next h => exact ih _ h (by rwa [show f + 2 ^ n + 2 ^ n = f + 2 ^ (n + 1) from by rw [Nat.pow_succ]; omega])
    · next h => exact ih _ h1 (by omega)

theorem root_le (r s g k : Nat) (h1 : r ^ k ≤ g) (h2 : g < (s + 1) ^ k) : r ≤ s := by
  rcases Nat.lt_or_ge s r with h | h
  · have := Nat.pow_le_pow_left (show s + 1 ≤ r from h) k
    omega
  · exact h

theorem root_of (p k : Nat) (hk : k = 2 ∨ k = 3) (h2 : p ≤ 65535) :
    (rootUpto (p * 4294967296 ^ k) k 40 0) ^ k ≤ p * 4294967296 ^ k ∧ p * 4294967296 ^ k < (rootUpto (p * 4294967296 ^ k) k 40 0 + 1) ^ k := by
  refine rootUpto_spec _ k 40 0 ?_ ?_
  · rcases hk with rfl | rfl <;> simp
  · rcases hk with rfl | rfl
    · rw [show (0 + 2 ^ 40) ^ 2 = 65536 * 4294967296 ^ 2 from by decide]
      exact Nat.mul_lt_mul_of_pos_right (by omega) (by decide)
    · rw [show (0 + 2 ^ 40) ^ 3 = 16777216 * 4294967296 ^ 3 from by decide]
      exact Nat.mul_lt_mul_of_pos_right (by omega) (by decide)

/-- What is behind the whole part s of p's root, if that is s. -/
theorem frac_of (p k s : Nat) (hk : k = 2 ∨ k = 3) (h2 : p ≤ 65535) (hs : s ^ k ≤ p) (ht : p < (s + 1) ^ k) :
    rootUpto (p * 4294967296 ^ k) k 40 0 = s * 4294967296 + fracI p k := by
  obtain ⟨r1, r2⟩ := root_of p k hk h2
  have k0 : 0 < 4294967296 ^ k := Nat.pow_pos (by decide)
  have a1 : s * 4294967296 ≤ rootUpto (p * 4294967296 ^ k) k 40 0 := by
    refine root_le _ _ _ k ?_ r2
    rw [Nat.mul_pow]
    exact Nat.mul_le_mul_right _ hs
  have a2 : rootUpto (p * 4294967296 ^ k) k 40 0 < (s + 1) * 4294967296 := by
    rcases Nat.lt_or_ge (rootUpto (p * 4294967296 ^ k) k 40 0) ((s + 1) * 4294967296) with h | h
    · exact h
    · have := Nat.pow_le_pow_left h k
      rw [Nat.mul_pow] at this
      have := Nat.mul_lt_mul_of_pos_right ht k0
      omega
  unfold fracI
  omega

theorem frac_lt (p k : Nat) : fracI p k < 4294967296 := Nat.mod_lt _ (by decide)

theorem pow_next (a k : Nat) (hk : k = 2 ∨ k = 3) : a ^ k < (a + 1) ^ k := by
  rcases hk with rfl | rfl <;> exact Nat.pow_lt_pow_left (by omega) (by decide)
/-- A whole root has nothing behind it. -/
theorem frac_whole (s k : Nat) (hk : k = 2 ∨ k = 3) (h2 : s ^ k ≤ 65535) : fracI (s ^ k) k = 0 := by
  have hlt : s ^ k < (s + 1) ^ k := by rcases hk with rfl | rfl <;> exact Nat.pow_lt_pow_left (by omega) (by decide)
  have h := frac_of (s ^ k) k s hk h2 (Nat.le_refl _) hlt
  obtain ⟨r1, r2⟩ := root_of (s ^ k) k hk h2
  have a1 : rootUpto (s ^ k * 4294967296 ^ k) k 40 0 ≤ s * 4294967296 := by
    refine root_le _ _ _ k r1 ?_
    rw [← Nat.mul_pow]
    generalize s * 4294967296 = t
    exact pow_next t k hk
  omega

theorem sq_one (s b : Nat) : (s * b + 1) ^ 2 = s * s * (b * b) + 2 * (s * b) + 1 := by
  rw [Nat.pow_two, Nat.add_mul, Nat.mul_add, Nat.mul_mul_mul_comm]; omega
theorem frac_more (s : Nat) (h1 : 1 ≤ s) (h2 : s ≤ 254) : 0 < fracI (s * s + s + 1) 2 := by
  have hp : s * s + s + 1 ≤ 65535 := by
    have := Nat.mul_le_mul h2 h2
    omega
  have e1 : s ^ 2 = s * s := Nat.pow_two s
  have e2 : (s + 1) ^ 2 = s * s + 2 * s + 1 := by rw [Nat.pow_two, Nat.add_mul, Nat.mul_add]; omega
  have h := frac_of (s * s + s + 1) 2 s (.inl rfl) hp (by omega) (by omega)
  obtain ⟨r1, r2⟩ := root_of (s * s + s + 1) 2 (.inl rfl) hp
  have a1 : s * 4294967296 + 1 ≤ rootUpto ((s * s + s + 1) * 4294967296 ^ 2) 2 40 0 := by
    refine root_le _ _ _ 2 ?_ r2
    have e := sq_one s 4294967296
    simp only [Nat.reduceMul] at e
    rw [e, show (4294967296 : Nat) ^ 2 = 18446744073709551616 from by decide]
    generalize s * s = t at *
    omega
  omega

theorem frac_mono (p q s : Nat) (hpq : p ≤ q) (h2 : q ≤ 65535) (hs : s ^ 2 ≤ p) (ht : q < (s + 1) ^ 2) : fracI p 2 ≤ fracI q 2 := by
  have hp := frac_of p 2 s (.inl rfl) (by omega) hs (by omega)
  have hq := frac_of q 2 s (.inl rfl) h2 (by omega) ht
  obtain ⟨r1, r2⟩ := root_of p 2 (.inl rfl) (by omega)
  obtain ⟨s1, s2⟩ := root_of q 2 (.inl rfl) h2
  have : rootUpto (p * 4294967296 ^ 2) 2 40 0 ≤ rootUpto (q * 4294967296 ^ 2) 2 40 0 :=
    root_le _ _ _ 2 (Nat.le_trans r1 (Nat.mul_le_mul_right _ hpq)) s2
  omega
end Go.Proofs.YtfgdddejpdjllaaDoor
namespace Go.Proofs.YtfgdddejpdjllaaDoor
set_option maxRecDepth 4000
open Go.RowKit

/-- What digits are worth. -/
def valL : List Int → Int
  | [] => 0
  | d :: r => d + 10000 * valL r
def Dig (l : List Int) : Prop := ∀ z ∈ l, 0 ≤ z ∧ z ≤ 9999
/-- The highest digit isn't nought. -/
def Trim (l : List Int) : Prop := l = [] ∨ l[l.length - 1]?.getD 0 ≠ 0

theorem at_set (l : List Int) (k j : Nat) (v : Int) (h : k < l.length) : (l.set k v)[j]?.getD 0 = if j = k then v else l[j]?.getD 0 := by
  by_cases e : j = k
  · subst e; simp [h]
  · rw [if_neg e, List.getElem?_set_ne (Ne.symm e)]

theorem valL_set (l : List Int) : ∀ k v, k < l.length → valL (l.set k v) = valL l + (v - l[k]?.getD 0) * 10000 ^ k := by
  induction l with
  | nil => intro k v h; simp at h
  | cons d r ih =>
    intro k v h
    cases k with
    | zero => simp [valL]; omega
    | succ k =>
      have := ih k v (by simpa using h)
      simp only [List.set_cons_succ, valL, List.getElem?_cons_succ, Int.pow_succ, this]
      rw [← Int.mul_assoc]
      omega
theorem valL_append (l m : List Int) : valL (l ++ m) = valL l + valL m * 10000 ^ l.length := by
  induction l with
  | nil => simp [valL]
  | cons d r ih =>
    simp only [List.cons_append, valL, ih, List.length_cons, Int.pow_succ]
    rw [← Int.mul_assoc]
    omega
theorem valL_take (l : List Int) (k : Nat) (h : k < l.length) : valL (l.take (k + 1)) = valL (l.take k) + l[k]?.getD 0 * 10000 ^ k := by
  rw [take_next l k h, valL_append]
  simp [valL, List.length_take, Nat.min_eq_left (Nat.le_of_lt h)]
theorem valL_bound (l : List Int) : Dig l → 0 ≤ valL l ∧ valL l < 10000 ^ l.length := by
  induction l with
  | nil => intro _; simp [valL]
  | cons d r ih =>
    intro h
    have h1 := h d (by simp)
    have h2 := ih fun z hz => h z (by simp [hz])
    simp only [valL, List.length_cons, Int.pow_succ]
    omega
theorem dig_at (l : List Int) (h : Dig l) (k : Nat) : 0 ≤ l[k]?.getD 0 ∧ l[k]?.getD 0 ≤ 9999 := by
  by_cases hk : k < l.length
  · simp only [List.getElem?_eq_getElem hk, Option.getD_some]
    exact h _ (List.getElem_mem hk)
  · simp [List.getElem?_eq_none (by omega : l.length ≤ k)]
theorem dig_of_at (l : List Int) (h : ∀ j : Nat, 0 ≤ l[j]?.getD 0 ∧ l[j]?.getD 0 ≤ 9999) : Dig l := by
  intro z hz
  obtain ⟨i, hi, rfl⟩ := List.getElem_of_mem hz
  have := h i
  simpa [hi] using this
theorem dig_take (l : List Int) (h : Dig l) (k : Nat) : Dig (l.take k) := fun z hz => h z (List.mem_of_mem_take hz)
theorem valL_nonneg (l : List Int) (h : ∀ j : Nat, 0 ≤ l[j]?.getD 0) : 0 ≤ valL l := by
  induction l with
  | nil => simp [valL]
  | cons d r ih =>
    have h1 : 0 ≤ d := by simpa using h 0
    have h2 := ih fun j => by simpa using h (j + 1)
    simp only [valL]; omega
theorem mul_dig (a b : Int) (ha : 0 ≤ a) (ha' : a ≤ 9999) (hb : 0 ≤ b) (hb' : b ≤ 9999) : 0 ≤ a * b ∧ a * b ≤ 99980001 := by
  refine ⟨Int.mul_nonneg ha hb, ?_⟩
  have h1 : a * b ≤ 9999 * b := Int.mul_le_mul_of_nonneg_right ha' hb
  omega

/-- What the inner loop of a product keeps of the digits. -/
structure Inn10 (la lb xs : List Int) (i k : Nat) (V : Int) : Prop where
  len : xs.length = la.length + lb.length + 1
  pos : ∀ j : Nat, 0 ≤ xs[j]?.getD 0
  le : ∀ j : Nat, j ≠ i + k → xs[j]?.getD 0 ≤ 10001
  cur : xs[i + k]?.getD 0 ≤ 20002
  full : k = lb.length → ∀ j : Nat, xs[j]?.getD 0 ≤ 10001
  zero : ∀ j : Nat, i + lb.length ≤ j → i + k < j → xs[j]?.getD 0 = 0
  val : valL xs = V + la[i]?.getD 0 * 10000 ^ i * valL (lb.take k)

/-- One round of it: three stores. -/
theorem Inn10.step {la lb xs : List Int} {i k : Nat} {V : Int} (h : Inn10 la lb xs i k V) (hi : i < la.length) (hk : k < lb.length) (ha : Dig la) (hb : Dig lb) (s : Int)
    (hs : s = xs[i + k]?.getD 0 + la[i]?.getD 0 * lb[k]?.getD 0) :
    (0 ≤ s ∧ s ≤ 100000003) ∧ Inn10 la lb (((xs.set (i + k) s).set (i + k + 1) (xs[i + k + 1]?.getD 0 + s / 10000)).set (i + k) (s % 10000)) i (k + 1) V := by
  have hl := h.len
  obtain ⟨a1, a2⟩ := dig_at la ha i
  obtain ⟨b1, b2⟩ := dig_at lb hb k
  obtain ⟨m1, m2⟩ := mul_dig _ _ a1 a2 b1 b2
  have c1 := h.pos (i + k)
  have c2 := h.cur
  have hs0 : 0 ≤ s := by omega
  have hs1 : s ≤ 100000003 := by omega
  have hn := h.le (i + k + 1) (by omega)
  have hn0 := h.pos (i + k + 1)
  have key : ∀ j : Nat, (((xs.set (i + k) s).set (i + k + 1) (xs[i + k + 1]?.getD 0 + s / 10000)).set (i + k) (s % 10000))[j]?.getD 0 =
      if j = i + k then s % 10000 else if j = i + k + 1 then xs[i + k + 1]?.getD 0 + s / 10000 else xs[j]?.getD 0 := by
    intro j
    rw [at_set _ _ _ _ (by simp; omega), at_set _ _ _ _ (by simp; omega), at_set _ _ _ _ (by omega)]
    by_cases e : j = i + k
    · rw [if_pos e, if_pos e]
    · rw [if_neg e, if_neg e, if_neg e]
  refine ⟨⟨hs0, hs1⟩, ⟨by simpa using hl, ?_, ?_, ?_, ?_, ?_, ?_⟩⟩
  · intro j
    have := h.pos j
    rw [key]; split
    · omega
    · split <;> omega
  · intro j hj
    rw [key]
    by_cases e : j = i + k
    · rw [if_pos e]; omega
    · have := h.le j e
      rw [if_neg e, if_neg (by omega)]; exact this
  · rw [show i + (k + 1) = i + k + 1 from rfl, key, if_neg (by omega), if_pos rfl]; omega
  · intro hf j
    have hz := h.zero (i + k + 1) (by omega) (by omega)
    rw [key]
    by_cases e : j = i + k
    · rw [if_pos e]; omega
    · have := h.le j e
      rw [if_neg e]; split <;> omega
  · intro j h1 h2
    rw [key, if_neg (by omega), if_neg (by omega)]
    exact h.zero j h1 (by omega)
  · have g1 := valL_set xs (i + k) s (by omega)
    have g2 := valL_set (xs.set (i + k) s) (i + k + 1) (xs[i + k + 1]?.getD 0 + s / 10000) (by simp; omega)
    have g3 := valL_set ((xs.set (i + k) s).set (i + k + 1) (xs[i + k + 1]?.getD 0 + s / 10000)) (i + k) (s % 10000) (by simp; omega)
    rw [at_set _ _ _ _ (by omega), if_neg (by omega)] at g2
    rw [at_set _ _ _ _ (by simp; omega), if_neg (by omega), at_set _ _ _ _ (by omega), if_pos rfl] at g3
    rw [g3, g2, g1, h.val, valL_take lb k hk]
    have e1 : (10000 : Int) ^ (i + k + 1) = 10000 ^ (i + k) * 10000 := Int.pow_succ _ _
    have e2 : la[i]?.getD 0 * 10000 ^ i * (valL (lb.take k) + lb[k]?.getD 0 * 10000 ^ k) = la[i]?.getD 0 * 10000 ^ i * valL (lb.take k) + (la[i]?.getD 0 * lb[k]?.getD 0) * 10000 ^ (i + k) := by
      rw [Int.mul_add, Int.pow_add]; congr 1; ac_rfl
    have e3 : (s - xs[i + k]?.getD 0) = la[i]?.getD 0 * lb[k]?.getD 0 := by omega
    have e4 : xs[i + k + 1]?.getD 0 + s / 10000 - xs[i + k + 1]?.getD 0 = s / 10000 := by omega
    have e5 : s % 10000 - s = - (s / 10000 * 10000) := by omega
    rw [e2, e3, e4, e5, e1, Int.neg_mul, show s / 10000 * (10000 ^ (i + k) * 10000) = s / 10000 * 10000 * 10000 ^ (i + k) from by ac_rfl]
    omega

/-- What the outer loop keeps. -/
structure Out10 (la lb xs : List Int) (i : Nat) : Prop where
  len : xs.length = la.length + lb.length + 1
  bnd : ∀ j : Nat, 0 ≤ xs[j]?.getD 0 ∧ xs[j]?.getD 0 ≤ 10001
  zero : ∀ j : Nat, i + lb.length ≤ j → xs[j]?.getD 0 = 0
  val : valL xs = valL (la.take i) * valL lb
theorem Out10.inner {la lb xs : List Int} {i : Nat} (h : Out10 la lb xs i) : Inn10 la lb xs i 0 (valL xs) :=
  ⟨h.len, fun j => (h.bnd j).1, fun j _ => (h.bnd j).2, by have := (h.bnd (i + 0)).2; omega, fun _ j => (h.bnd j).2, fun j h1 _ => h.zero j h1, by simp [valL]⟩
theorem Inn10.outer {la lb xs : List Int} {i : Nat} {V : Int} (h : Inn10 la lb xs i lb.length V) (hV : V = valL (la.take i) * valL lb) (hi : i < la.length) : Out10 la lb xs (i + 1) :=
  ⟨h.len, fun j => ⟨h.pos j, h.full rfl j⟩, fun j h1 => h.zero j (by omega) (by omega), by
    rw [h.val, hV, List.take_length, valL_take la i hi, Int.add_mul]⟩
theorem valL_zeros (n : Nat) : valL (List.replicate n 0) = 0 := by
  induction n with
  | zero => rfl
  | succ n ih => simp only [List.replicate_succ, valL, ih]; omega
theorem at_zeros (n j : Nat) : (List.replicate n (0 : Int))[j]?.getD 0 = 0 := by
  by_cases h : j < n <;> simp [h]
theorem Out10.start (la lb : List Int) : Out10 la lb (List.replicate (la.length + lb.length + 1) 0) 0 :=
  ⟨by simp, fun j => by rw [at_zeros]; omega, fun j _ => at_zeros _ _, by rw [valL_zeros]; simp [valL]⟩

/-- What the loop behind it keeps, that carries what is left. -/
structure Nrm (xs : List Int) (i n : Nat) (V : Int) : Prop where
  len : xs.length = n
  pos : ∀ j : Nat, 0 ≤ xs[j]?.getD 0
  lo : ∀ j : Nat, j < i → xs[j]?.getD 0 ≤ 9999
  hi : ∀ j : Nat, i < j → xs[j]?.getD 0 ≤ 10001
  cur : xs[i]?.getD 0 ≤ 10003
  val : valL xs = V
theorem Out10.norm {la lb xs : List Int} {i : Nat} (h : Out10 la lb xs i) : Nrm xs 0 (la.length + lb.length + 1) (valL xs) :=
  ⟨h.len, fun j => (h.bnd j).1, fun j hj => by omega, fun j _ => (h.bnd j).2, by have := (h.bnd 0).2; omega, rfl⟩
theorem Nrm.step {xs : List Int} {i n : Nat} {V : Int} (h : Nrm xs i n V) (hi : i + 1 < n) :
    Nrm ((xs.set (i + 1) (xs[i + 1]?.getD 0 + xs[i]?.getD 0 / 10000)).set i (xs[i]?.getD 0 % 10000)) (i + 1) n V := by
  have hl := h.len
  have c1 := h.pos i
  have c2 := h.cur
  have d1 := h.pos (i + 1)
  have d2 := h.hi (i + 1) (by omega)
  have key : ∀ j : Nat, ((xs.set (i + 1) (xs[i + 1]?.getD 0 + xs[i]?.getD 0 / 10000)).set i (xs[i]?.getD 0 % 10000))[j]?.getD 0 =
      if j = i then xs[i]?.getD 0 % 10000 else if j = i + 1 then xs[i + 1]?.getD 0 + xs[i]?.getD 0 / 10000 else xs[j]?.getD 0 := by
    intro j
    rw [at_set _ _ _ _ (by simp; omega), at_set _ _ _ _ (by omega)]
  refine ⟨by simpa using hl, ?_, ?_, ?_, ?_, ?_⟩
  · intro j
    have := h.pos j
    rw [key]; split
    · omega
    · split <;> omega
  · intro j hj
    rw [key]
    by_cases e : j = i
    · rw [if_pos e]; omega
    · rw [if_neg e, if_neg (by omega)]; exact h.lo j (by omega)
  · intro j hj
    rw [key, if_neg (by omega), if_neg (by omega)]; exact h.hi j (by omega)
  · rw [key, if_neg (by omega), if_pos rfl]; omega
  · have g1 := valL_set xs (i + 1) (xs[i + 1]?.getD 0 + xs[i]?.getD 0 / 10000) (by omega)
    have g2 := valL_set (xs.set (i + 1) (xs[i + 1]?.getD 0 + xs[i]?.getD 0 / 10000)) i (xs[i]?.getD 0 % 10000) (by simp; omega)
    rw [at_set _ _ _ _ (by omega), if_neg (by omega)] at g2
    rw [g2, g1, h.val, Int.pow_succ]
    have e1 : xs[i + 1]?.getD 0 + xs[i]?.getD 0 / 10000 - xs[i + 1]?.getD 0 = xs[i]?.getD 0 / 10000 := by omega
    have e2 : xs[i]?.getD 0 % 10000 - xs[i]?.getD 0 = - (xs[i]?.getD 0 / 10000 * 10000) := by omega
    rw [e1, e2, Int.neg_mul, show xs[i]?.getD 0 / 10000 * (10000 ^ i * 10000) = xs[i]?.getD 0 / 10000 * 10000 * 10000 ^ i from by ac_rfl]
    omega
theorem Nrm.done {xs : List Int} {i n : Nat} {V : Int} (h : Nrm xs i n V) (hi : i + 1 = n) (hV : V < 10000 ^ i) : Dig xs := by
  have hl := h.len
  have e1 := valL_take xs i (by omega)
  rw [List.take_of_length_le (by omega), h.val] at e1
  have e2 : 0 ≤ valL (xs.take i) := valL_nonneg _ fun j => by
    rw [List.getElem?_take]; split
    · exact h.pos j
    · simp
  have hp : (0 : Int) < 10000 ^ i := Int.pow_pos (by decide)
  have h0 : xs[i]?.getD 0 = 0 := by
    have p := h.pos i
    by_cases hc : 0 < xs[i]?.getD 0
    · have := Int.mul_le_mul_of_nonneg_right (show 1 ≤ xs[i]?.getD 0 from hc) (Int.le_of_lt hp)
      omega
    · omega
  refine dig_of_at xs fun j => ⟨h.pos j, ?_⟩
  by_cases h1 : j < i
  · exact h.lo j h1
  · by_cases h2 : j = i
    · rw [h2, h0]; omega
    · rw [List.getElem?_eq_none (by omega)]; simp

theorem trim_step (xs : List Int) (m : Nat) (hm : m + 1 ≤ xs.length) (h : xs[m]?.getD 0 = 0) : valL (xs.take m) = valL (xs.take (m + 1)) := by
  rw [valL_take xs m (by omega), h]; simp
theorem trim_done (xs : List Int) (m : Nat) (hm : m + 1 ≤ xs.length) (h : xs[m]?.getD 0 ≠ 0) : Trim (xs.take (m + 1)) := by
  right
  rw [List.length_take, Nat.min_eq_left hm, Nat.add_sub_cancel, List.getElem?_take, if_pos (by omega)]
  exact h

/-- Which is greater: by the length, or by the highest digit that differs. -/
theorem cmp_len (la lb : List Int) (ha : Dig la) (hb : Dig lb) (tb : Trim lb) (h : la.length < lb.length) : valL la < valL lb := by
  rcases tb with rfl | tb
  · simp at h
  · obtain ⟨n, hn⟩ : ∃ n, lb.length = n + 1 := ⟨lb.length - 1, by omega⟩
    rw [hn, Nat.add_sub_cancel] at tb
    have e := valL_take lb n (by omega)
    rw [List.take_of_length_le (by omega)] at e
    have p := (valL_bound (lb.take n) (dig_take lb hb n)).1
    have q := (valL_bound la ha).2
    have d := dig_at lb hb n
    have hp : (0 : Int) < 10000 ^ n := Int.pow_pos (by decide)
    have hle : (10000 : Int) ^ la.length ≤ 10000 ^ n := by
      have : ((10000 ^ la.length : Nat) : Int) ≤ ((10000 ^ n : Nat) : Int) := Int.ofNat_le.2 (Nat.pow_le_pow_right (by decide) (by omega))
      simpa using this
    have := Int.mul_le_mul_of_nonneg_right (show 1 ≤ lb[n]?.getD 0 by omega) (Int.le_of_lt hp)
    omega
theorem dropL_at (l : List Int) (i : Nat) (h : i < l.length) : l.drop i = l[i]?.getD 0 :: l.drop (i + 1) := by
  rw [List.drop_eq_getElem_cons h]; simp [h]
theorem valL_split (l : List Int) (k : Nat) (h : k ≤ l.length) : valL l = valL (l.take k) + valL (l.drop k) * 10000 ^ k := by
  have e : l = l.take k ++ l.drop k := (List.take_append_drop k l).symm
  conv => lhs; rw [e]
  rw [valL_append, List.length_take, Nat.min_eq_left h]
theorem cmp_at (la lb : List Int) (i : Nat) (h1 : i < la.length) (h2 : i < lb.length) (ha : Dig la) (hb : Dig lb) (h : la.drop (i + 1) = lb.drop (i + 1))
    (hne : la[i]?.getD 0 ≠ lb[i]?.getD 0) : valL lb < valL la ↔ lb[i]?.getD 0 < la[i]?.getD 0 := by
  have e1 := valL_split la i (by omega)
  have e2 := valL_split lb i (by omega)
  rw [dropL_at la i h1, valL, h, Int.add_mul] at e1
  rw [dropL_at lb i h2, valL, Int.add_mul] at e2
  have l1 := valL_bound (la.take i) (dig_take la ha i)
  have l2 := valL_bound (lb.take i) (dig_take lb hb i)
  rw [List.length_take, Nat.min_eq_left (by omega)] at l1 l2
  have hp : (0 : Int) < 10000 ^ i := Int.pow_pos (by decide)
  generalize la[i]?.getD 0 = x at *
  generalize lb[i]?.getD 0 = y at *
  have key : ∀ x y : Int, x < y → x * 10000 ^ i + 10000 ^ i ≤ y * 10000 ^ i := by
    intro x y hxy
    have := Int.mul_le_mul_of_nonneg_right (show x + 1 ≤ y by omega) (Int.le_of_lt hp)
    rwa [Int.add_mul, Int.one_mul] at this
  constructor
  · intro hlt
    by_cases h' : y < x
    · exact h'
    · have := key x y (by omega)
      omega
  · intro hlt
    have := key y x hlt
    omega

/-- What is kept while the digits of x are laid. -/
structure Of10 (x y : Int) (l : List Int) : Prop where
  y0 : 0 ≤ y
  y1 : y ≤ x
  val : y * 10000 ^ l.length + valL l = x
  dig : Dig l
  trim : y = 0 → Trim l
  lt : y < 10000 ^ (20 - l.length)
  len : l.length ≤ 20
theorem Of10.start (x : Int) (h0 : 0 ≤ x) (h1 : x < 18446744073709551616) : Of10 x x [] :=
  ⟨h0, Int.le_refl _, by simp [valL], by simp [Dig], fun _ => .inl rfl, by simp; omega, by simp⟩
theorem Of10.step {x y : Int} {l : List Int} (h : Of10 x y l) (hy : 0 < y) : Of10 x (y / 10000) (l ++ [y % 10000]) ∧ l.length < 20 := by
  obtain ⟨a1, a2, a3, a4, a5, a6, a7⟩ := h
  have hl : l.length < 20 := by
    by_cases hc : l.length < 20
    · exact hc
    · rw [show 20 - l.length = 0 from by omega, Int.pow_zero] at a6; omega
  refine ⟨⟨by omega, by omega, ?_, ?_, ?_, ?_, by simp; omega⟩, hl⟩
  · rw [valL_append, List.length_append, List.length_singleton, Int.pow_succ]
    simp only [valL, Int.mul_zero, Int.add_zero]
    rw [show y / 10000 * (10000 ^ l.length * 10000) = y / 10000 * 10000 * 10000 ^ l.length from by ac_rfl]
    have e : y = y / 10000 * 10000 + y % 10000 := by omega
    have e2 : y * 10000 ^ l.length = (y / 10000 * 10000 + y % 10000) * 10000 ^ l.length := by rw [← e]
    rw [Int.add_mul] at e2
    omega
  · intro z hz
    rcases List.mem_append.1 hz with h | h
    · exact a4 z h
    · simp at h; omega
  · intro hz
    right
    simp
    omega
  · rw [List.length_append, List.length_singleton]
    rw [show 20 - l.length = (20 - (l.length + 1)) + 1 from by omega, Int.pow_succ] at a6
    omega
end Go.Proofs.YtfgdddejpdjllaaDoor
namespace Go.Proofs.YtfgdddejpdjllaaDoor
set_option maxRecDepth 4000
open Go.RowKit

/-- A slice of ints that reads as l. -/
def LS (w : World) (v : Value) (l : List Int) : Prop :=
  ∃ a cap, v = .slice a l.length cap ∧ (l = [] ∨ ∃ b off, a = some ⟨b, off, none⟩ ∧ ∀ i, i < l.length → w.cell? ⟨b, off + i, none⟩ = some (.int .i64 (l[i]?.getD 0)))
theorem LS.kept {w w' : World} {v : Value} {l : List Int} (h : LS w v l) (hb : Below w.heap.size w w') : LS w' v l := by
  obtain ⟨a, cap, hv, h⟩ := h
  refine ⟨a, cap, hv, ?_⟩
  rcases h with h | ⟨b, off, ha, hc⟩
  · exact .inl h
  · refine .inr ⟨b, off, ha, fun i hi => ?_⟩
    have hlt := block_lt_of_cell (hc i hi)
    rw [hb.cell hlt]; exact hc i hi
theorem LS.of_own {w : World} {base n : Nat} {v : Value} {l : List Int} (h : w.ownsRow base 3 1 v n (l.map (Value.int .i64))) (hl : l.length = n) : LS w v l := by
  rcases h.2 with ⟨rfl, h0⟩ | ⟨g, cap, cur, rfl, _, hg, hc, _, hs, ht⟩
  · have : l = [] := List.eq_nil_of_length_eq_zero (by omega)
    subst this
    exact ⟨none, 0, rfl, .inl rfl⟩
  · refine ⟨some ⟨g, 0, none⟩, cap, by rw [hl], .inr ⟨g, 0, rfl, fun i hi => ?_⟩⟩
    rw [Nat.zero_add, h.cellAt i (by omega)]
    simp [hi]
theorem info_int : (Tryd.prog.info? 3).map (fun i => (i.zero, i.size, i.bytes)) = some (some (.int .i64 0), 1, 8) := by kernel_rfl

theorem mul_lt_both (a b c d : Int) (ha : 0 ≤ a) (hac : a < c) (hb : 0 ≤ b) (hbd : b < d) : a * b < c * d := by
  have h1 : a * b ≤ a * d := Int.mul_le_mul_of_nonneg_left (Int.le_of_lt hbd) ha
  have h2 : a * d < c * d := Int.mul_lt_mul_of_pos_right hac (by omega)
  omega
/-- What a product leaves. -/
def Prod (w : World) (la lb : List Int) (n : Nat) (e : Ending) (w' : World) : Prop :=
  ∃ v r, e = .returned v ∧ LS w' v r ∧ Dig r ∧ Trim r ∧ valL r = valL la * valL lb ∧ r.length ≤ n ∧ Below w.heap.size w w'
/-- A row of ints that the call made, at block O. -/
def Row (w : World) (O n : Nat) (xs : List Int) : Prop := w.ownsRow O 3 1 (.slice (some ⟨O, 0, none⟩) n n) n (xs.map (Value.int .i64))
theorem Row.cell {w : World} {O n : Nat} {xs : List Int} (h : Row w O n xs) (hl : xs.length = n) {j : Nat} (hj : j < n) : w.cell? ⟨O, j, none⟩ = some (.int .i64 (xs[j]?.getD 0)) := by
  have := World.ownsRow.cellAt h j (by omega)
  rw [this]; simp [hl, hj]
theorem Row.free {w : World} {O n : Nat} {xs : List Int} (h : Row w O n xs) (j : Nat) : w.frozen? ⟨O, j, none⟩ = false := World.ownsRow.frozenAt h j
theorem Row.set {w : World} {O n : Nat} {xs : List Int} (h : Row w O n xs) (j : Nat) (v : Int) : Row (w.setCell ⟨O, j, none⟩ (.int .i64 v)) O n (xs.set j v) := by
  have := (World.ownsRow.stored h j (.int .i64 v)).1
  unfold Row
  rwa [List.map_set]
theorem Row.drewN {w : World} {O n : Nat} {xs : List Int} (h : Row w O n xs) (k : Nat) : Row (w.drewN k) O n xs := h
theorem Row.drew {w : World} {O n : Nat} {xs : List Int} (h : Row w O n xs) : Row w.drew O n xs := h
theorem Row.part {w : World} {O n : Nat} {xs : List Int} (h : Row w O n xs) (hl : xs.length = n) (m : Nat) (hm : m ≤ n) : LS w (.slice (some ⟨O, 0, none⟩) m n) (xs.take m) := by
  have hlen : (xs.take m).length = m := by rw [List.length_take, Nat.min_eq_left (by omega)]
  refine ⟨_, n, by rw [hlen], .inr ⟨O, 0, rfl, fun i hi => ?_⟩⟩
  rw [hlen] at hi
  rw [Nat.zero_add, h.cell hl (by omega), List.getElem?_take, if_pos hi]
theorem zeros_row (n : Nat) : (List.replicate n (0 : Int)).map (Value.int .i64) = List.replicate n (Value.int .i64 0) := by simp
set_option maxRecDepth 100000 in
set_option maxHeartbeats 1600000 in
theorem ltimes_some (la lb : List Int) (ba oa ca bb ob cb : Nat) (w : World) (ha : Dig la) (hb : Dig lb) (na : la.length ≤ 100) (nb : lb.length ≤ 100)
    (cA : ∀ i, i < la.length → w.cell? ⟨ba, oa + i, none⟩ = some (.int .i64 (la[i]?.getD 0))) (cB : ∀ i, i < lb.length → w.cell? ⟨bb, ob + i, none⟩ = some (.int .i64 (lb[i]?.getD 0)))
    (lA : ba < w.heap.size) (lB : bb < w.heap.size) :
    Calls Tryd.prog 94 #[.slice (some ⟨ba, oa, none⟩) la.length ca, .slice (some ⟨bb, ob, none⟩) lb.length cb] w
      (Prod w la lb (la.length + lb.length + 1)) := by
  obtain ⟨i0, hi, hz0, hz1, hz2⟩ := info_parts info_int
  have HST := Lib.hid (Out10.start la lb)
  generalize hA : la.length = A at *
  generalize hB : lb.length = B at *
  have HA := Lib.hid hA
  have HB := Lib.hid hB
  clear hA hB
  go_enter Tryd.func94, Tryd.ntmps94
  go_wp2_with (at_make; refine wpList_make_full _ rfl _ _ _ rfl w.heap.size 3 i0 (.int .i64 0) 1 Tryd.underlying150 hi hz0 hz1 .i64 .i64 _ _ (A + B + 1) rfl rfl (by rfl) (by rfl) ?c1 ?c2 ?c3 ?_)
  case c1 => rw [hz2]; omega
  case c2 => unfold maxLen; omega
  case c3 => omega
  intro w1 hown hgrow
  have hb1 := (Below.refl w.heap.size w).grown hgrow (Nat.le_refl _) (by simp)
  have hrow : Row w1 w.heap.size (A + B + 1) (List.replicate (A + B + 1) 0) := by unfold Row; rw [zeros_row, ← toList_madeCells_one]; exact hown
  have cA1 : ∀ i, i < A → w1.cell? ⟨ba, oa + i, none⟩ = some (.int .i64 (la[i]?.getD 0)) := fun i hi => (hb1.cell (p := ⟨ba, oa + i, none⟩) lA).trans (cA i hi)
  have cB1 : ∀ i, i < B → w1.cell? ⟨bb, ob + i, none⟩ = some (.int .i64 (lb[i]?.getD 0)) := fun i hi => (hb1.cell (p := ⟨bb, ob + i, none⟩) lB).trans (cB i hi)
  clear hgrow hown hi hz0 hz1 hz2 cA cB
  generalize hO : w.heap.size = O at *
  go_wp2
  go_loopw [18] (fun v18 wr => ∃ i xs, i ≤ A ∧ v18 = .int .i64 (i : Nat) ∧ Out10 la lb xs i ∧ Row wr O (A + B + 1) xs ∧ Below O w1 wr) (fun v _ => A - (intOf v).toNat)
  case atStart => exact ⟨0, _, by omega, rfl, HST.out, hrow, Below.refl _ _⟩
  case round =>
    obtain ⟨i, xs, hi, rfl, hX, hR, hbe⟩ := hrel
    by_cases hiA : i < A
    · have HIN := Lib.hid hX.inner
      have HV := Lib.hid hX.val
      have HR := Lib.hid hR
      clear hX hR hrow
      go_wp2_with fail
      go_loopw [23] (fun v23 wr => ∃ k ys, k ≤ B ∧ v23 = .int .i64 (k : Nat) ∧ Inn10 la lb ys i k (valL xs) ∧ Row wr O (A + B + 1) ys ∧ Below O w1 wr) (fun v _ => B - (intOf v).toNat)
      case atStart => exact ⟨0, xs, by omega, rfl, HIN.out, HR.out, hbe⟩
      case round =>
        obtain ⟨k, ys, hk, rfl, hI, hW, hby⟩ := hrel
        by_cases hkB : k < B
        · have hlen : ys.length = A + B + 1 := by rw [← HA.out, ← HB.out]; exact hI.len
          obtain ⟨a, hae⟩ : ∃ a, la[i]?.getD 0 = a := ⟨_, rfl⟩
          obtain ⟨b, hbe'⟩ : ∃ b, lb[k]?.getD 0 = b := ⟨_, rfl⟩
          obtain ⟨x, hxe⟩ : ∃ x, ys[i + k]?.getD 0 = x := ⟨_, rfl⟩
          obtain ⟨y, hye⟩ : ∃ y, ys[i + k + 1]?.getD 0 = y := ⟨_, rfl⟩
          have c1 := (hby.cell (p := ⟨ba, oa + i, none⟩) lA).trans (cA1 i hiA)
          have c2 := (hby.cell (p := ⟨bb, ob + k, none⟩) lB).trans (cB1 k hkB)
          have c3 := hW.cell hlen (j := i + k) (by omega)
          have c4 := hW.cell hlen (j := i + k + 1) (by omega)
          have f3 := hW.free (i + k)
          have f4 := hW.free (i + k + 1)
          obtain ⟨⟨s0, s1⟩, hnext⟩ := hI.step (by rw [HA.out]; exact hiA) (by rw [HB.out]; exact hkB) ha hb _ rfl
          have a12 := dig_at la ha i
          have b12 := dig_at lb hb k
          have x0 := hI.pos (i + k)
          have x1 := hI.cur
          have y0 := hI.pos (i + k + 1)
          have y1 := hI.le (i + k + 1) (by omega)
          rw [hae] at c1 a12 s0 s1 hnext
          rw [hbe'] at c2 b12 s0 s1 hnext
          rw [hxe] at c3 x0 x1 s0 s1 hnext
          rw [hye] at c4 y0 y1 hnext
          obtain ⟨m1, m2⟩ := mul_dig a b a12.1 a12.2 b12.1 b12.2
          have hne1 : ba ≠ O := by omega
          have hne2 : bb ≠ O := by omega
          have HN := Lib.hid hnext
          have HW := Lib.hid hW
          clear hae hbe' hxe hye hnext hI hW hlen HIN HR HV cA1 cB1 HST
          go_wp2_with fail
          go_region
          go_wp2_with fail
          go_region
          go_wp2_with fail
          go_roundw
          case rel =>
            exact ⟨k + 1, _, by omega, by go_num, HN.out, ((HW.out.set (i + k) (x + a * b)).set (i + k + 1) (y + (x + a * b) / 10000)).set (i + k) ((x + a * b) % 10000),
              ((((hby.setCell (p := ⟨O, i + k, none⟩) (Nat.le_refl _) _).setCell (p := ⟨O, i + k + 1, none⟩) (Nat.le_refl _) _).setCell (p := ⟨O, i + k, none⟩) (Nat.le_refl _) _).drew).drew⟩
          case measure => simp [intOf]; omega
        · obtain rfl : k = B := by omega
          have HI := Lib.hid hI
          have HW := Lib.hid hW
          clear hI hW cA1 cB1
          go_wp2_with fail
          go_roundw
          case rel =>
            have hI := HI.out
            rw [← HB.out] at hI
            exact ⟨i + 1, ys, by omega, by go_num, hI.outer HV.out (by rw [HA.out]; exact hiA), HW.out, hby⟩
          case measure => simp [intOf]; omega
    · obtain rfl : i = A := by omega
      have hN := hX.norm
      have hvx := hX.val
      rw [← HA.out, List.take_length] at hvx
      rw [hvx, HA.out, HB.out] at hN
      have hVb : valL la * valL lb < 10000 ^ (i + B) := by
        have p := valL_bound la ha
        have q := valL_bound lb hb
        rw [HA.out] at p
        rw [HB.out] at q
        rw [Int.pow_add]
        exact mul_lt_both _ _ _ _ p.1 p.2 q.1 q.2
      have HVB := Lib.hid hVb
      generalize hVe : valL la * valL lb = V at *
      have HVE := Lib.hid hVe
      clear hVe
      have HN0 := Lib.hid hN
      have HR0 := Lib.hid hR
      clear hX hR hN hvx hVb cA1 cB1 hrow
      go_wp2_with fail
      go_loopw [8] (fun v8 wr => ∃ j ys, j ≤ i + B ∧ v8 = .int .i64 (j : Nat) ∧ Nrm ys j (i + B + 1) V ∧ Row wr O (i + B + 1) ys ∧ Below O w1 wr) (fun v _ => i + B - (intOf v).toNat)
      case atStart => exact ⟨0, xs, by omega, rfl, HN0.out, HR0.out, hbe⟩
      case round =>
        obtain ⟨j, ys, hj, rfl, hI, hW, hby⟩ := hrel
        have hlen : ys.length = i + B + 1 := hI.len
        by_cases hjl : j < i + B
        · obtain ⟨x, hxe⟩ : ∃ x, ys[j]?.getD 0 = x := ⟨_, rfl⟩
          obtain ⟨y, hye⟩ : ∃ y, ys[j + 1]?.getD 0 = y := ⟨_, rfl⟩
          have c3 := hW.cell hlen (j := j) (by omega)
          have c4 := hW.cell hlen (j := j + 1) (by omega)
          have f3 := hW.free j
          have f4 := hW.free (j + 1)
          have hnext := hI.step (by omega)
          have x0 := hI.pos j
          have x1 := hI.cur
          have y0 := hI.pos (j + 1)
          have y1 := hI.hi (j + 1) (by omega)
          rw [hxe] at c3 x0 x1 hnext
          rw [hye] at c4 y0 y1 hnext
          have HN := Lib.hid hnext
          have HW := Lib.hid hW
          clear hxe hye hnext hI hW hlen HN0 HR0
          go_wp2_with fail
          go_region
          go_wp2_with fail
          go_roundw
          case rel =>
            exact ⟨j + 1, _, by omega, by go_num, HN.out, (HW.out.set (j + 1) (y + x / 10000)).set j (x % 10000),
              ((hby.setCell (p := ⟨O, j + 1, none⟩) (Nat.le_refl _) _).setCell (p := ⟨O, j, none⟩) (Nat.le_refl _) _).drew⟩
          case measure => simp [intOf]; omega
        · obtain rfl : j = i + B := by omega
          have hD := hI.done rfl HVB.out
          have hVy := hI.val
          have HD := Lib.hid hD
          have HW := Lib.hid hW
          have HL := Lib.hid hlen
          have HVY := Lib.hid hVy
          clear hI hW hlen hD hVy HN0 HR0
          go_wp2_with fail
          go_loop [5] (fun v5 => ∃ m, m ≤ i + B + 1 ∧ v5 = .slice (some ⟨O, 0, none⟩) m (i + B + 1) ∧ valL (ys.take m) = V) (fun v => match v with | .slice _ m _ => m | _ => 0)
          case atStart => exact ⟨i + B + 1, by omega, rfl, by rw [List.take_of_length_le (by rw [HL.out]; omega)]; exact HVY.out⟩
          case round =>
            obtain ⟨m, hm, rfl, hV⟩ := hrel
            cases m with
            | zero =>
              have HV := Lib.hid hV
              clear hV
              go_wp2
              go_ret
              have hV := HV.out
              exact ⟨_, [], rfl, by simpa using HW.out.part HL.out 0 (by omega), by simp [Dig], .inl rfl, by rw [HVE.out, ← HV.out]; simp, by simp, by rw [hO]; exact hb1.trans hby⟩
            | succ q =>
              have c3 := HW.out.cell HL.out (j := q) (by omega)
              have d3 := dig_at ys HD.out q
              have ht := trim_step ys q (by rw [HL.out]; omega)
              have hd := trim_done ys q (by rw [HL.out]; omega)
              generalize ys[q]?.getD 0 = x at *
              by_cases hx : x = 0
              · have hV2 := (ht hx).trans hV
                have HV := Lib.hid hV2
                subst hx
                clear hV hV2 ht hd
                go_wp2
                go_round
                case rel => exact ⟨q, by omega, rfl, HV.out⟩
                case measure => simp
              · have HV := Lib.hid hV
                have HT := Lib.hid (hd hx)
                have hx1 : 0 < x := by omega
                clear hV ht hd hx
                go_wp2
                go_ret
                exact ⟨_, ys.take (q + 1), rfl, HW.out.part HL.out (q + 1) (by omega), dig_take ys HD.out _, HT.out, by rw [HVE.out]; exact HV.out, by rw [List.length_take, HL.out]; omega, by rw [hO]; exact hb1.trans hby⟩

/-- The reference's product. -/
theorem ltimes_any (va vb : Value) (la lb : List Int) (w : World) (hA : LS w va la) (hB : LS w vb lb) (a0 : la ≠ []) (b0 : lb ≠ []) (ha : Dig la) (hb : Dig lb) (na : la.length ≤ 100) (nb : lb.length ≤ 100) :
    Calls Tryd.prog 94 #[va, vb] w (Prod w la lb (la.length + lb.length + 1)) := by
  obtain ⟨a, ca, rfl, h1⟩ := hA
  obtain ⟨b, cb, rfl, h2⟩ := hB
  obtain ⟨ba, oa, rfl, cA⟩ := h1.resolve_left a0
  obtain ⟨bb, ob, rfl, cB⟩ := h2.resolve_left b0
  exact ltimes_some la lb ba oa ca bb ob cb w ha hb na nb cA cB (block_lt_of_cell (cA 0 (List.length_pos_iff.2 a0))) (block_lt_of_cell (cB 0 (List.length_pos_iff.2 b0)))

/-- What is made of a number. -/
def Made (w : World) (x : Int) (n : Nat) (e : Ending) (w' : World) : Prop :=
  ∃ v r, e = .returned v ∧ LS w' v r ∧ Dig r ∧ Trim r ∧ valL r = x ∧ r.length ≤ n ∧ Below w.heap.size w w'

set_option maxHeartbeats 800000 in
theorem lof_any (x : Int) (w : World) (h0 : 0 ≤ x) (h1 : x < 18446744073709551616) :
    Calls Tryd.prog 95 #[.int .u64 x] w (Made w x 20) := by
  obtain ⟨i0, hi, hz0, hz1, hz2⟩ := info_parts info_int
  have HI := Lib.hid hi
  have HZ0 := Lib.hid hz0
  have HZ1 := Lib.hid hz1
  have HZ2 := Lib.hid hz2
  clear hi hz0 hz1 hz2
  go_enter Tryd.func95, Tryd.ntmps95
  go_wp2_with fail
  go_loopw [0, 3] (fun v0 v3 wr => ∃ (y : Int) (l : List Int), v0 = .int .u64 y ∧ Of10 x y l ∧
      wr.ownsRow w.heap.size 3 1 v3 l.length (l.map (Value.int .i64)) ∧ Below w.heap.size w wr) (fun v _ _ => (intOf v).toNat)
  case atStart => exact ⟨x, [], rfl, Of10.start x h0 h1, World.ownsRow_nil _ _ _ _, Below.refl _ _⟩
  case round =>
    obtain ⟨y, l, rfl, hx, ho, hb⟩ := hrel
    by_cases hy : y = 0
    · subst hy
      have HX := Lib.hid hx
      have HO := Lib.hid ho
      clear hx ho
      go_wp2_with fail
      go_ret
      have hx := HX.out
      exact ⟨_, l, rfl, LS.of_own HO.out rfl, hx.dig, hx.trim rfl, by simpa using hx.val, hx.len, hb⟩
    · have y0 := hx.y0
      have y1 := hx.y1
      have hy1 : 0 < y := by omega
      obtain ⟨hs, hl⟩ := hx.step hy1
      have HX := Lib.hid hs
      have HO := Lib.hid (ho.alloc (.cells #[Value.int .i64 (y % 10000)] 3))
      have hsz := hb.size
      have hb2 := hb.alloc hsz (.cells #[Value.int .i64 (y % 10000)] 3)
      have HC := Lib.hid (heap_alloc_new wr (.cells #[Value.int .i64 (y % 10000)] 3))
      clear hx ho hs
      go_wp2_with (at_builtin; go_must (with_reducible refine wpList_append_own _ rfl _ _ 150 rfl w.heap.size 3 i0 (.int .i64 0) 1 8 Tryd.underlying150 HI.out HZ0.out HZ1.out HZ2.out rfl (by decide) u3 l.length (l.map (Value.int .i64)) rfl HO.out ⟨wr.heap.size, 0, none⟩ 1 1 [.int .i64 (y % 10000)] rfl rfl ?c1 ?c2 ?c3 ?c4 ?c5 ?_))
      case c1 =>
        intro j u hj
        match j, hj with
        | 0, hj =>
          simp at hj; subst hj
          simp [Addr.add]
        | j + 1, hj => simp at hj
      case c2 => intro u hu; simp at hu; subst hu; rfl
      case c3 => unfold maxLen; omega
      case c4 => omega
      case c5 => simp; omega
      intro v' w1 hown' hgrow _
      have hb3 := hb2.grown hgrow (by simp; omega) (fun k hk => (HO.out.lt k hk).1)
      have HW := Lib.hid (show w1.ownsRow w.heap.size 3 1 v' (l ++ [y % 10000]).length ((l ++ [y % 10000]).map (Value.int .i64)) from by simpa using hown')
      clear hown' hgrow
      go_wp2_with fail
      go_roundw
      case rel => exact ⟨y / 10000, l ++ [y % 10000], rfl, HX.out, HW.out, hb3⟩
      case measure => simp [intOf]; omega

/-- The reference's power. -/
def Pow (w : World) (l : List Int) (k n : Nat) (e : Ending) (w' : World) : Prop :=
  ∃ v r, e = .returned v ∧ LS w' v r ∧ r ≠ [] ∧ Dig r ∧ Trim r ∧ valL r = valL l ^ k ∧ r.length ≤ n ∧ Below w.heap.size w w'
theorem ne_of_pos (r : List Int) (h : 0 < valL r) : r ≠ [] := by intro e; subst e; simp [valL] at h

set_option maxHeartbeats 800000 in
theorem lpower_any (v : Value) (l : List Int) (k : Nat) (w : World) (hL : LS w v l) (hd : Dig l) (hp : 0 < valL l) (hn : l.length ≤ 20) (hk : k ≤ 3) :
    Calls Tryd.prog 96 #[v, .int .i64 k] w (Pow w l k 100) := by
  have h0 := ne_of_pos l hp
  go_enter Tryd.func96, Tryd.ntmps96
  go_wp2_with fail
  have hb0 := (Below.refl w.heap.size w).alloc (Nat.le_refl _) (.cells #[Value.int .i64 1] 3)
  have ho := World.ownsRow_lit (base := w.heap.size) (e := 3) (size := 1) w #[Value.int .i64 1] 1 (Nat.le_refl _) (by unfold maxLen; omega) rfl
  have hl1 := LS.of_own (l := [1]) ho rfl
  have hL1 := hL.kept hb0
  generalize w.alloc (.cells #[Value.int .i64 1] 3) = W0 at *
  clear ho hL
  go_loopw [5, 6] (fun v5 v6 wr => ∃ i r, i ≤ k ∧ v6 = .int .i64 (i : Nat) ∧ LS wr v5 r ∧ r ≠ [] ∧ Dig r ∧ Trim r ∧ valL r = valL l ^ i ∧ r.length ≤ 1 + i * 21 ∧ Below w.heap.size w wr ∧ LS wr v l) (fun _ v _ => k - (intOf v).toNat)
  case atStart => exact ⟨0, [1], by omega, rfl, hl1, by simp, by simp [Dig], .inr (by simp), by simp [valL], by simp, hb0, hL1⟩
  case round =>
    obtain ⟨i, r, hi, rfl, hr, hr0, hrd, hrt, hrv, hrn, hb, hl⟩ := hrel
    have HR := Lib.hid hr
    have HL := Lib.hid hl
    have HV := Lib.hid hrv
    have HT := Lib.hid hrt
    clear hr hl hrv hL1 hl1 hrt
    by_cases hik : i < k
    · go_wp2_with fail
      refine (ltimes_any _ _ r l _ HR.out HL.out hr0 h0 hrd hd (by omega) (by omega)).mono ?_
      rintro e w2 ⟨v2, r2, rfl, k1, k2, k3, k4, k5, hb2⟩
      have K1 := Lib.hid k1
      have K3 := Lib.hid k3
      have K4 := Lib.hid k4
      have HL2 := Lib.hid (HL.out.kept hb2)
      clear k1 k3 k4
      go_wp2_with fail
      go_roundw
      case rel =>
        have e4 : valL r2 = valL l ^ (i + 1) := by rw [K4.out, HV.out, Int.pow_succ]
        exact ⟨i + 1, r2, by omega, by go_num, K1.out, ne_of_pos r2 (by rw [e4]; exact Int.pow_pos hp), k2, K3.out, e4, by omega, hb.trans (hb2.mono hb.size), HL2.out⟩
      case measure => simp [intOf]; omega
    · obtain rfl : i = k := by omega
      go_wp2_with fail
      go_ret
      exact ⟨_, r, rfl, HR.out, hr0, hrd, HT.out, HV.out, by omega, hb⟩

set_option maxHeartbeats 800000 in
theorem lmore_same (la lb : List Int) (ba oa ca bb ob cb : Nat) (w : World) (ha : Dig la) (hb : Dig lb) (na : la.length ≤ 1000) (hlen : lb.length = la.length)
    (cA : ∀ i, i < la.length → w.cell? ⟨ba, oa + i, none⟩ = some (.int .i64 (la[i]?.getD 0))) (cB : ∀ i, i < la.length → w.cell? ⟨bb, ob + i, none⟩ = some (.int .i64 (lb[i]?.getD 0)))
    (lA : ba < w.heap.size) (lB : bb < w.heap.size) :
    Calls Tryd.prog 97 #[.slice (some ⟨ba, oa, none⟩) la.length ca, .slice (some ⟨bb, ob, none⟩) la.length cb] w fun e w' => e = .returned (.bool (decide (valL lb < valL la))) ∧ Below w.heap.size w w' := by
  generalize hA : la.length = A at *
  have HA := Lib.hid hA
  have HB := Lib.hid hlen
  clear hA hlen
  go_enter Tryd.func97, Tryd.ntmps97
  go_wp2
  go_loopw [5] (fun v wr => ∃ m : Nat, m ≤ A ∧ v = .int .i64 ((m : Int) - 1) ∧ la.drop m = lb.drop m ∧ Below w.heap.size w wr) (fun v _ => (intOf v + 1).toNat)
  case atStart => exact ⟨A, by omega, rfl, by rw [List.drop_of_length_le (by rw [HA.out]; omega), List.drop_of_length_le (by rw [HB.out]; omega)], Below.refl _ _⟩
  case round =>
    obtain ⟨m, hm, rfl, hd, hbx⟩ := hrel
    cases m with
    | zero =>
      have HD := Lib.hid hd
      clear hd
      go_wp2
      go_ret
      have e : la = lb := by simpa using HD.out
      exact ⟨by rw [e]; simp, hbx⟩
    | succ i =>
      have e0 : ((i + 1 : Nat) : Int) - 1 = (i : Int) := by omega
      rw [e0]
      clear e0
      have c1 := (hbx.cell (p := ⟨ba, oa + i, none⟩) lA).trans (cA i (by omega))
      have c2 := (hbx.cell (p := ⟨bb, ob + i, none⟩) lB).trans (cB i (by omega))
      have hcmp := cmp_at la lb i (by rw [HA.out]; omega) (by rw [HB.out]; omega) ha hb hd
      have hdd : la[i]?.getD 0 = lb[i]?.getD 0 → la.drop i = lb.drop i := fun h => by rw [dropL_at la i (by rw [HA.out]; omega), dropL_at lb i (by rw [HB.out]; omega), hd, h]
      obtain ⟨x, hx⟩ : ∃ x, la[i]?.getD 0 = x := ⟨_, rfl⟩
      obtain ⟨y, hy⟩ : ∃ y, lb[i]?.getD 0 = y := ⟨_, rfl⟩
      rw [hx] at c1
      rw [hy] at c2
      rw [hx, hy] at hcmp hdd
      have HC := Lib.hid hcmp
      have HDD := Lib.hid hdd
      clear hcmp hdd hd hx hy cA cB
      by_cases hxy : x = y
      · subst hxy
        go_wp2
        go_quiet (fail)
        go_wp2
        go_roundw
        case rel => exact ⟨i, by omega, rfl, HDD.out (by simp), below_drewN hbx _⟩
        case measure => simp [intOf]
      · go_wp2
        go_quiet (fail)
        go_wp2
        go_quiet (fail)
        go_wp2
        go_ret
        refine ⟨?_, below_drewN (below_drewN hbx _) _⟩
        rw [decide_eq_decide.2 (HC.out hxy)]
        rfl

set_option maxHeartbeats 800000 in
theorem lmore_len (la lb : List Int) (a b : Option Addr) (ca cb : Nat) (w : World) (ha : Dig la) (hb : Dig lb) (ta : Trim la) (tb : Trim lb) (_na : la.length ≤ 1000) (_nb : lb.length ≤ 1000) (hlen : la.length ≠ lb.length) :
    Calls Tryd.prog 97 #[.slice a la.length ca, .slice b lb.length cb] w fun e w' => e = .returned (.bool (decide (valL lb < valL la))) ∧ w' = w := by
  have hval : decide (valL lb < valL la) = decide ((lb.length : Int) < (la.length : Int)) := by
    apply decide_eq_decide.2
    rcases Nat.lt_or_gt_of_ne hlen with h | h
    · have := cmp_len la lb ha hb tb h
      omega
    · have := cmp_len lb la hb ha ta h
      omega
  generalize la.length = A at *
  generalize lb.length = B at *
  have HV := Lib.hid hval
  have hne : ((A : Int) == (B : Int)) = false := by simp; omega
  clear hval
  by_cases h : B < A
  · have hi : (B : Int) < (A : Int) := by omega
    go_enter Tryd.func97, Tryd.ntmps97
    go_wp2
    go_ret
    exact ⟨by rw [HV.out, decide_eq_true hi]; simp, rfl⟩
  · have hi : (A : Int) < (B : Int) := by omega
    go_enter Tryd.func97, Tryd.ntmps97
    go_wp2
    go_ret
    exact ⟨by rw [HV.out, decide_eq_false (by omega)]; simp, rfl⟩

/-- Which is greater, of two that aren't nought. -/
theorem lmore_any (va vb : Value) (la lb : List Int) (w : World) (hA : LS w va la) (hB : LS w vb lb) (a0 : la ≠ []) (b0 : lb ≠ []) (ha : Dig la) (hb : Dig lb) (ta : Trim la) (tb : Trim lb) (na : la.length ≤ 1000) (nb : lb.length ≤ 1000) :
    Calls Tryd.prog 97 #[va, vb] w fun e w' => e = .returned (.bool (decide (valL lb < valL la))) ∧ Below w.heap.size w w' := by
  obtain ⟨a, ca, rfl, h1⟩ := hA
  obtain ⟨b, cb, rfl, h2⟩ := hB
  by_cases hlen : la.length = lb.length
  · obtain ⟨ba, oa, rfl, cA⟩ := h1.resolve_left a0
    obtain ⟨bb, ob, rfl, cB⟩ := h2.resolve_left b0
    have l1 := block_lt_of_cell (cA 0 (List.length_pos_iff.2 a0))
    have l2 := block_lt_of_cell (cB 0 (List.length_pos_iff.2 b0))
    rw [← hlen] at cB ⊢
    exact lmore_same la lb ba oa ca bb ob cb w ha hb na hlen.symm cA cB l1 l2
  · refine (lmore_len la lb a b ca cb w ha hb ta tb na nb hlen).mono ?_
    rintro e w' ⟨rfl, rfl⟩
    exact ⟨rfl, Below.refl _ _⟩
end Go.Proofs.YtfgdddejpdjllaaDoor
namespace Go.Proofs.YtfgdddejpdjllaaDoor
set_option maxRecDepth 4000
open Go.RowKit

/-- The bit that is tried when n of them are left. -/
def bitv (n : Nat) : Int := if n = 0 then 0 else 2 ^ (n - 1)
theorem bitv_succ (n : Nat) : bitv (n + 1) = 2 ^ n := by simp [bitv]
theorem bitv_half (n : Nat) : bitv (n + 1) / 2 = bitv n := by
  cases n with
  | zero => rfl
  | succ n => rw [bitv_succ, bitv_succ, Int.pow_succ]; omega

theorem place41 (f n : Nat) (hn : n ≤ 40) (hf : f % 2 ^ (n + 1) = 0) (hl : f < 2 ^ 41) : f + 2 ^ n < 2 ^ 41 ∧ (f + 2 ^ n) % 2 ^ n = 0 ∧ f % 2 ^ n = 0 := by
  have h2 := Nat.div_add_mod f (2 ^ (n + 1))
  rw [hf, Nat.add_zero] at h2
  generalize f / 2 ^ (n + 1) = q at *
  subst h2
  have e : (2 : Nat) ^ 41 = 2 ^ (n + 1) * 2 ^ (40 - n) := by rw [← Nat.pow_add]; congr 1; omega
  rw [e] at hl ⊢
  have hq := Nat.lt_of_mul_lt_mul_left hl
  have h3 := Nat.mul_le_mul_left (2 ^ (n + 1)) (Nat.succ_le_of_lt hq)
  rw [Nat.mul_succ] at h3
  have h4 := Nat.two_pow_pos n
  refine ⟨by rw [Nat.pow_succ] at *; omega, ?_, ?_⟩
  · rw [Nat.pow_succ, Nat.mul_assoc]; simp
  · rw [Nat.pow_succ, Nat.mul_assoc]; simp

theorem rootUpto_succ (g k n f : Nat) : rootUpto g k (n + 1) f = rootUpto g k n (if (f + 2 ^ n) ^ k ≤ g then f + 2 ^ n else f) := rfl
theorem root41 (p k : Nat) (hk : k = 2 ∨ k = 3) (h2 : p ≤ 65535) : rootUpto (p * 4294967296 ^ k) k 41 0 = rootUpto (p * 4294967296 ^ k) k 40 0 := by
  have hlt : p * 4294967296 ^ k < (2 ^ 40) ^ k := by
    rcases hk with rfl | rfl
    · rw [show (2 ^ 40) ^ 2 = 65536 * 4294967296 ^ 2 from by decide]
      exact Nat.mul_lt_mul_of_pos_right (by omega) (by decide)
    · rw [show (2 ^ 40) ^ 3 = 16777216 * 4294967296 ^ 3 from by decide]
      exact Nat.mul_lt_mul_of_pos_right (by omega) (by decide)
  generalize p * 4294967296 ^ k = g at *
  have e := rootUpto_succ g k 40 0
  have e2 : ¬ (0 + 2 ^ 40) ^ k ≤ g := by rw [Nat.zero_add]; omega
  rw [if_neg e2] at e
  exact e

set_option maxRecDepth 100000 in
set_option maxHeartbeats 1600000 in
theorem rfrac_2 (p : Nat) (w : World) (h1 : 1 ≤ p) (h2 : p ≤ 65535) :
    Calls Tryd.prog 89 #[.int .u32 p, .int .i64 (2 : Nat)] w fun e w' => e = .returned (.tuple #[.int .u32 (fracI p 2 : Nat), .int .i64 0]) ∧ Below w.heap.size w w' := by
  have HOP := Lib.hid (fun w => lof_any (p : Int) w (by omega) (by omega))
  have HOB := Lib.hid (fun w => lof_any 4294967296 w (by omega) (by omega))
  have HR41 := Lib.hid (root41 p 2 (by omega) h2)
  have hp1 : (1 : Int) ≤ (p : Int) := by omega
  have hp2 : (p : Int) ≤ 65535 := by omega
  go_enter Tryd.func89, Tryd.ntmps89
  go_wp2_with fail
  refine (HOP.out _).mono ?_
  rintro e w1 ⟨v1, r1, rfl, a1, a2, a3, a4, a5, b1⟩
  have A1 := Lib.hid a1
  have A3 := Lib.hid a3
  have A4 := Lib.hid a4
  clear a1 a3 a4
  go_wp2_with fail
  refine (HOB.out _).mono ?_
  rintro e w2 ⟨v2, r2, rfl, c1, c2, c3, c4, c5, b2⟩
  have C1 := Lib.hid c1
  have C4 := Lib.hid c4
  have A12 := Lib.hid (A1.out.kept b2)
  clear c1 c3 c4
  go_wp2_with fail
  refine (lpower_any v2 r2 2 _ C1.out c2 (by rw [C4.out]; omega) c5 (by omega)).mono ?_
  rintro e w3 ⟨v3, r3, rfl, d1, d0, d2, d3, d4, d5, b3⟩
  have D1 := Lib.hid d1
  have D4 := Lib.hid d4
  have A13 := Lib.hid (A12.out.kept b3)
  clear d1 d3 d4
  go_wp2_with fail
  refine (ltimes_any _ _ r1 r3 _ A13.out D1.out (ne_of_pos r1 (by rw [A4.out]; omega)) d0 a2 d2 (by omega) d5).mono ?_
  rintro e w4 ⟨v4, r4, rfl, e1, e2, e3, e4, e5, b4⟩
  have hval : valL r4 = ((p * 4294967296 ^ 2 : Nat) : Int) := by rw [e4, A4.out, D4.out, C4.out]; simp
  have E1 := Lib.hid e1
  have E3 := Lib.hid e3
  have HV := Lib.hid hval
  have hb4 : Below w.heap.size w w4 := ((b1.trans (b2.mono b1.size)).trans (b3.mono (Nat.le_trans b1.size b2.size))).trans (b4.mono (Nat.le_trans b1.size (Nat.le_trans b2.size b3.size)))
  have hr4 := ne_of_pos r4 (by
    rw [hval]
    have := Nat.mul_pos h1 (show 0 < 4294967296 ^ 2 by decide)
    omega)
  have hn4 : r4.length ≤ 1000 := by omega
  clear A1 A3 A4 C1 C4 A12 A13 D1 D4 e1 e3 e4 hval a2 a5 c2 c5 d0 d2 d5 e5 b1 b2 b3 b4
  go_wp2_with fail
  generalize hG : p * 4294967296 ^ 2 = G at *
  have HG := Lib.hid hG
  clear hG
  go_loopw [7, 8] (fun v7 v8 wr => ∃ n f : Nat, n ≤ 41 ∧ v8 = .int .u64 (bitv n) ∧ v7 = .int .u64 (f : Nat) ∧ f % 2 ^ n = 0 ∧ f < 2 ^ 41 ∧ rootUpto G 2 n f = rootUpto G 2 41 0 ∧ LS wr v4 r4 ∧ Below w.heap.size w wr) (fun _ v _ => (intOf v).toNat)
  case atStart => exact ⟨41, 0, by omega, rfl, rfl, by simp, by simp, rfl, E1.out, hb4⟩
  case round =>
    obtain ⟨m, f, hm, rfl, rfl, hf0, hf1, hr, hL, hbx⟩ := hrel
    cases m with
    | zero =>
      have e0 : bitv 0 = 0 := rfl
      rw [e0]
      have HR := Lib.hid hr
      clear hr hf0 e0
      have hf2 : f < 2199023255552 := by simpa using hf1
      clear hf1
      go_wp2_with fail
      go_ret2
      refine ⟨?_, hbx⟩
      have hfin : fracI p 2 = f % 4294967296 := by
        unfold fracI
        rw [HG.out, ← HR41.out, ← HR.out]
        rfl
      rw [hfin]
      simp only [Int.natCast_emod]
      rfl
    | succ n =>
      have e0 := bitv_succ n
      have eh := bitv_half n
      have hbn : 0 ≤ bitv n := by unfold bitv; split; omega; exact Int.le_of_lt (Int.pow_pos (by decide))
      rw [e0] at eh ⊢
      obtain ⟨q1, q2, q3⟩ := place41 f n (by omega) hf0 hf1
      have hstep : rootUpto G 2 (n + 1) f = rootUpto G 2 n (if (f + 2 ^ n) ^ 2 ≤ G then f + 2 ^ n else f) := rfl
      rw [hstep] at hr
      have ec : ((2 : Int) ^ n) = ((2 ^ n : Nat) : Int) := by simp
      have hpos := Nat.two_pow_pos n
      rw [ec] at eh ⊢
      generalize hBe : 2 ^ n = B at *
      have HBE := Lib.hid hBe
      clear hBe
      have hB : B < 2199023255552 := by
        have : (2 : Nat) ^ 41 = 2199023255552 := by decide
        omega
      have hf2 : f + B < 2199023255552 := by
        have : (2 : Nat) ^ 41 = 2199023255552 := by decide
        omega
      have HEH := Lib.hid eh
      have HF0 := Lib.hid q3
      have HG0 := Lib.hid q2
      have HF1 := Lib.hid hf1
      have HG1 := Lib.hid q1
      have HL := Lib.hid hL
      have hBp : (0 : Int) < (B : Int) := by omega
      have HE0 := Lib.hid e0
      clear eh q1 q2 q3 hf0 hf1 hL hstep ec e0
      have HOF := Lib.hid (fun w => lof_any ((f : Int) + (B : Int)) w (by omega) (by omega))
      have hcond : ((f : Int) + (B : Int)) ^ 2 = (((f + B) ^ 2 : Nat) : Int) := by simp
      have HCO := Lib.hid hcond
      clear hcond
      go_wp2_with fail
      refine (HOF.out _).mono ?_
      rintro e w5 ⟨v5, r5, rfl, a1, a2, a3, a4, a5, b5⟩
      have A1 := Lib.hid a1
      have A4 := Lib.hid a4
      have L5 := Lib.hid (HL.out.kept b5)
      clear a1 a3 a4
      go_wp2_with fail
      refine (lpower_any v5 r5 2 _ A1.out a2 (by rw [A4.out]; omega) a5 (by omega)).mono ?_
      rintro e w6 ⟨v6, r6, rfl, d1, d0, d2, d3, d4, d5, b6⟩
      have D1 := Lib.hid d1
      have D3 := Lib.hid d3
      have D4 := Lib.hid (d4.trans (by rw [A4.out, HCO.out]))
      have L6 := Lib.hid (L5.out.kept b6)
      clear d1 d3 d4
      go_wp2_with fail
      refine (lmore_any _ _ r6 r4 _ D1.out L6.out d0 hr4 d2 e2 D3.out E3.out (by omega) hn4).mono ?_
      rintro e w7 ⟨rfl, b7⟩
      have L7 := Lib.hid (L6.out.kept b7)
      have hb7 := ((hbx.trans (b5.mono hbx.size)).trans (b6.mono (Nat.le_trans hbx.size b5.size))).trans (b7.mono (Nat.le_trans hbx.size (Nat.le_trans b5.size b6.size)))
      clear hbx b5 b6 b7 a2 a5 d0 d2 d5
      generalize (f + B) ^ 2 = T at *
      by_cases hge : T ≤ G
      · rw [if_pos hge] at hr
        have hdec : decide (valL r4 < valL r6) = false := by rw [HV.out, D4.out]; apply decide_eq_false; omega
        rw [hdec]
        have HR := Lib.hid hr
        clear hr hge hdec
        go_wp2_with fail
        go_roundw
        case rel => exact ⟨n, f + B, by omega, by rw [HEH.out], by simp, by rw [HBE.out]; exact HG0.out, HG1.out, HR.out, L7.out, hb7⟩
        case measure => simp [intOf]; omega
      · rw [if_neg hge] at hr
        have hdec : decide (valL r4 < valL r6) = true := by rw [HV.out, D4.out]; apply decide_eq_true; omega
        rw [hdec]
        have HR := Lib.hid hr
        clear hr hge hdec
        go_wp2_with fail
        go_roundw
        case rel => exact ⟨n, f, by omega, by rw [HEH.out], rfl, by rw [HBE.out]; exact HF0.out, HF1.out, HR.out, L7.out, hb7⟩
        case measure => simp [intOf]; omega

set_option maxRecDepth 100000 in
set_option maxHeartbeats 1600000 in
theorem rfrac_3 (p : Nat) (w : World) (h1 : 1 ≤ p) (h2 : p ≤ 65535) :
    Calls Tryd.prog 89 #[.int .u32 p, .int .i64 (3 : Nat)] w fun e w' => e = .returned (.tuple #[.int .u32 (fracI p 3 : Nat), .int .i64 0]) ∧ Below w.heap.size w w' := by
  have HOP := Lib.hid (fun w => lof_any (p : Int) w (by omega) (by omega))
  have HOB := Lib.hid (fun w => lof_any 4294967296 w (by omega) (by omega))
  have HR41 := Lib.hid (root41 p 3 (by omega) h2)
  have hp1 : (1 : Int) ≤ (p : Int) := by omega
  have hp2 : (p : Int) ≤ 65535 := by omega
  go_enter Tryd.func89, Tryd.ntmps89
  go_wp2_with fail
  refine (HOP.out _).mono ?_
  rintro e w1 ⟨v1, r1, rfl, a1, a2, a3, a4, a5, b1⟩
  have A1 := Lib.hid a1
  have A3 := Lib.hid a3
  have A4 := Lib.hid a4
  clear a1 a3 a4
  go_wp2_with fail
  refine (HOB.out _).mono ?_
  rintro e w2 ⟨v2, r2, rfl, c1, c2, c3, c4, c5, b2⟩
  have C1 := Lib.hid c1
  have C4 := Lib.hid c4
  have A12 := Lib.hid (A1.out.kept b2)
  clear c1 c3 c4
  go_wp2_with fail
  refine (lpower_any v2 r2 3 _ C1.out c2 (by rw [C4.out]; omega) c5 (by omega)).mono ?_
  rintro e w3 ⟨v3, r3, rfl, d1, d0, d2, d3, d4, d5, b3⟩
  have D1 := Lib.hid d1
  have D4 := Lib.hid d4
  have A13 := Lib.hid (A12.out.kept b3)
  clear d1 d3 d4
  go_wp2_with fail
  refine (ltimes_any _ _ r1 r3 _ A13.out D1.out (ne_of_pos r1 (by rw [A4.out]; omega)) d0 a2 d2 (by omega) d5).mono ?_
  rintro e w4 ⟨v4, r4, rfl, e1, e2, e3, e4, e5, b4⟩
  have hval : valL r4 = ((p * 4294967296 ^ 3 : Nat) : Int) := by rw [e4, A4.out, D4.out, C4.out]; simp
  have E1 := Lib.hid e1
  have E3 := Lib.hid e3
  have HV := Lib.hid hval
  have hb4 : Below w.heap.size w w4 := ((b1.trans (b2.mono b1.size)).trans (b3.mono (Nat.le_trans b1.size b2.size))).trans (b4.mono (Nat.le_trans b1.size (Nat.le_trans b2.size b3.size)))
  have hr4 := ne_of_pos r4 (by
    rw [hval]
    have := Nat.mul_pos h1 (show 0 < 4294967296 ^ 3 by decide)
    omega)
  have hn4 : r4.length ≤ 1000 := by omega
  clear A1 A3 A4 C1 C4 A12 A13 D1 D4 e1 e3 e4 hval a2 a5 c2 c5 d0 d2 d5 e5 b1 b2 b3 b4
  go_wp2_with fail
  generalize hG : p * 4294967296 ^ 3 = G at *
  have HG := Lib.hid hG
  clear hG
  go_loopw [7, 8] (fun v7 v8 wr => ∃ n f : Nat, n ≤ 41 ∧ v8 = .int .u64 (bitv n) ∧ v7 = .int .u64 (f : Nat) ∧ f % 2 ^ n = 0 ∧ f < 2 ^ 41 ∧ rootUpto G 3 n f = rootUpto G 3 41 0 ∧ LS wr v4 r4 ∧ Below w.heap.size w wr) (fun _ v _ => (intOf v).toNat)
  case atStart => exact ⟨41, 0, by omega, rfl, rfl, by simp, by simp, rfl, E1.out, hb4⟩
  case round =>
    obtain ⟨m, f, hm, rfl, rfl, hf0, hf1, hr, hL, hbx⟩ := hrel
    cases m with
    | zero =>
      have e0 : bitv 0 = 0 := rfl
      rw [e0]
      have HR := Lib.hid hr
      clear hr hf0 e0
      have hf2 : f < 2199023255552 := by simpa using hf1
      clear hf1
      go_wp2_with fail
      go_ret2
      refine ⟨?_, hbx⟩
      have hfin : fracI p 3 = f % 4294967296 := by
        unfold fracI
        rw [HG.out, ← HR41.out, ← HR.out]
        rfl
      rw [hfin]
      simp only [Int.natCast_emod]
      rfl
    | succ n =>
      have e0 := bitv_succ n
      have eh := bitv_half n
      have hbn : 0 ≤ bitv n := by unfold bitv; split; omega; exact Int.le_of_lt (Int.pow_pos (by decide))
      rw [e0] at eh ⊢
      obtain ⟨q1, q2, q3⟩ := place41 f n (by omega) hf0 hf1
      have hstep : rootUpto G 3 (n + 1) f = rootUpto G 3 n (if (f + 2 ^ n) ^ 3 ≤ G then f + 2 ^ n else f) := rfl
      rw [hstep] at hr
      have ec : ((2 : Int) ^ n) = ((2 ^ n : Nat) : Int) := by simp
      have hpos := Nat.two_pow_pos n
      rw [ec] at eh ⊢
      generalize hBe : 2 ^ n = B at *
      have HBE := Lib.hid hBe
      clear hBe
      have hB : B < 2199023255552 := by
        have : (2 : Nat) ^ 41 = 2199023255552 := by decide
        omega
      have hf2 : f + B < 2199023255552 := by
        have : (2 : Nat) ^ 41 = 2199023255552 := by decide
        omega
      have HEH := Lib.hid eh
      have HF0 := Lib.hid q3
      have HG0 := Lib.hid q2
      have HF1 := Lib.hid hf1
      have HG1 := Lib.hid q1
      have HL := Lib.hid hL
      have hBp : (0 : Int) < (B : Int) := by omega
      have HE0 := Lib.hid e0
      clear eh q1 q2 q3 hf0 hf1 hL hstep ec e0
      have HOF := Lib.hid (fun w => lof_any ((f : Int) + (B : Int)) w (by omega) (by omega))
      have hcond : ((f : Int) + (B : Int)) ^ 3 = (((f + B) ^ 3 : Nat) : Int) := by simp
      have HCO := Lib.hid hcond
      clear hcond
      go_wp2_with fail
      refine (HOF.out _).mono ?_
      rintro e w5 ⟨v5, r5, rfl, a1, a2, a3, a4, a5, b5⟩
      have A1 := Lib.hid a1
      have A4 := Lib.hid a4
      have L5 := Lib.hid (HL.out.kept b5)
      clear a1 a3 a4
      go_wp2_with fail
      refine (lpower_any v5 r5 3 _ A1.out a2 (by rw [A4.out]; omega) a5 (by omega)).mono ?_
      rintro e w6 ⟨v6, r6, rfl, d1, d0, d2, d3, d4, d5, b6⟩
      have D1 := Lib.hid d1
      have D3 := Lib.hid d3
      have D4 := Lib.hid (d4.trans (by rw [A4.out, HCO.out]))
      have L6 := Lib.hid (L5.out.kept b6)
      clear d1 d3 d4
      go_wp2_with fail
      refine (lmore_any _ _ r6 r4 _ D1.out L6.out d0 hr4 d2 e2 D3.out E3.out (by omega) hn4).mono ?_
      rintro e w7 ⟨rfl, b7⟩
      have L7 := Lib.hid (L6.out.kept b7)
      have hb7 := ((hbx.trans (b5.mono hbx.size)).trans (b6.mono (Nat.le_trans hbx.size b5.size))).trans (b7.mono (Nat.le_trans hbx.size (Nat.le_trans b5.size b6.size)))
      clear hbx b5 b6 b7 a2 a5 d0 d2 d5
      generalize (f + B) ^ 3 = T at *
      by_cases hge : T ≤ G
      · rw [if_pos hge] at hr
        have hdec : decide (valL r4 < valL r6) = false := by rw [HV.out, D4.out]; apply decide_eq_false; omega
        rw [hdec]
        have HR := Lib.hid hr
        clear hr hge hdec
        go_wp2_with fail
        go_roundw
        case rel => exact ⟨n, f + B, by omega, by rw [HEH.out], by simp, by rw [HBE.out]; exact HG0.out, HG1.out, HR.out, L7.out, hb7⟩
        case measure => simp [intOf]; omega
      · rw [if_neg hge] at hr
        have hdec : decide (valL r4 < valL r6) = true := by rw [HV.out, D4.out]; apply decide_eq_true; omega
        rw [hdec]
        have HR := Lib.hid hr
        clear hr hge hdec
        go_wp2_with fail
        go_roundw
        case rel => exact ⟨n, f, by omega, by rw [HEH.out], rfl, by rw [HBE.out]; exact HF0.out, HF1.out, HR.out, L7.out, hb7⟩
        case measure => simp [intOf]; omega

set_option maxHeartbeats 400000 in
theorem rfrac_bad (p k : Int) (w : World) (h : (k ≠ 2 ∧ k ≠ 3) ∨ p < 1 ∨ 65535 < p) :
    Calls Tryd.prog 89 #[.int .u32 p, .int .i64 k] w fun e w' => e = .returned (.tuple #[.int .u32 0, .int .i64 2]) ∧ w' = w := by
  by_cases h2 : k = 2
  · subst h2
    by_cases h1 : p < 1
    · go_enter Tryd.func89, Tryd.ntmps89
      go_wp2_with fail
      go_ret2
      exact ⟨rfl, rfl⟩
    · have h4 : 65535 < p := by omega
      clear h
      go_enter Tryd.func89, Tryd.ntmps89
      go_wp2_with fail
      go_ret2
      exact ⟨rfl, rfl⟩
  by_cases h3 : k = 3
  · subst h3
    by_cases h1 : p < 1
    · go_enter Tryd.func89, Tryd.ntmps89
      go_wp2_with fail
      go_ret2
      exact ⟨rfl, rfl⟩
    · have h4 : 65535 < p := by omega
      clear h
      go_enter Tryd.func89, Tryd.ntmps89
      go_wp2_with fail
      go_ret2
      exact ⟨rfl, rfl⟩
  clear h
  go_enter Tryd.func89, Tryd.ntmps89
  go_wp2_with fail
  go_ret2
  exact ⟨rfl, rfl⟩

theorem rfrac_ok (p k : Nat) (w : World) (hk : k = 2 ∨ k = 3) (h1 : 1 ≤ p) (h2 : p ≤ 65535) :
    Calls Tryd.prog 89 #[.int .u32 p, .int .i64 k] w fun e w' => e = .returned (.tuple #[.int .u32 (fracI p k : Nat), .int .i64 0]) ∧ Below w.heap.size w w' := by
  rcases hk with rfl | rfl
  · exact rfrac_2 p w h1 h2
  · exact rfrac_3 p w h1 h2
end Go.Proofs.YtfgdddejpdjllaaDoor
