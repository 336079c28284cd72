/-
  Plain facts on numbers of 32-bit words, the lowest word first: what a product word by word is worth.
-/
import Derived.WalkKit
namespace Go.Proofs.YtfgdddejpdjllaaDoor
set_option maxRecDepth 4000
open Go.RowKit

/-- What words are worth, the lowest first. -/
def val : List Nat → Nat
  | [] => 0
  | d :: r => d + 4294967296 * val r

theorem val_set (l : List Nat) : ∀ k v, k < l.length → val (l.set k v) + l[k]?.getD 0 * 4294967296 ^ k = val l + v * 4294967296 ^ k := by
  induction l with
  | nil => intro k v h; simp at h
  | cons d r ih =>
    intro k v h
    cases k with
    | zero => simp [val]; omega
    | succ k =>
      have := ih k v (by simpa using h)
      simp only [List.set_cons_succ, val, List.getElem?_cons_succ, Nat.pow_succ]
      rw [show r[k]?.getD 0 * (4294967296 ^ k * 4294967296) = (r[k]?.getD 0 * 4294967296 ^ k) * 4294967296 from by rw [Nat.mul_assoc],
        show v * (4294967296 ^ k * 4294967296) = (v * 4294967296 ^ k) * 4294967296 from by rw [Nat.mul_assoc]]
      omega

theorem val_take (l : List Nat) : ∀ k, k < l.length → val (l.take (k + 1)) = val (l.take k) + l[k]?.getD 0 * 4294967296 ^ k := by
  induction l with
  | nil => intro k h; simp at h
  | cons d r ih =>
    intro k h
    cases k with
    | zero => simp [val]
    | succ k =>
      have := ih k (by simpa using h)
      simp only [List.take_succ_cons, val, List.getElem?_cons_succ, Nat.pow_succ]
      rw [show r[k]?.getD 0 * (4294967296 ^ k * 4294967296) = (r[k]?.getD 0 * 4294967296 ^ k) * 4294967296 from by rw [Nat.mul_assoc]]
      omega

theorem val_split (l : List Nat) : ∀ k, k ≤ l.length → val l = val (l.take k) + 4294967296 ^ k * val (l.drop k) := by
  induction l with
  | nil => intro k h; simp [val]
  | cons d r ih =>
    intro k h
    cases k with
    | zero => simp [val]
    | succ k =>
      have := ih k (by simpa using h)
      simp only [List.take_succ_cons, List.drop_succ_cons, val, Nat.pow_succ]
      rw [show 4294967296 ^ k * 4294967296 * val (r.drop k) = 4294967296 * (4294967296 ^ k * val (r.drop k)) from by rw [Nat.mul_comm (4294967296 ^ k), Nat.mul_assoc]]
      omega

theorem val_lt (l : List Nat) : (∀ d ∈ l, d < 4294967296) → val l < 4294967296 ^ l.length := by
  induction l with
  | nil => intro _; simp [val]
  | cons d r ih =>
    intro h
    have h1 := h d (by simp)
    have h2 := ih fun x hx => h x (by simp [hx])
    simp only [val, List.length_cons, Nat.pow_succ]
    omega

/-- One round of the inner loop. -/
theorem inner_step (xs bs : List Nat) (V a i j c b p : Nat) (hj : j < bs.length) (hij : i + j < xs.length) (hb : bs[j]?.getD 0 = b) (hp : xs[i + j]?.getD 0 = p)
    (h : val xs + c * 4294967296 ^ (i + j) = V + a * 4294967296 ^ i * val (bs.take j)) :
    val (xs.set (i + j) ((c + (a * b + p)) % 4294967296)) + (c + (a * b + p)) / 4294967296 * 4294967296 ^ (i + (j + 1)) = V + a * 4294967296 ^ i * val (bs.take (j + 1)) := by
  have h1 := val_set xs (i + j) ((c + (a * b + p)) % 4294967296) hij
  rw [hp] at h1
  rw [val_take bs j hj, hb]
  have h2 : c + (a * b + p) = (c + (a * b + p)) % 4294967296 + (c + (a * b + p)) / 4294967296 * 4294967296 := by omega
  generalize (c + (a * b + p)) % 4294967296 = r at *
  generalize (c + (a * b + p)) / 4294967296 = q at *
  have e1 : q * 4294967296 ^ (i + (j + 1)) = (q * 4294967296) * 4294967296 ^ (i + j) := by
    rw [show i + (j + 1) = (i + j) + 1 from by omega, Nat.pow_succ, Nat.mul_comm (4294967296 ^ (i + j)), Nat.mul_assoc]
  have e2 : a * 4294967296 ^ i * (val (bs.take j) + b * 4294967296 ^ j) = a * 4294967296 ^ i * val (bs.take j) + (a * b) * 4294967296 ^ (i + j) := by
    rw [Nat.mul_add, Nat.pow_add]; congr 1; ac_rfl
  have e3 : (c + (a * b + p)) * 4294967296 ^ (i + j) = (r + q * 4294967296) * 4294967296 ^ (i + j) := by rw [← h2]
  simp only [Nat.add_mul] at e3
  rw [e1, e2]
  omega

/-- One round of the outer loop. -/
theorem outer_step (as bs xs : List Nat) (V a i c : Nat) (hi : i < as.length) (ha : as[i]?.getD 0 = a) (h4 : i ≤ 4) (hbs : bs.length = 4)
    (hV : V % 4294967296 ^ 4 = val (as.take i) * val bs % 4294967296 ^ 4)
    (h : val xs + c * 4294967296 ^ 4 = V + a * 4294967296 ^ i * val (bs.take (4 - i))) :
    val xs % 4294967296 ^ 4 = val (as.take (i + 1)) * val bs % 4294967296 ^ 4 := by
  rw [val_take as i hi, ha]
  have h1 := val_split bs (4 - i) (by omega)
  have e1 : a * 4294967296 ^ i * val bs = a * 4294967296 ^ i * val (bs.take (4 - i)) + (a * val (bs.drop (4 - i))) * 4294967296 ^ 4 := by
    rw [h1, Nat.mul_add]
    congr 1
    rw [show (4294967296 : Nat) ^ 4 = 4294967296 ^ i * 4294967296 ^ (4 - i) from by rw [← Nat.pow_add]; congr 1; omega]; ac_rfl
  have e2 : (val (as.take i) + a * 4294967296 ^ i) * val bs = val (as.take i) * val bs + a * 4294967296 ^ i * val bs := by rw [Nat.add_mul]
  rw [e2, e1]
  generalize a * 4294967296 ^ i * val (bs.take (4 - i)) = T at *
  generalize a * val (bs.drop (4 - i)) = D at *
  generalize val (as.take i) * val bs = S at *
  have e4 : (4294967296 : Nat) ^ 4 = 340282366920938463463374607431768211456 := by decide
  rw [e4] at *
  omega

theorem drop_at (l : List Nat) (i : Nat) (h : i < l.length) : l.drop i = l[i]?.getD 0 :: l.drop (i + 1) := by
  rw [List.drop_eq_getElem_cons h]; simp [h]

/-- Which of two is greater is told by the highest word in which they differ. -/
theorem val_cmp (us bs : List Nat) (i : Nat) (hu : i < us.length) (hb : i < bs.length) (su : ∀ d ∈ us, d < 4294967296) (sb : ∀ d ∈ bs, d < 4294967296)
    (h : us.drop (i + 1) = bs.drop (i + 1)) (hne : us[i]?.getD 0 ≠ bs[i]?.getD 0) : (val bs < val us) ↔ bs[i]?.getD 0 < us[i]?.getD 0 := by
  have e1 := val_split us i (by omega)
  have e2 := val_split bs i (by omega)
  rw [drop_at us i hu, val, h, Nat.mul_add] at e1
  rw [drop_at bs i hb, val, Nat.mul_add] at e2
  have l1 := val_lt (us.take i) (fun d hd => su d (List.mem_of_mem_take hd))
  have l2 := val_lt (bs.take i) (fun d hd => sb d (List.mem_of_mem_take hd))
  rw [List.length_take, Nat.min_eq_left (by omega)] at l1 l2
  generalize us[i]?.getD 0 = x at *
  generalize bs[i]?.getD 0 = y at *
  have key : ∀ x y : Nat, x < y → (4294967296 : Nat) ^ i * x + 4294967296 ^ i ≤ 4294967296 ^ i * y := by
    intro x y hxy
    have := Nat.mul_le_mul_left ((4294967296 : Nat) ^ i) (Nat.succ_le_of_lt hxy)
    rwa [Nat.mul_succ] at this
  constructor
  · intro hlt
    rcases Nat.lt_or_ge y x with h' | h'
    · exact h'
    · have := key x y (by omega)
      omega
  · intro hlt
    have := key y x hlt
    omega
end Go.Proofs.YtfgdddejpdjllaaDoor
