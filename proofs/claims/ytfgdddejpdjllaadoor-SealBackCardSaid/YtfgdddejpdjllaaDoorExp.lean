/-
  Codes under a key: many bytes of one.
-/
import Derived.Test.YtfgdddejpdjllaaDoorAlive3
import Derived.Test.YtfgdddejpdjllaaDoorPrimes
namespace Go.Proofs.YtfgdddejpdjllaaDoor
set_option maxRecDepth 4000
open Go.RowKit

/-- The code behind i codes. -/
def blkS (key lab : List Int) : Nat → List Int
  | 0 => []
  | i + 1 => macS key (blkS key lab i ++ (lab ++ [(i : Int) + 1]))
theorem blkS_length (key lab : List Int) (i : Nat) : (blkS key lab (i + 1)).length = 32 := macS_length _ _
theorem blkS_byt (key lab : List Int) (i : Nat) : Byt (blkS key lab i) := by
  cases i with
  | zero => intro z hz; simp [blkS] at hz
  | succ i => exact macS_byt _ _
theorem blkS_le (key lab : List Int) (i : Nat) : (blkS key lab i).length ≤ 32 := by
  cases i with
  | zero => simp [blkS]
  | succ i => rw [blkS_length]; omega
/-- The first k codes, one behind the other. -/
def expAll (key lab : List Int) : Nat → List Int
  | 0 => []
  | k + 1 => expAll key lab k ++ blkS key lab (k + 1)
theorem expAll_length (key lab : List Int) (k : Nat) : (expAll key lab k).length = 32 * k := by
  induction k with
  | zero => rfl
  | succ k ih => rw [expAll, List.length_append, ih, blkS_length]; omega
theorem expAll_byt (key lab : List Int) (k : Nat) : Byt (expAll key lab k) := by
  induction k with
  | zero => intro z hz; simp [expAll] at hz
  | succ k ih => exact byt_app ih (blkS_byt _ _ _)
theorem expAll_next (key lab : List Int) (k n c : Nat) (hc : c = min 32 (n - 32 * k)) : (expAll key lab (k + 1)).take n = (expAll key lab k).take n ++ (blkS key lab (k + 1)).take c := by
  rw [expAll, List.take_append, expAll_length, hc]
  congr 1
  by_cases h2 : 32 ≤ n - 32 * k
  · rw [Nat.min_eq_left h2, List.take_of_length_le (by rw [blkS_length]; omega), List.take_of_length_le (by rw [blkS_length]; omega)]
  · rw [Nat.min_eq_right (by omega)]
/-- The first n bytes. -/
def expS (key lab : List Int) (n : Nat) : List Int := (expAll key lab ((n + 31) / 32)).take n
theorem expS_length (key lab : List Int) (n : Nat) : (expS key lab n).length = n := by rw [expS, List.length_take, expAll_length]; omega
theorem expS_byt (key lab : List Int) (n : Nat) : Byt (expS key lab n) := fun z hz => expAll_byt key lab _ z (List.mem_of_mem_take hz)

theorem Coder.grown {w w' : World} {v : Value} {key : List Int} {B D F : Nat} (h : Coder w v key B D F) (hb : Below w.heap.size w w') : Coder w' v key B D F := h.kept hb

def vs3 (v10 v9 v37 : Value) : Nat → Value
  | 0 => v10
  | 1 => v9
  | _ => v37
theorem parts3 {w : World} {P : Nat} {v10 v9 v37 : Value} {a b c : List Int} {r : Nat × Nat} {t : TypeId} (h : w.heap[P]? = some (.cells #[v10, v9, v37] t r)) (ha : BS w v10 a) (hb : BS w v9 b) (hc : BS w v37 c) (ra : Room v10) (rb : Room v9) (rc : Room v37) :
    Parts w P (vs3 v10 v9 v37) [a, b, c] := by
  refine ⟨fun i hi => ?_, fun i hi => ?_, fun i hi => ?_⟩
  · have : i = 0 ∨ i = 1 ∨ i = 2 := by simp at hi; omega
    rcases this with rfl | rfl | rfl <;> exact cell_of_row _ _ _ _ _ _ h
  · have : i = 0 ∨ i = 1 ∨ i = 2 := by simp at hi; omega
    rcases this with rfl | rfl | rfl
    · exact ha
    · exact hb
    · exact hc
  · have : i = 0 ∨ i = 1 ∨ i = 2 := by simp at hi; omega
    rcases this with rfl | rfl | rfl
    · exact ra
    · exact rb
    · exact rc

theorem own_below {w w' : World} {base n : Nat} {e : TypeId} {v : Value} {xs : List Value} (h : w.ownsRow base e 1 v n xs) (hb : Below w.heap.size w w') : w'.ownsRow base e 1 v n xs := by
  refine ⟨h.1, ?_⟩
  rcases h.2 with hn | ⟨g, cap, cur, rfl, hbg, hg, rest⟩
  · exact .inl hn
  · exact .inr ⟨g, cap, cur, rfl, hbg, (hb.block g (lt_of_block hg)).trans hg, rest⟩
/-- What is kept while codes are put one behind the other. -/
def ExpR (key lab : List Int) (n : Nat) (W6 : World) (v10 v11 v12 : Value) (wr : World) : Prop :=
  ∃ (k m : Nat) (a : Option Addr) (cap : Nat) (a10 : Option Addr) (c10 : Nat), m = min n (32 * k) ∧ 32 * k ≤ n + 31 ∧ v12 = .int .i64 ((k : Int) + 1) ∧ v11 = .slice a m cap ∧
    wr.ownsRow W6.heap.size 5 1 (.slice a m cap) m (((expAll key lab k).take n).map (.int .u8)) ∧ v10 = .slice a10 (blkS key lab k).length c10 ∧ BS wr (.slice a10 (blkS key lab k).length c10) (blkS key lab k) ∧ Room (.slice a10 (blkS key lab k).length c10) ∧ Below W6.heap.size W6 wr

end Go.Proofs.YtfgdddejpdjllaaDoor
