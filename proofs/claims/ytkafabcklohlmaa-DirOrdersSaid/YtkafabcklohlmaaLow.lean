/-
  Math: Plain facts on numbers, bits and lists of bytes, over no program.
  Num: num's Get, Put, Narrow, Top and Turn, and the reference's Top and Same, each by a contract of its own.
  Turn: What turns of 32 bits do, one behind the other.
  Bits: Plain facts on a number's bits, and on bits' number, over no program.
  Ref: The reference's Bits, Of, Turn, Put, Num, Get and Narrow, each by a contract of its own.
-/
import Derived.WalkKit
import Derived.Test.YtkafabcklohlmaaRows
import Derived.WalkSpells
import Derived.WalkLawsBesides
import Derived.Lib.Hide
import Derived.Laws.BytesArg
import Derived.Laws.AppendOwnNone
namespace Go.Proofs.Ytkafabcklohlmaa
set_option maxRecDepth 4000
open Go.RowKit

theorem wrap_u64_of (n : Nat) (h : n < 18446744073709551616) : IntKind.u64.wrap (n : Int) = n := IntWalk.u64_in _ (by omega)
theorem wrap_u32_of (n : Nat) (h : n < 4294967296) : IntKind.u32.wrap (n : Int) = n := IntWalk.u32_in _ (by omega)
theorem wrap_u8_of (n : Nat) (h : n < 256) : IntKind.u8.wrap (n : Int) = n := IntWalk.u8_in _ (by omega)

theorem ofInt_nat (m n : Nat) : (BitVec.ofInt m (n : Int)) = BitVec.ofNat m n := by
  simp

theorem bits_nat_or (k : IntKind) (a b : Nat) : bits BinOp.or k (a : Int) (b : Int) = k.wrap (((a % 2 ^ k.bits) ||| (b % 2 ^ k.bits) : Nat) : Int) := by
  simp only [bits, ofInt_nat, BitVec.toNat_or, BitVec.toNat_ofNat]
theorem bits_or_u64 (a b : Nat) (ha : a < 18446744073709551616) (hb : b < 18446744073709551616) : bits BinOp.or IntKind.u64 (a : Int) (b : Int) = ((a ||| b : Nat) : Int) := by
  have h : a ||| b < 2 ^ 64 := Nat.or_lt_two_pow (by simpa using ha) (by simpa using hb)
  have e : IntKind.u64.bits = 64 := rfl
  rw [bits_nat_or, e, Nat.mod_eq_of_lt (by simpa using ha), Nat.mod_eq_of_lt (by simpa using hb)]
  exact wrap_u64_of _ (by simpa using h)
theorem bits_or_u32 (a b : Nat) (ha : a < 4294967296) (hb : b < 4294967296) : bits BinOp.or IntKind.u32 (a : Int) (b : Int) = ((a ||| b : Nat) : Int) := by
  have h : a ||| b < 2 ^ 32 := Nat.or_lt_two_pow (by simpa using ha) (by simpa using hb)
  have e : IntKind.u32.bits = 32 := rfl
  rw [bits_nat_or, e, Nat.mod_eq_of_lt (by simpa using ha), Nat.mod_eq_of_lt (by simpa using hb)]
  exact wrap_u32_of _ (by simpa using h)
theorem snoc_ind {α : Type} {P : List α → Prop} (h0 : P []) (h1 : ∀ l a, P l → P (l ++ [a])) (l : List α) : P l := by
  rw [← List.reverse_reverse l]
  induction l.reverse with
  | nil => simpa using h0
  | cons a t ih => rw [List.reverse_cons]; exact h1 _ _ ih

theorem or_add (a b i : Nat) (h : b < 2 ^ i) : a * 2 ^ i ||| b = a * 2 ^ i + b := by
  rw [← Nat.shiftLeft_eq]
  exact (Nat.shiftLeft_add_eq_or_of_lt h a).symm

/-- Bytes' number, the highest first. -/
def num (l : List Int) : Int := l.foldl (fun x c => x * 256 + c) 0

theorem num_nil : num [] = 0 := rfl
theorem num_snoc (l : List Int) (c : Int) : num (l ++ [c]) = num l * 256 + c := by simp [num]
def Byt (l : List Int) : Prop := ∀ z ∈ l, 0 ≤ z ∧ z ≤ 255

theorem num_bound (l : List Int) : Byt l → 0 ≤ num l ∧ num l < 256 ^ l.length := by
  induction l using snoc_ind with
  | h0 => intro _; simp [num]
  | h1 l c ih =>
    intro h
    have := ih (fun z hz => h z (by simp [hz]))
    have hc := h c (by simp)
    rw [num_snoc]
    simp only [List.length_append, List.length_singleton, Int.pow_succ]
    omega

theorem or_step (x c : Int) (h0 : 0 ≤ x) (h1 : x < 72057594037927936) (h2 : 0 ≤ c) (h3 : c ≤ 255) : bits BinOp.or IntKind.u64 (x * 256) c = x * 256 + c := by
  obtain ⟨a, rfl⟩ := Int.eq_ofNat_of_zero_le h0
  obtain ⟨b, rfl⟩ := Int.eq_ofNat_of_zero_le h2
  have := or_add a b 8 (by omega)
  have e : ((a : Int) * 256) = ((a * 2 ^ 8 : Nat) : Int) := by simp
  rw [e, bits_or_u64 _ _ (by omega) (by omega), this]
  simp

theorem take_next (l : List Int) (k : Nat) (h : k < l.length) : l.take (k + 1) = l.take k ++ [l[k]?.getD 0] := by
  rw [List.take_succ_eq_append_getElem h]; simp [h]
theorem byt_at (l : List Int) (h : Byt l) (k : Nat) : 0 ≤ l[k]?.getD 0 ∧ l[k]?.getD 0 ≤ 255 := by
  by_cases hk : k < l.length
  · simp only [List.getElem?_eq_getElem hk, Option.getD_some]
    exact h _ (List.getElem_mem hk)
  · simp [List.getElem?_eq_none (by omega : l.length ≤ k)]
theorem byt_take (l : List Int) (h : Byt l) (k : Nat) : Byt (l.take k) := fun z hz => h z (List.mem_of_mem_take hz)

theorem pow256_le (n : Nat) (h : n ≤ 7) : (256 : Int) ^ n ≤ 72057594037927936 := by
  match n, h with
  | 0, _ | 1, _ | 2, _ | 3, _ | 4, _ | 5, _ | 6, _ | 7, _ => decide
theorem num_take_le (l : List Int) (h : Byt l) (k : Nat) (hk : k ≤ 7) : 0 ≤ num (l.take k) ∧ num (l.take k) < 72057594037927936 := by
  have := num_bound _ (byt_take l h k)
  have h2 := pow256_le (l.take k).length (by have := List.length_take_le k l; omega)
  omega
/-- One round of Get. -/
theorem get_step (l : List Int) (h : Byt l) (k : Nat) (hk : k < l.length) (h8 : l.length ≤ 8) :
    bits BinOp.or IntKind.u64 (num (l.take k) * 256) (l[k]?.getD 0) = num (l.take (k + 1)) := by
  have h1 := num_take_le l h k (by omega)
  have h2 := byt_at l h k
  rw [take_next l k hk, num_snoc, or_step _ _ h1.1 h1.2 h2.1 h2.2]

/-- The place of the highest bit; -1 of nought. -/
def topI (x : Int) : Int := if x = 0 then -1 else (Nat.log2 x.toNat : Nat)
theorem topI_zero : topI 0 = -1 := rfl
theorem topI_half (x : Int) (h : 0 < x) : topI x = topI (x / 2) + 1 := by
  obtain ⟨n, rfl⟩ := Int.eq_ofNat_of_zero_le (Int.le_of_lt h)
  unfold topI
  have e : ((n : Int) / 2) = ((n / 2 : Nat) : Int) := by simp
  rw [e, if_neg (by omega), Int.toNat_natCast, Int.toNat_natCast, Nat.log2_def]
  by_cases h2 : 2 ≤ n
  · rw [if_pos h2, if_neg (by omega)]; simp
  · have : n = 1 := by omega
    subst this; rfl
theorem topI_ge (x : Int) : -1 ≤ topI x := by unfold topI; split <;> omega
theorem topI_lt (x : Int) (n : Nat) (h0 : 0 ≤ x) (h : x < 2 ^ n) : topI x < n := by
  unfold topI
  split
  · omega
  · obtain ⟨m, rfl⟩ := Int.eq_ofNat_of_zero_le h0
    have h' : m < 2 ^ n := by
      have : ((2 : Int) ^ n) = ((2 ^ n : Nat) : Int) := by simp
      omega
    have := (Nat.log2_lt (by omega : m ≠ 0)).2 h'
    simp only [Int.toNat_natCast]
    omega
theorem topI_ge_of (x : Int) (n : Nat) (h : 2 ^ n ≤ x) : n ≤ topI x := by
  have hp : (0 : Int) < 2 ^ n := Int.pow_pos (by decide)
  obtain ⟨m, rfl⟩ := Int.eq_ofNat_of_zero_le (by omega : 0 ≤ x)
  have h' : 2 ^ n ≤ m := by
    have : ((2 : Int) ^ n) = ((2 ^ n : Nat) : Int) := by simp
    omega
  unfold topI
  rw [if_neg (by omega)]
  have := (Nat.le_log2 (by omega : m ≠ 0)).2 h'
  simp only [Int.toNat_natCast]
  omega

/-- The bytes of x, the highest first. -/
def putI (x : Int) (n : Nat) : List Int := (List.range n).map fun i => x / 2 ^ (8 * (n - 1 - i)) % 256
/-- The first k of them, then noughts. -/
def putP (x : Int) (n k : Nat) : List Int := (List.range n).map fun i => if i < k then x / 2 ^ (8 * (n - 1 - i)) % 256 else 0
theorem putP_zero (x : Int) (n : Nat) : (putP x n 0).map (Value.int .u8) = List.replicate n (.int .u8 0) := by
  apply List.ext_getElem
  · simp [putP]
  · intro i h1 h2; simp [putP]
theorem putP_at (x : Int) (n k : Nat) (h : k < n) : ((putP x n k).map (Value.int .u8))[k]? = some (.int .u8 0) := by
  simp [putP, h]
theorem putP_set (x : Int) (n k : Nat) : ((putP x n k).map (Value.int .u8)).set k (.int .u8 (x / 2 ^ (8 * (n - 1 - k)) % 256)) = (putP x n (k + 1)).map (Value.int .u8) := by
  apply List.ext_getElem
  · simp [putP]
  · intro i h1 h2
    by_cases e : k = i
    · subst e; simp [putP]
    · simp only [putP, List.map_map, List.getElem_set, if_neg e, List.getElem_map, List.getElem_range, Function.comp_apply]
      by_cases hi : i < k
      · rw [if_pos hi, if_pos (by omega)]
      · rw [if_neg hi, if_neg (by omega)]
theorem putP_full (x : Int) (n : Nat) : putP x n n = putI x n := by
  apply List.map_congr_left
  intro i hi
  rw [if_pos (by simpa using hi)]
theorem putI_length (x : Int) (n : Nat) : (putI x n).length = n := by simp [putI]
theorem putI_byt (x : Int) (n : Nat) : Byt (putI x n) := by
  intro z hz
  obtain ⟨i, _, rfl⟩ := List.mem_map.1 hz
  omega
theorem putI_num (n : Nat) : ∀ x : Int, 0 ≤ x → x < 2 ^ (8 * n) → num (putI x n) = x := by
  induction n with
  | zero => intro x h0 h1; simp at h1; simp [putI, num]; omega
  | succ n ih =>
    intro x h0 h1
    have e : putI x (n + 1) = putI (x / 256) n ++ [x % 256] := by
      unfold putI
      rw [List.range_succ, List.map_append]
      congr 1
      · apply List.map_congr_left
        intro i hi
        have hi' : i < n := by simpa using hi
        rw [show 8 * (n + 1 - 1 - i) = 8 + 8 * (n - 1 - i) from by omega, Int.pow_add, ← Int.ediv_ediv_of_nonneg (by decide)]
        rfl
      · simp
    rw [e, num_snoc, ih _ (by omega) (by
      have : (2 : Int) ^ (8 * (n + 1)) = 2 ^ (8 * n) * 256 := by rw [show 8 * (n + 1) = 8 * n + 8 from by omega, Int.pow_add]; rfl
      omega)]
    omega
theorem num_putI (l : List Int) : Byt l → putI (num l) l.length = l := by
  induction l using snoc_ind with
  | h0 => intro _; rfl
  | h1 l c ih =>
    intro h
    have hc := h c (by simp)
    have hl := ih (fun z hz => h z (by simp [hz]))
    have hb := num_bound l (fun z hz => h z (by simp [hz]))
    rw [num_snoc]
    have e : (l ++ [c]).length = l.length + 1 := by simp
    rw [e]
    unfold putI
    rw [List.range_succ, List.map_append]
    have e1 : (num l * 256 + c) / 256 = num l := by omega
    congr 1
    · conv => rhs; rw [← hl]
      apply List.map_congr_left
      intro i hi
      have hi' : i < l.length := by simpa using hi
      rw [show 8 * (l.length + 1 - 1 - i) = 8 + 8 * (l.length - 1 - i) from by omega, Int.pow_add, ← Int.ediv_ediv_of_nonneg (by decide)]
      rw [show ((num l * 256 + c) / 2 ^ 8) = num l from by simpa using e1]
    · simp; omega

theorem pow256_le8 (n : Nat) (h : n ≤ 8) : (256 : Int) ^ n ≤ 18446744073709551616 := by
  match n, h with
  | 0, _ | 1, _ | 2, _ | 3, _ | 4, _ | 5, _ | 6, _ | 7, _ | 8, _ => decide
theorem num_append (l m : List Int) : num (l ++ m) = num l * 256 ^ m.length + num m := by
  induction m using snoc_ind with
  | h0 => simp [num]
  | h1 m c ih =>
    rw [← List.append_assoc, num_snoc, num_snoc, ih, List.length_append, List.length_singleton, Int.pow_succ, Int.add_mul, Int.mul_assoc]
    omega
theorem pow_bytes (n : Nat) : (2 : Int) ^ (8 * n) = 256 ^ n := by rw [Int.pow_mul]; rfl
theorem or_place (x y : Int) (n : Nat) (h0 : 0 ≤ x) (h1 : 0 ≤ y) (h2 : y < 2 ^ n) (h3 : x * 2 ^ n + y < 18446744073709551616) :
    bits BinOp.or IntKind.u64 (IntKind.u64.wrap (x * 2 ^ n)) y = x * 2 ^ n + y := by
  obtain ⟨a, rfl⟩ := Int.eq_ofNat_of_zero_le h0
  obtain ⟨b, rfl⟩ := Int.eq_ofNat_of_zero_le h1
  have e : ((a : Int) * 2 ^ n) = ((a * 2 ^ n : Nat) : Int) := by simp
  have e2 : ((2 : Int) ^ n) = ((2 ^ n : Nat) : Int) := by simp
  rw [e] at h3 ⊢
  rw [e2] at h2
  rw [wrap_u64_of _ (by omega), bits_or_u64 _ _ (by omega) (by omega), or_add a b n (by omega)]
  omega
theorem parts_or (l m : List Int) (hl : Byt l) (hm : Byt m) (h8 : l.length + m.length ≤ 8) :
    bits BinOp.or IntKind.u64 (IntKind.u64.wrap (num l * 2 ^ (8 * m.length))) (num m) = num (l ++ m) := by
  have b1 := num_bound l hl
  have b2 := num_bound m hm
  have b3 := num_bound (l ++ m) (fun z hz => by rcases List.mem_append.1 hz with h | h; exact hl z h; exact hm z h)
  have e := pow256_le8 (l ++ m).length (by simpa using h8)
  rw [num_append] at b3 ⊢
  rw [or_place _ _ _ b1.1 b2.1 (by rw [pow_bytes]; exact b2.2) (by rw [pow_bytes]; omega), pow_bytes]
end Go.Proofs.Ytkafabcklohlmaa
namespace Go.Proofs.Ytkafabcklohlmaa
set_option maxRecDepth 4000
open Go.RowKit

/-- A slice of bytes that reads as l. -/
def BS (w : World) (v : Value) (l : List Int) : Prop :=
  ∃ a cap, v = .slice a l.length cap ∧ Byt l ∧ (a = none → cap = 0) ∧ (l = [] ∨ ∃ b off, a = some ⟨b, off, none⟩ ∧ ∀ i, i < l.length → w.cell? ⟨b, off + i, none⟩ = some (.int .u8 (l.getD i 0)))


theorem BS.byt {w : World} {v : Value} {l : List Int} (h : BS w v l) : Byt l := by obtain ⟨_, _, _, hy, _⟩ := h; exact hy
theorem BS.kept {w w' : World} {v : Value} {l : List Int} (h : BS w v l) (hb : Below w.heap.size w w') : BS w' v l := by
  obtain ⟨a, cap, hv, hy, hn, h⟩ := h
  refine ⟨a, cap, hv, hy, hn, ?_⟩
  rcases h with h | ⟨b, off, ha, hc⟩
  · exact .inl h
  · refine .inr ⟨b, off, ha, fun i hi => ?_⟩
    have hlt := block_lt_of_cell (hc i hi)
    rw [hb.cell hlt]; exact hc i hi
theorem BS.drew {w : World} {v : Value} {l : List Int} (h : BS w v l) : BS w.drew v l := h
theorem BS.of_owns {w : World} {base g n : Nat} {l : List Int} (h : w.ownsRow base 5 1 (.slice (some ⟨g, 0, none⟩) n n) n (l.map (Value.int .u8))) (hl : l.length = n) (hb : Byt l) :
    BS w (.slice (some ⟨g, 0, none⟩) n n) l := by
  refine ⟨some ⟨g, 0, none⟩, n, by rw [hl], hb, nofun, .inr ⟨g, 0, rfl, fun i hi => ?_⟩⟩
  rw [Nat.zero_add, h.cellAt i (by omega)]
  simp [hi]
theorem BS.lit (w : World) (l : List Int) (hb : Byt l) : BS (w.alloc (.cells (l.map (Value.int .u8)).toArray 5)) (.slice (some ⟨w.heap.size, 0, none⟩) l.length l.length) l := by
  refine ⟨_, _, rfl, hb, nofun, .inr ⟨_, 0, rfl, fun i hi => ?_⟩⟩
  rw [cell_of_row _ _ _ _ _ _ (heap_alloc_new w _)]
  simp [hi]
/-- A slice of bytes that came in, as the shell of a law tells it. -/
theorem BS.of_row {w : World} {a : Option Addr} {len cap : Nat} {zs : List Int} (h : (a = none ∧ len = 0 ∧ cap = 0 ∧ zs = []) ∨
    ∃ x, a = some x ∧ len ≤ cap ∧ cap ≤ maxLen ∧ zs.length = cap ∧ (∀ i, i < zs.length → w.cell? (x.add i) = some (.int .u8 (zs.getD i 0))) ∧ ∀ n ∈ zs, (Lit.int .u8 n).wf = true) :
    ∃ l, l.length = len ∧ BS w (.slice a len cap) l ∧ len ≤ 9223372036854775807 := by
  rcases h with ⟨rfl, rfl, rfl, rfl⟩ | ⟨x, rfl, hl, hm, hz, hcell, hwz⟩
  · exact ⟨[], rfl, ⟨_, 0, rfl, by intro z hz; simp at hz, fun _ => rfl, .inl rfl⟩, by omega⟩
  · unfold maxLen at hm
    have hlen : (zs.take len).length = len := by rw [List.length_take, Nat.min_eq_left (by omega)]
    refine ⟨zs.take len, hlen, ⟨some x, cap, by rw [hlen], ?_, nofun, ?_⟩, by omega⟩
    · intro z hz
      have := hwz z (List.mem_of_mem_take hz)
      simp [Lit.wf, IntKind.min, IntKind.max, IntKind.signed, IntKind.bits] at this
      omega
    · by_cases h0 : len = 0
      · left; subst h0; rfl
      · right
        obtain ⟨b, off, spot⟩ := x
        have hspot : spot = none := by simpa [Addr.add] using World.cell?_spot (hcell 0 (by omega))
        subst hspot
        refine ⟨b, off, rfl, fun i hi => ?_⟩
        rw [hlen] at hi
        have hc := hcell i (by omega)
        have e : (zs.take len).getD i 0 = zs.getD i 0 := by simp [List.getD, hi]
        have e2 : (⟨b, off, none⟩ : Addr).add i = ⟨b, off + i, none⟩ := by unfold Addr.add; split <;> simp_all
        rw [e, ← e2]
        exact hc
theorem BS.of_own {w : World} {base n : Nat} {v : Value} {l : List Int} (h : w.ownsRow base 5 1 v n (l.map (Value.int .u8))) (hl : l.length = n) (hb : Byt l) : BS w v l := by
  rcases h.2 with ⟨rfl, h0⟩ | ⟨g, cap, cur, rfl, _, hg, hc, _, hs, ht⟩
  · have : l = [] := List.eq_nil_of_length_eq_zero (by omega)
    subst this
    exact ⟨none, 0, rfl, hb, fun _ => rfl, .inl rfl⟩
  · refine ⟨some ⟨g, 0, none⟩, cap, by rw [hl], hb, nofun, .inr ⟨g, 0, rfl, fun i hi => ?_⟩⟩
    rw [Nat.zero_add, h.cellAt i (by omega)]
    simp [hi]
theorem info_u8 : (Try.prog.info? 5).map (fun i => (i.zero, i.size, i.bytes)) = some (some (.int .u8 0), 1, 1) := by kernel_rfl
/-- 'append(v, x...)', v the call's own, x any slice of bytes. -/
theorem wpList_append_BS {ops : Array Oper} {rest : List Oper} {o : Oper} {a : Act} {w : World} {Q : Exit → Act → World → Prop} (hgd : o.guard = none) (s x : Operand)
    (ho : o.op = .call { callee := .builtin .append, args := #[s, x], argTypes := #[64, 64] })
    (base : Nat) (v : Value) (n : Nat) (xs : List Value) (hs : a.eval s = v) (hown : w.ownsRow base 5 1 v n xs)
    (vx : Value) (l : List Int) (hx : a.eval x = vx) (hB : BS w vx l) (h63 : n + l.length ≤ 140737488355328) (hbase : base ≤ w.heap.size)
    (h : ∀ v' w', w'.ownsRow base 5 1 v' (n + l.length) (xs ++ l.map (Value.int .u8)) → w.grownBy w' v.ownBlock → wpList Try.prog ops Q rest (a.put o.dst v') w') : wpList Try.prog ops Q (o :: rest) a w := by
  obtain ⟨i0, hi, hz0, hz1, hz2⟩ := info_parts info_u8
  obtain ⟨ad, cap, rfl, hb, hn, hc⟩ := hB
  cases ad with
  | none =>
    obtain rfl := hn rfl
    have hl : l = [] := by
      rcases hc with h | ⟨b, off, h, _⟩
      · exact h
      · cases h
    subst hl
    refine wpList_append_own_none hgd s x _ ho base 5 i0 1 Try.underlying64 hi v n xs hs hown hx ?_
    have := h v w (by simpa using hown) ⟨rfl, rfl, rfl, Nat.le_refl _, fun _ _ _ => rfl⟩
    exact this
  | some ad =>
    refine wpList_append_own w hgd s x _ ho base 5 i0 _ 1 1 Try.underlying64 hi hz0 hz1 hz2 rfl (by decide) v n xs hs hown ad l.length cap (l.map (Value.int .u8)) hx (by simp) ?_ ?_ (by unfold maxLen; omega) (by omega) hbase (fun v' w' h1 h2 _ => h v' w' h1 h2)
    · intro j u hj
      have hjl : j < l.length := by
        have := (List.getElem?_eq_some_iff.1 hj).1
        simpa using this
      rcases hc with hc | ⟨b, off, he, hc⟩
      · subst hc; simp at hjl
      · obtain rfl := Option.some.inj he
        have e2 : (⟨b, off, none⟩ : Addr).add j = ⟨b, off + j, none⟩ := by unfold Addr.add; split <;> simp_all
        rw [e2, hc j hjl]
        simp [hjl] at hj
        simp [hjl, hj]
    · intro u hu
      simp only [List.mem_map] at hu
      obtain ⟨z, _, rfl⟩ := hu
      rfl
set_option maxRecDepth 4000 in
set_option maxHeartbeats 400000 in
theorem get_long (w : World) (a : Option Addr) (n cap : Nat) (h : 8 < n) (hn : n ≤ 9223372036854775807) :
    Calls Try.prog 80 #[.slice a n cap] w fun e w' => e = .returned (.tuple #[.int .u64 0, .int .i64 2]) ∧ w' = w := by
  have h1 : (8 : Int) < (n : Int) := by omega
  go_enter Try.func80, Try.ntmps80
  go_wp2
  go_ret2
  exact ⟨rfl, rfl⟩

set_option maxRecDepth 4000 in
set_option maxHeartbeats 400000 in
theorem get_nil (w : World) (a : Option Addr) (cap : Nat) :
    Calls Try.prog 80 #[.slice a 0 cap] w fun e w' => e = .returned (.tuple #[.int .u64 0, .int .i64 0]) ∧ w' = w := by
  go_enter Try.func80, Try.ntmps80
  go_wp2
  go_loop [4, 12] (fun x i => x = .int .u64 0 ∧ i = .int .i64 0) (fun _ i => 0)
  case atStart => exact ⟨rfl, rfl⟩
  case round =>
    obtain ⟨rfl, rfl⟩ := hrel
    go_wp2
    go_ret2
    exact ⟨rfl, rfl⟩

set_option maxRecDepth 4000 in
set_option maxHeartbeats 400000 in
theorem get_some (w : World) (b off cap : Nat) (l : List Int) (h8 : l.length ≤ 8) (hb : Byt l)
    (hc : ∀ i, i < l.length → w.cell? ⟨b, off + i, none⟩ = some (.int .u8 (l.getD i 0))) :
    Calls Try.prog 80 #[.slice (some ⟨b, off, none⟩) l.length cap] w fun e w' => e = .returned (.tuple #[.int .u64 (num l), .int .i64 0]) ∧ w' = w := by
  have HS := Lib.hid (fun k (hk : k < l.length) => get_step l hb k hk h8)
  generalize hn : l.length = n at *
  have HN := Lib.hid hn
  clear hn
  go_enter Try.func80, Try.ntmps80
  go_wp2
  go_loop [4, 12] (fun x i => ∃ k : Nat, k ≤ n ∧ i = .int .i64 k ∧ x = .int .u64 (num (l.take k))) (fun _ i => n - (intOf i).toNat)
  case atStart => exact ⟨0, by omega, rfl, rfl⟩
  case round =>
    obtain ⟨k, hk, rfl, rfl⟩ := hrel
    by_cases hlt : k < n
    · have hcx := hc k hlt
      clear hc
      obtain ⟨b1, b2⟩ := num_take_le l hb k (by omega)
      obtain ⟨c1, c2⟩ := byt_at l hb k
      go_wp2
      go_round
      case rel => exact ⟨k + 1, by omega, by go_num, by rw [HS.out k hlt]⟩
      case measure => simp [intOf]; omega
    · have hkn : k = n := by omega
      subst hkn
      go_wp2
      go_ret2
      have e := HN.out
      exact ⟨by rw [List.take_of_length_le (by omega)]; rfl, rfl⟩

/-- Get, of any bytes. -/
theorem get_ok (w : World) (v : Value) (l : List Int) (h : BS w v l) (h8 : l.length ≤ 8) :
    Calls Try.prog 80 #[v] w fun e w' => e = .returned (.tuple #[.int .u64 (num l), .int .i64 0]) ∧ w' = w := by
  obtain ⟨a, cap, rfl, hb, _, rfl | ⟨b, off, rfl, hc⟩⟩ := h
  · exact get_nil w a cap
  · exact get_some w b off cap l h8 hb hc
theorem get_bad (w : World) (v : Value) (l : List Int) (h : BS w v l) (h8 : 8 < l.length) (hm : l.length ≤ 9223372036854775807) :
    Calls Try.prog 80 #[v] w fun e w' => e = .returned (.tuple #[.int .u64 0, .int .i64 2]) ∧ w' = w := by
  obtain ⟨a, cap, rfl, hb, _⟩ := h
  exact get_long w a _ cap h8 hm

set_option maxRecDepth 4000 in
set_option maxHeartbeats 400000 in
theorem put_bad (x n : Int) (w : World) (h : n < 0 ∨ 8 < n ∨ 2 ^ (8 * n.toNat) ≤ x) :
    Calls Try.prog 63 #[.int .u64 x, .int .i64 n] w fun e w' => e = .returned (.tuple #[.slice none 0 0, .int .i64 2]) ∧ w' = w := by
  by_cases h1 : n < 0
  · go_enter Try.func63, Try.ntmps63
    go_wp2
    go_ret2
    exact ⟨rfl, rfl⟩
  by_cases h2 : 8 < n
  · go_enter Try.func63, Try.ntmps63
    go_wp2
    go_ret2
    exact ⟨rfl, rfl⟩
  obtain ⟨m, rfl⟩ := Int.eq_ofNat_of_zero_le (by omega : 0 ≤ n)
  have h5 : 2 ^ (8 * m) ≤ x := by simpa using (by omega : 2 ^ (8 * (m : Int).toNat) ≤ x)
  have hp : (0 : Int) < 2 ^ (8 * m) := Int.pow_pos (by decide)
  have h6 : (x / 2 ^ (8 * m) != 0) = true := by
    have : 1 ≤ x / 2 ^ (8 * m) := (Int.le_ediv_iff_mul_le hp).2 (by omega)
    simp; omega
  clear h h5 hp
  go_enter Try.func63, Try.ntmps63
  go_wp2
  go_ret2
  exact ⟨rfl, rfl⟩

set_option maxRecDepth 4000 in
set_option maxHeartbeats 400000 in
theorem put_ok (x : Int) (n : Nat) (w : World) (h2 : n ≤ 8) (h0 : 0 ≤ x) (h3 : x < 2 ^ (8 * n)) :
    Calls Try.prog 63 #[.int .u64 x, .int .i64 n] w fun e w' => e = .returned (.tuple #[.slice (some ⟨w.heap.size, 0, none⟩) n n, .int .i64 0]) ∧
       w'.ownsRow w.heap.size 5 1 (.slice (some ⟨w.heap.size, 0, none⟩) n n) n ((putI x n).map (.int .u8)) ∧ Below w.heap.size w w' := by
  have h6 : x / 2 ^ (8 * n) = 0 := Int.ediv_eq_zero_of_lt h0 h3
  have h7 : (x / 2 ^ (8 * n) != 0) = false := by simp [h6]
  obtain ⟨i0, hi, hz0, hz1, hz2⟩ := info_parts info_u8
  go_enter Try.func63, Try.ntmps63
  go_wp2_with (at_make; refine wpList_make_full _ rfl _ _ _ rfl w.heap.size 5 i0 (.int .u8 0) 1 Try.underlying64 hi hz0 hz1 .i64 .i64 _ _ n rfl rfl (by rfl) (by rfl) ?c1 ?c2 ?c3 ?_)
  case c1 => rw [hz2]; omega
  case c2 => unfold maxLen; omega
  case c3 => omega
  intro w1 hown hgrow
  have hb := (Below.refl w.heap.size w).grown hgrow (Nat.le_refl _) (by simp)
  have hsz := hgrow.size
  clear hgrow
  generalize hB : w.heap.size = B at *
  clear hi hz0 hz1 hz2
  go_wp2
  go_loopw [25] (fun i wr => ∃ k : Nat, k ≤ n ∧ i = .int .i64 k ∧ wr.ownsRow B 5 1 (.slice (some ⟨B, 0, none⟩) n n) n ((putP x n k).map (.int .u8)) ∧ Below B w wr) (fun i _ => n - (intOf i).toNat)
  case atStart => exact ⟨0, by omega, rfl, by rw [putP_zero, ← toList_madeCells_one]; exact hown, hb⟩
  case round =>
    obtain ⟨k, hk, rfl, ho, hbe⟩ := hrel
    by_cases hlt : k < n
    · have hce : wr.cell? ⟨B, k, none⟩ = some (.int .u8 0) := (ho.cellAt k (by omega)).trans (putP_at x n k hlt)
      have hfr := ho.frozenAt k
      have hst := ho.stored k
      clear ho hown
      have HST := Lib.hid hst
      clear hst
      go_wp2
      go_roundw
      case rel => exact ⟨k + 1, by omega, by go_num, by rw [← putP_set x n k]; exact (HST.out _).1, hbe.setCell (Nat.le_refl _) _⟩
      case measure => simp [intOf]; omega
    · obtain rfl : k = n := by omega
      go_wp2
      go_ret2
      subst hB
      rw [putP_full] at ho
      exact ⟨rfl, ho, hbe⟩
theorem conv_BS {w : World} {v : Value} {l : List Int} (h : BS w v l) : (convert 64 9 v).run Try.prog w = .ok (.string (strOfNums l)) w := by
  obtain ⟨a, cap, rfl, hb, _, rfl | ⟨b, off, rfl, hc⟩⟩ := h
  · cases a with
    | none => exact run_convert_bytes_nil w 64 5 Try.underlying64 Try.underlying5 _ cap 9 Try.underlying9
    | some a =>
      rw [run_convert_bytes_string w 64 9 5 _ _ cap Try.underlying64 Try.underlying5 Try.underlying9]
      exact run_bytesToString w a 0 cap [] (by simpa using run_loadCells_list (P := Try.prog) w a [] (by simp))
  · exact run_convert_bytes_arg w 64 5 Try.underlying64 Try.underlying5 b off _ cap l rfl hc 9 Try.underlying9

theorem strOfNums_inj (l m : List Int) (hl : Byt l) (hm : Byt m) : ((strOfNums l).toList == (strOfNums m).toList) = decide (l = m) := by
  have key : ∀ (l m : List Int), Byt l → Byt m → l.map (fun n => UInt8.ofNat n.toNat) = m.map (fun n => UInt8.ofNat n.toNat) → l = m := by
    intro l
    induction l with
    | nil => intro m _ _ h; cases m with
      | nil => rfl
      | cons b m => simp at h
    | cons a l ih =>
      intro m hl hm h
      cases m with
      | nil => simp at h
      | cons b m =>
        simp only [List.map_cons, List.cons.injEq] at h
        have ha := hl a (by simp)
        have hb := hm b (by simp)
        have e := congrArg UInt8.toNat h.1
        simp only [UInt8.toNat_ofNat'] at e
        rw [ih m (fun z hz => hl z (by simp [hz])) (fun z hz => hm z (by simp [hz])) h.2, show a = b from by omega]
  rw [ByteArray.toList_eq, ByteArray.toList_eq, Bool.eq_iff_iff, beq_iff_eq, decide_eq_true_iff]
  constructor
  · intro h
    exact key l m hl hm h
  · intro h; rw [h]

def turnI (x n : Int) : Int := bits BinOp.or IntKind.u32 (x * 2 ^ (n % 32).toNat % 4294967296) (x / 2 ^ (32 - n % 32).toNat)
theorem turnI_rot (b : BitVec 32) (n : Int) : turnI (b.toNat : Int) n = ((b.rotateLeft (n % 32).toNat).toNat : Int) := by
  obtain ⟨k, hk⟩ : ∃ k : Nat, n % 32 = k := ⟨(n % 32).toNat, by omega⟩
  have hlt : k < 32 := by omega
  unfold turnI
  rw [hk, Int.toNat_natCast, show ((32 : Int) - (k : Int)).toNat = 32 - k from by omega]
  have e1 : ((b.toNat : Int) * 2 ^ k % 4294967296) = ((b <<< k).toNat : Int) := by
    rw [BitVec.toNat_shiftLeft, Nat.shiftLeft_eq]; simp
  have e2 : ((b.toNat : Int) / 2 ^ (32 - k)) = ((b >>> (32 - k)).toNat : Int) := by
    rw [BitVec.toNat_ushiftRight, Nat.shiftRight_eq_div_pow]; simp
  rw [e1, e2, bits_or_u32 _ _ (BitVec.isLt _) (BitVec.isLt _), BitVec.rotateLeft_def, Nat.mod_eq_of_lt hlt, BitVec.toNat_or]

end Go.Proofs.Ytkafabcklohlmaa
namespace Go.Proofs.Ytkafabcklohlmaa
set_option maxRecDepth 4000
open Go.RowKit

theorem rot_at (b : BitVec 32) (r i : Nat) (hr : r < 32) (hi : i < 32) : (b.rotateLeft r).getLsbD i = b.getLsbD ((i + 32 - r) % 32) := by
  simp only [BitVec.getLsbD_rotateLeft, Bool.cond_decide, Nat.mod_eq_of_lt hr]
  by_cases h : i < r
  · rw [if_pos h]; congr 1; omega
  · rw [if_neg h, decide_eq_true hi, Bool.true_and]; congr 1; omega
theorem rot_mod (b : BitVec 32) (r : Nat) : b.rotateLeft (r % 32) = b.rotateLeft r := by
  apply BitVec.eq_of_getLsbD_eq
  intro i hi
  simp only [BitVec.getLsbD_rotateLeft, Nat.mod_mod]
theorem rot_rot (b : BitVec 32) (r s : Nat) : (b.rotateLeft r).rotateLeft s = b.rotateLeft (r + s) := by
  rw [← rot_mod _ s, ← rot_mod b r, ← rot_mod b (r + s)]
  apply BitVec.eq_of_getLsbD_eq
  intro i hi
  rw [rot_at _ _ i (by omega) hi, rot_at _ _ _ (by omega) (by omega), rot_at _ _ i (by omega) hi]
  congr 1; omega

theorem as_bits (x : Int) (h0 : 0 ≤ x) (h1 : x < 4294967296) : ∃ b : BitVec 32, x = (b.toNat : Int) := by
  refine ⟨BitVec.ofNat 32 x.toNat, ?_⟩
  rw [BitVec.toNat_ofNat, Nat.mod_eq_of_lt (by omega)]
  omega

theorem turn_bound (x n : Int) (h0 : 0 ≤ x) (h1 : x < 4294967296) : 0 ≤ turnI x n ∧ turnI x n < 4294967296 := by
  obtain ⟨b, rfl⟩ := as_bits x h0 h1
  rw [turnI_rot]
  have := (b.rotateLeft (n % 32).toNat).isLt
  omega
theorem turn_turn (x m n : Int) (h0 : 0 ≤ x) (h1 : x < 4294967296) : turnI (turnI x m) n = turnI x (m + n) := by
  obtain ⟨b, rfl⟩ := as_bits x h0 h1
  rw [turnI_rot, turnI_rot, turnI_rot, rot_rot, ← rot_mod b ((m % 32).toNat + (n % 32).toNat), ← rot_mod b ((m + n) % 32).toNat]
  rw [show ((m % 32).toNat + (n % 32).toNat) % 32 = ((m + n) % 32).toNat % 32 from by omega]
theorem turn_none (x n : Int) (h0 : 0 ≤ x) (h1 : x < 4294967296) (h : n % 32 = 0) : turnI x n = x := by
  obtain ⟨b, rfl⟩ := as_bits x h0 h1
  rw [turnI_rot, h]
  congr 2
  apply BitVec.eq_of_getLsbD_eq
  intro i hi
  rw [rot_at _ _ i (by decide) hi]
  congr 1
  simp; omega
theorem turn_zero (n : Int) : turnI 0 n = 0 := by
  have := turnI_rot 0#32 n
  rw [show ((0#32).toNat : Int) = 0 from rfl] at this
  rw [this, show (0#32).rotateLeft (n % 32).toNat = 0#32 from by
    apply BitVec.eq_of_getLsbD_eq; intro i hi; simp [BitVec.getLsbD_rotateLeft]]
  rfl
theorem turn_ones (n : Int) : turnI 4294967295 n = 4294967295 := by
  have := turnI_rot (BitVec.allOnes 32) n
  rw [show ((BitVec.allOnes 32).toNat : Int) = 4294967295 from rfl] at this
  rw [this, show (BitVec.allOnes 32).rotateLeft (n % 32).toNat = BitVec.allOnes 32 from by
    apply BitVec.eq_of_getLsbD_eq; intro i hi; rw [rot_at _ _ i (by omega) hi, BitVec.getLsbD_allOnes, BitVec.getLsbD_allOnes, decide_eq_true (Nat.mod_lt _ (by decide)), decide_eq_true hi]]
  rfl
end Go.Proofs.Ytkafabcklohlmaa
namespace Go.Proofs.Ytkafabcklohlmaa
set_option maxRecDepth 4000
open Go.RowKit

/-- A number's bits, the lowest first. -/
def bitsI (x : Int) (n : Nat) : List Int := (List.range n).map fun i => x / 2 ^ i % 2
def bitsP (x : Int) (n k : Nat) : List Int := (List.range n).map fun i => if i < k then x / 2 ^ i % 2 else 0
/-- Bits' number, the lowest first. -/
def ofI : List Int → Int
  | [] => 0
  | b :: r => b + 2 * ofI r

theorem bitsP_zero (x : Int) (n : Nat) : (bitsP x n 0).map (Value.int .u8) = List.replicate n (.int .u8 0) := by
  apply List.ext_getElem
  · simp [bitsP]
  · intro i h1 h2; simp [bitsP]
theorem bitsP_at (x : Int) (n k : Nat) (h : k < n) : ((bitsP x n k).map (Value.int .u8))[k]? = some (.int .u8 0) := by
  simp [bitsP, h]
theorem bitsP_set (x : Int) (n k : Nat) : ((bitsP x n k).map (Value.int .u8)).set k (.int .u8 (x / 2 ^ k % 2)) = (bitsP x n (k + 1)).map (Value.int .u8) := by
  apply List.ext_getElem
  · simp [bitsP]
  · intro i h1 h2
    by_cases e : k = i
    · subst e; simp [bitsP]
    · simp only [bitsP, List.map_map, List.getElem_set, if_neg e, List.getElem_map, List.getElem_range, Function.comp_apply]
      by_cases hi : i < k
      · rw [if_pos hi, if_pos (by omega)]
      · rw [if_neg hi, if_neg (by omega)]
theorem bitsP_full (x : Int) (n : Nat) : bitsP x n n = bitsI x n := by
  apply List.map_congr_left
  intro i hi
  rw [if_pos (by simpa using hi)]
theorem bitsI_length (x : Int) (n : Nat) : (bitsI x n).length = n := by simp [bitsI]
theorem bitsI_bit (x : Int) (n : Nat) : ∀ z ∈ bitsI x n, 0 ≤ z ∧ z ≤ 1 := by
  intro z hz
  obtain ⟨i, _, rfl⟩ := List.mem_map.1 hz
  omega
theorem byt_of_bit {l : List Int} (h : ∀ z ∈ l, 0 ≤ z ∧ z ≤ 1) : Byt l := fun z hz => by have := h z hz; omega
theorem bits_next (x : Int) (k : Nat) : x / 2 ^ (k + 1) = x / 2 ^ k / 2 := by
  rw [Int.pow_succ, Int.ediv_ediv_of_nonneg (Int.le_of_lt (Int.pow_pos (by decide)))]
theorem bits_bound (x : Int) (k : Nat) (h0 : 0 ≤ x) : 0 ≤ x / 2 ^ k ∧ x / 2 ^ k ≤ x :=
  ⟨Int.ediv_nonneg h0 (Int.le_of_lt (Int.pow_pos (by decide))), Int.ediv_le_self _ h0⟩
theorem pow2_le63 (n : Nat) (h : n ≤ 63) : (2 : Int) ^ n ≤ 9223372036854775808 := by
  have : ((2 ^ n : Nat) : Int) ≤ ((2 ^ 63 : Nat) : Int) := Int.ofNat_le.2 (Nat.pow_le_pow_right (by decide) h)
  simpa using this

theorem of_bound (l : List Int) : (∀ z ∈ l, 0 ≤ z ∧ z ≤ 1) → 0 ≤ ofI l ∧ ofI l < 2 ^ l.length := by
  induction l with
  | nil => intro _; simp [ofI]
  | cons b r ih =>
    intro h
    have h1 := h b (by simp)
    have h2 := ih fun z hz => h z (by simp [hz])
    simp only [ofI, List.length_cons, Int.pow_succ]
    omega
theorem of_drop_bound (l : List Int) (h : ∀ z ∈ l, 0 ≤ z ∧ z ≤ 1) (k : Nat) : 0 ≤ ofI (l.drop k) ∧ ofI (l.drop k) < 2 ^ (l.drop k).length :=
  of_bound _ fun z hz => h z (List.mem_of_mem_drop hz)
theorem of_step (l : List Int) (i : Nat) (h : i < l.length) : ofI (l.drop i) = ofI (l.drop (i + 1)) * 2 + l[i]?.getD 0 := by
  rw [List.drop_eq_getElem_cons h, ofI]; simp [h]; omega
theorem bit_at (l : List Int) (h : ∀ z ∈ l, 0 ≤ z ∧ z ≤ 1) (k : Nat) : 0 ≤ l[k]?.getD 0 ∧ l[k]?.getD 0 ≤ 1 := by
  by_cases hk : k < l.length
  · simp only [List.getElem?_eq_getElem hk, Option.getD_some]
    exact h _ (List.getElem_mem hk)
  · simp [List.getElem?_eq_none (by omega : l.length ≤ k)]

/-- Where a bit comes from that stands at j behind a turn by n. -/
def src (n : Int) (j : Nat) : Nat := ((j - n) % 32).toNat
/-- 32 bits, turned by n places. -/
def rotI (l : List Int) (n : Int) : List Int := (List.range 32).map fun j => l[src n j]?.getD 0
def rotP (l : List Int) (n : Int) (k : Nat) : List Int := (List.range 32).map fun j => if src n j < k then l[src n j]?.getD 0 else 0
theorem src_lt (n : Int) (j : Nat) : src n j < 32 := by unfold src; omega
theorem rotP_zero (l : List Int) (n : Int) : (rotP l n 0).map (Value.int .u8) = List.replicate 32 (.int .u8 0) := by
  apply List.ext_getElem
  · simp [rotP]
  · intro i h1 h2
    rw [List.getElem_replicate]
    simp [rotP]
theorem rotP_full (l : List Int) (n : Int) : rotP l n 32 = rotI l n := by
  apply List.map_congr_left
  intro j hj
  rw [if_pos (src_lt n j)]
theorem src_dst (n : Int) (k d j : Nat) (hk : k < 32) (hj : j < 32) (hd : ((k + n) % 32).toNat = d) : src n j = k ↔ d = j := by
  unfold src; omega
theorem rotP_set (l : List Int) (n : Int) (k d : Nat) (hk : k < 32) (hd : ((k + n) % 32).toNat = d) :
    ((rotP l n k).map (Value.int .u8)).set d (.int .u8 (l[k]?.getD 0)) = (rotP l n (k + 1)).map (Value.int .u8) := by
  apply List.ext_getElem
  · simp [rotP]
  · intro j h1 h2
    have hj : j < 32 := by simpa [rotP] using h2
    have hs := src_dst n k d j hk hj hd
    simp only [rotP, List.map_map, List.getElem_set, List.getElem_map, List.getElem_range, Function.comp_apply]
    by_cases e : d = j
    · have := hs.2 e
      rw [if_pos e, if_pos (by omega), this]
    · rw [if_neg e]
      have : src n j ≠ k := fun h => e (hs.1 h)
      by_cases hi : src n j < k
      · rw [if_pos hi, if_pos (by omega)]
      · rw [if_neg hi, if_neg (by omega)]
theorem rotP_at (l : List Int) (n : Int) (k d : Nat) (hk : k < 32) (hd : ((k + n) % 32).toNat = d) : ((rotP l n k).map (Value.int .u8))[d]? = some (.int .u8 0) := by
  have hd2 : d < 32 := by omega
  have := (src_dst n k d d hk hd2 hd).2 rfl
  simp [rotP, hd2, this]
theorem rotI_length (l : List Int) (n : Int) : (rotI l n).length = 32 := by simp [rotI]
theorem rotI_bit (l : List Int) (h : ∀ z ∈ l, 0 ≤ z ∧ z ≤ 1) (n : Int) : ∀ z ∈ rotI l n, 0 ≤ z ∧ z ≤ 1 := by
  intro z hz
  obtain ⟨i, _, rfl⟩ := List.mem_map.1 hz
  exact bit_at l h _

/-- Bytes that are laid from the last one on. -/
def putQ (x : Int) (n m : Nat) : List Int := (List.range n).map fun i => if m ≤ i then x / 2 ^ (8 * (n - 1 - i)) % 256 else 0
theorem putQ_full (x : Int) (n : Nat) : (putQ x n n).map (Value.int .u8) = List.replicate n (.int .u8 0) := by
  apply List.ext_getElem
  · simp [putQ]
  · intro i h1 h2
    have : i < n := by simpa [putQ] using h1
    simp [putQ]; omega
theorem putQ_at (x : Int) (n m : Nat) (h : m < n) : ((putQ x n (m + 1)).map (Value.int .u8))[m]? = some (.int .u8 0) := by
  simp [putQ, h]
  intro h'
  omega
theorem putQ_set (x : Int) (n m : Nat) (h : m < n) : ((putQ x n (m + 1)).map (Value.int .u8)).set m (.int .u8 (x / 256 ^ (n - (m + 1)) % 256)) = (putQ x n m).map (Value.int .u8) := by
  apply List.ext_getElem
  · simp [putQ]
  · intro i h1 h2
    by_cases e : m = i
    · subst e
      simp [putQ, show n - (m + 1) = n - 1 - m from by omega, Int.pow_mul]
    · simp only [putQ, List.map_map, List.getElem_set, if_neg e, List.getElem_map, List.getElem_range, Function.comp_apply]
      by_cases hi : m + 1 ≤ i
      · rw [if_pos hi, if_pos (by omega)]
      · rw [if_neg hi, if_neg (by omega)]
theorem putQ_zero (x : Int) (n : Nat) : putQ x n 0 = putI x n := by
  apply List.map_congr_left
  intro i hi
  rw [if_pos (by omega)]
theorem bytes_next (x : Int) (n m : Nat) (h : m < n) : x / 256 ^ (n - m) = x / 256 ^ (n - (m + 1)) / 256 := by
  rw [Int.ediv_ediv_of_nonneg (Int.le_of_lt (Int.pow_pos (by decide))), ← Int.pow_succ]; congr 2; omega
theorem bytes_bound (x : Int) (k : Nat) (h0 : 0 ≤ x) : 0 ≤ x / 256 ^ k ∧ x / 256 ^ k ≤ x :=
  ⟨Int.ediv_nonneg h0 (Int.le_of_lt (Int.pow_pos (by decide))), Int.ediv_le_self _ h0⟩

theorem tmod_bounds (n : Int) : -31 ≤ n.tmod 32 ∧ n.tmod 32 ≤ 31 := by
  rcases Int.le_total 0 n with h | h
  · rw [Int.tmod_eq_emod_of_nonneg h]; omega
  · obtain ⟨m, rfl⟩ : ∃ m, n = -m := ⟨-n, by omega⟩
    rw [Int.neg_tmod, Int.tmod_eq_emod_of_nonneg (by omega)]; omega
theorem turn_index (k n : Int) : ((k + n.tmod 32).tmod 32 + 32) % 32 = (k + n) % 32 := by
  rw [Int.tmod_def (k + n.tmod 32), Int.tmod_def n]
  omega
end Go.Proofs.Ytkafabcklohlmaa
namespace Go.Proofs.Ytkafabcklohlmaa
set_option maxRecDepth 4000
open Go.RowKit

set_option maxHeartbeats 400000 in
theorem rnum_nil (w : World) (a : Option Addr) (cap : Nat) :
    Calls Try.prog 73 #[.slice a 0 cap] w fun e w' => e = .returned (.int .u64 0) ∧ w' = w := by
  go_enter Try.func73, Try.ntmps73
  go_wp2
  go_loop [3, 8] (fun x i => x = .int .u64 0 ∧ i = .int .i64 0) (fun _ i => 0)
  case atStart => exact ⟨rfl, rfl⟩
  case round =>
    obtain ⟨rfl, rfl⟩ := hrel
    go_wp2
    go_ret
    exact ⟨rfl, rfl⟩

set_option maxHeartbeats 400000 in
theorem rnum_some (w : World) (b off cap : Nat) (l : List Int) (h8 : l.length ≤ 8) (hb : Byt l)
    (hc : ∀ i, i < l.length → w.cell? ⟨b, off + i, none⟩ = some (.int .u8 (l.getD i 0))) :
    Calls Try.prog 73 #[.slice (some ⟨b, off, none⟩) l.length cap] w fun e w' => e = .returned (.int .u64 (num l)) ∧ w' = w := by
  generalize hn : l.length = n at *
  have HN := Lib.hid hn
  clear hn
  go_enter Try.func73, Try.ntmps73
  go_wp2
  go_loop [3, 8] (fun x i => ∃ k : Nat, k ≤ n ∧ i = .int .i64 k ∧ x = .int .u64 (num (l.take k))) (fun _ i => n - (intOf i).toNat)
  case atStart => exact ⟨0, by omega, rfl, rfl⟩
  case round =>
    obtain ⟨k, hk, rfl, rfl⟩ := hrel
    by_cases hlt : k < n
    · have hcx := hc k hlt
      rw [List.getD_eq_getElem?_getD] at hcx
      clear hc
      obtain ⟨b1, b2⟩ := num_take_le l hb k (by omega)
      obtain ⟨c1, c2⟩ := byt_at l hb k
      have hstep : num (l.take (k + 1)) = num (l.take k) * 256 + l[k]?.getD 0 := by rw [take_next l k (by rw [HN.out]; exact hlt), num_snoc]
      generalize num (l.take k) = y at *
      generalize l[k]?.getD 0 = c at *
      have HS := Lib.hid hstep
      clear hstep
      go_wp2
      go_round
      case rel => exact ⟨k + 1, by omega, by go_num, by rw [HS.out]⟩
      case measure => simp [intOf]; omega
    · obtain rfl : k = n := by omega
      go_wp2
      go_ret
      have e := HN.out
      exact ⟨by rw [List.take_of_length_le (by omega)]; rfl, rfl⟩

/-- The reference's Num, of at most 8 bytes. -/
theorem rnum_any (w : World) (v : Value) (l : List Int) (h : BS w v l) (h8 : l.length ≤ 8) :
    Calls Try.prog 73 #[v] w fun e w' => e = .returned (.int .u64 (num l)) ∧ w' = w := by
  obtain ⟨a, cap, rfl, hb, _, rfl | ⟨b, off, rfl, hc⟩⟩ := h
  · exact rnum_nil w a cap
  · exact rnum_some w b off cap l h8 hb hc

set_option maxHeartbeats 400000 in
theorem rput_range (x n : Int) (w : World) (h : n < 0 ∨ 8 < n) :
    Calls Try.prog 78 #[.int .u64 x, .int .i64 n] w fun e w' => e = .returned (.tuple #[.slice none 0 0, .int .i64 2]) ∧ w' = w := by
  by_cases h1 : n < 0
  · clear h
    go_enter Try.func78, Try.ntmps78
    go_wp2
    go_ret2
    exact ⟨rfl, rfl⟩
  have h2 : 8 < n := by omega
  clear h
  go_enter Try.func78, Try.ntmps78
  go_wp2
  go_ret2
  exact ⟨rfl, rfl⟩

set_option maxHeartbeats 400000 in
theorem rput_loop (x : Int) (n : Nat) (w : World) (h2 : n ≤ 8) (h0 : 0 ≤ x) (h1 : x < 18446744073709551616) :
    Calls Try.prog 78 #[.int .u64 x, .int .i64 n] w fun e w' => Below w.heap.size w w' ∧
      ((x / 256 ^ n = 0 ∧ e = .returned (.tuple #[.slice (some ⟨w.heap.size, 0, none⟩) n n, .int .i64 0]) ∧ w'.ownsRow w.heap.size 5 1 (.slice (some ⟨w.heap.size, 0, none⟩) n n) n ((putI x n).map (.int .u8))) ∨
       (x / 256 ^ n ≠ 0 ∧ e = .returned (.tuple #[.slice none 0 0, .int .i64 2]))) := by
  obtain ⟨i0, hi, hz0, hz1, hz2⟩ := info_parts info_u8
  go_enter Try.func78, Try.ntmps78
  go_wp2_with (at_make; refine wpList_make_full _ rfl _ _ _ rfl w.heap.size 5 i0 (.int .u8 0) 1 Try.underlying64 hi hz0 hz1 .i64 .i64 _ _ n rfl rfl (by rfl) (by rfl) ?c1 ?c2 ?c3 ?_)
  case c1 => rw [hz2]; omega
  case c2 => unfold maxLen; omega
  case c3 => omega
  intro w1 hown hgrow
  have hb := (Below.refl w.heap.size w).grown hgrow (Nat.le_refl _) (by simp)
  have hsz := hgrow.size
  clear hgrow
  generalize hB : w.heap.size = B at *
  clear hi hz0 hz1 hz2
  go_wp2
  go_loopw [0, 7] (fun y i wr => ∃ m : Nat, m ≤ n ∧ i = .int .i64 ((m : Int) - 1) ∧ y = .int .u64 (x / 256 ^ (n - m)) ∧ wr.ownsRow B 5 1 (.slice (some ⟨B, 0, none⟩) n n) n ((putQ x n m).map (.int .u8)) ∧ Below B w wr) (fun _ i _ => (intOf i + 1).toNat)
  case atStart => exact ⟨n, by omega, rfl, by simp, by rw [putQ_full, ← toList_madeCells_one]; exact hown, hb⟩
  case round =>
    obtain ⟨m, hm, rfl, rfl, ho, hbe⟩ := hrel
    cases m with
    | zero =>
      rw [putQ_zero] at ho
      rw [Nat.sub_zero] at *
      have g0 := (bytes_bound x n h0).1
      generalize hye : x / 256 ^ n = y at *
      have HY := Lib.hid hye
      clear hye
      have HO := Lib.hid ho
      clear ho hown
      by_cases hy : y = 0
      · subst hy
        go_wp2
        go_ret2
        subst hB
        exact ⟨hbe, .inl ⟨HY.out, rfl, HO.out⟩⟩
      · have hy1 : 0 < y := by omega
        go_wp2
        go_ret2
        subst hB
        exact ⟨hbe, .inr ⟨by rw [HY.out]; exact hy, rfl⟩⟩
    | succ i =>
      have e0 : ((i + 1 : Nat) : Int) - 1 = (i : Int) := by omega
      rw [e0]
      clear e0
      have hce : wr.cell? ⟨B, i, none⟩ = some (.int .u8 0) := (ho.cellAt i (by omega)).trans (putQ_at x n i (by omega))
      have hfr := ho.frozenAt i
      have hst := ho.stored i
      have hset := putQ_set x n i (by omega)
      have hnext := bytes_next x n i (by omega)
      obtain ⟨y0, y1⟩ := bytes_bound x (n - (i + 1)) h0
      generalize x / 256 ^ (n - (i + 1)) = y at *
      clear ho hown
      have HST := Lib.hid hst
      have HSET := Lib.hid hset
      have HN := Lib.hid hnext
      clear hst hset hnext
      go_wp2
      go_roundw
      case rel => exact ⟨i, by omega, rfl, by rw [HN.out], by rw [← HSET.out]; exact (HST.out _).1, hbe.setCell (Nat.le_refl _) _⟩
      case measure => simp [intOf]

theorem ofI_bits (l : List Int) : (∀ z ∈ l, 0 ≤ z ∧ z ≤ 1) → ∃ m : Nat, ofI l = (m : Int) ∧ ∀ i, m.testBit i = decide (l[i]?.getD 0 = 1) := by
  induction l with
  | nil => intro _; exact ⟨0, rfl, by simp⟩
  | cons b r ih =>
    intro h
    obtain ⟨m, hm, ht⟩ := ih fun z hz => h z (by simp [hz])
    have hb := h b (by simp)
    obtain ⟨c, rfl⟩ := Int.eq_ofNat_of_zero_le hb.1
    refine ⟨c + 2 * m, by simp only [ofI, hm]; omega, fun i => ?_⟩
    have hc : c = 0 ∨ c = 1 := by omega
    cases i with
    | zero =>
      rcases hc with rfl | rfl
      · simp [Nat.testBit_zero]
      · simp only [List.getElem?_cons_zero, Option.getD_some]
        rw [Nat.testBit_zero]
        simp
    | succ i =>
      rw [Nat.testBit_succ, show (c + 2 * m) / 2 = m from by omega, ht i]
      simp

theorem rturn_eq (x n : Int) (h0 : 0 ≤ x) (h1 : x < 4294967296) : ofI (rotI (bitsI x 32) n) = turnI x n := by
  obtain ⟨b, rfl⟩ := as_bits x h0 h1
  rw [turnI_rot]
  obtain ⟨m, hm, ht⟩ := ofI_bits (rotI (bitsI (b.toNat : Int) 32) n) (rotI_bit _ (bitsI_bit _ 32) n)
  rw [hm]
  congr 1
  apply Nat.eq_of_testBit_eq
  intro i
  rw [ht i]
  by_cases hi : i < 32
  · have hs := src_lt n i
    have e1 : (rotI (bitsI (b.toNat : Int) 32) n)[i]?.getD 0 = (b.toNat : Int) / 2 ^ src n i % 2 := by
      simp [rotI, bitsI, hi, hs]
    rw [e1, BitVec.testBit_toNat, rot_at b _ i (by omega) hi, show (i + 32 - (n % 32).toNat) % 32 = src n i from by unfold src; omega, ← BitVec.testBit_toNat,
      Nat.testBit_eq_decide_div_mod_eq]
    apply decide_eq_decide.2
    have e2 : ((b.toNat : Int) / 2 ^ src n i % 2) = ((b.toNat / 2 ^ src n i % 2 : Nat) : Int) := by simp
    rw [e2]; omega
  · rw [BitVec.testBit_toNat, BitVec.getLsbD_of_ge _ _ (by omega), List.getElem?_eq_none (by rw [rotI_length]; omega)]
    rfl
end Go.Proofs.Ytkafabcklohlmaa
