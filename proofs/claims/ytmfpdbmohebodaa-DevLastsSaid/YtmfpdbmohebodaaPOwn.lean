/-
  A device of a law's own, and what of it stays while the law runs; what is read of laid sectors.
-/
import Derived.Test.YtmfpdbmohebodaaPFlush
namespace Go.Proofs.Ytmfpdbmohebodaa
open Go.RowKit

theorem secY_at (F : List (BitVec 8)) (a i : Nat) (hi : i < 512) : (secY F a)[i]? = F[a * 512 + i]? := by
  unfold secY
  rw [List.getElem?_take_of_lt hi, List.getElem?_drop]
theorem putL_get (F l : List (BitVec 8)) (o i : Nat) (h : o + l.length ≤ F.length) : (putL F o l)[i]? = if o ≤ i ∧ i < o + l.length then l[i - o]? else F[i]? := by
  unfold putL
  by_cases h1 : i < o
  · rw [if_neg (by omega), List.append_assoc, List.getElem?_append_left (by rw [List.length_take]; omega), List.getElem?_take_of_lt h1]
  · by_cases h2 : i < o + l.length
    · rw [if_pos (by omega), List.append_assoc, List.getElem?_append_right (by rw [List.length_take]; omega), List.length_take, show min o F.length = o by omega, List.getElem?_append_left (by omega)]
    · rw [if_neg (by omega), List.getElem?_append_right (by rw [List.length_append, List.length_take]; omega), List.getElem?_drop, List.length_append, List.length_take, show min o F.length = o by omega, show o + l.length + (i - (o + l.length)) = i by omega]
theorem secY_same (F l : List (BitVec 8)) (a n : Nat) (hF : F.length = n * 512) (ha : a < n) (hl : l.length = 512) : secY (putL F (a * 512) l) a = l := by
  have hle : a * 512 + 512 ≤ F.length := by omega
  apply List.ext_getElem?
  intro i
  by_cases hi : i < 512
  · rw [secY_at _ _ _ hi, putL_get _ _ _ _ (by omega), if_pos (by omega), show a * 512 + i - a * 512 = i by omega]
  · rw [List.getElem?_eq_none (by unfold secY; rw [List.length_take]; omega), List.getElem?_eq_none (by omega)]
theorem secY_other (F l : List (BitVec 8)) (a b n : Nat) (hF : F.length = n * 512) (ha : a < n) (hl : l.length ≤ 512) (hne : a ≠ b) : secY (putL F (a * 512) l) b = secY F b := by
  have hle : a * 512 + 512 ≤ F.length := by omega
  apply List.ext_getElem?
  intro i
  by_cases hi : i < 512
  · rw [secY_at _ _ _ hi, secY_at _ _ _ hi, putL_get _ _ _ _ (by omega), if_neg (by omega)]
  · rw [List.getElem?_eq_none (by unfold secY; rw [List.length_take]; omega), List.getElem?_eq_none (by unfold secY; rw [List.length_take]; omega)]
theorem secY_half (F l : List (BitVec 8)) (a n : Nat) (hF : F.length = n * 512) (ha : a < n) (hl : l.length = 256) : secY (putL F (a * 512) l) a = l ++ (secY F a).drop 256 := by
  have hle : a * 512 + 512 ≤ F.length := by omega
  apply List.ext_getElem?
  intro i
  by_cases hi : i < 512
  · rw [secY_at _ _ _ hi, putL_get _ _ _ _ (by omega)]
    by_cases h2 : i < 256
    · rw [if_pos (by omega), List.getElem?_append_left (by omega), show a * 512 + i - a * 512 = i by omega]
    · rw [if_neg (by omega), List.getElem?_append_right (by omega), List.getElem?_drop, hl, secY_at _ _ _ (by omega), show 256 + (i - 256) = i by omega]
  · rw [List.getElem?_eq_none (by unfold secY; rw [List.length_take]; omega), List.getElem?_eq_none (by
      rw [List.length_append, List.length_drop]; unfold secY; rw [List.length_take]; omega)]
theorem secY_zero (n a : Nat) (ha : a < n) : secY (zeroY (n * 512)) a = zeroY 512 := by
  unfold secY zeroY
  rw [List.drop_replicate, List.take_replicate]
  congr 1
  omega
theorem secB_first (x y : BitVec 8) : (secB x y).getD 0 0 = x := by
  unfold secB
  rw [List.getD_eq_getElem?_getD, List.getElem?_set, if_pos rfl, if_pos (by rw [List.length_replicate]; decide)]; rfl
theorem secB_next (x y : BitVec 8) (i : Nat) (h0 : i ≠ 0) (h : i < 512) : (secB x y).getD i 0 = y := by
  unfold secB
  rw [List.getD_eq_getElem?_getD, List.getElem?_set, if_neg (by omega), List.getElem?_replicate, if_pos h]; rfl
/-- A device of a law's own: all its blocks are new since w0, and none of K. -/
def PO (w0 w : World) (K : List Nat) (D gl n : Nat) (F : List (BitVec 8)) (ws : List (Nat × List (BitVec 8))) (lim : Int) (dn : Bool) : Prop :=
  ∃ bm vw, PD w D gl bm n vw F ws lim dn ∧ (∀ g ∈ pfp D gl bm vw, w0.heap.size ≤ g ∧ g ∉ K) ∧ (∀ k ∈ K, k < w.heap.size) ∧ Below w0.heap.size w0 w
def Stay (K : List Nat) (w w' : World) : Prop := ∀ k ∈ K, w'.heap[k]? = w.heap[k]?
theorem po_step {w0 w w' : World} {K : List Nat} {D gl bm bm' n : Nat} {vw vw' : Value} {F F' : List (BitVec 8)} {ws ws' : List (Nat × List (BitVec 8))} {lim lim' : Int} {dn dn' : Bool}
    (_h : PD w D gl bm n vw F ws lim dn) (hf : ∀ g ∈ pfp D gl bm vw, w0.heap.size ≤ g ∧ g ∉ K) (hk : ∀ k ∈ K, k < w.heap.size) (hb : Below w0.heap.size w0 w)
    (h' : PD w' D gl bm' n vw' F' ws' lim' dn') (t : Touch (pfp D gl bm vw) w w') (hn : ∀ g ∈ pfp D gl bm' vw', g ∈ pfp D gl bm vw ∨ w.heap.size ≤ g) : PO w0 w' K D gl n F' ws' lim' dn' ∧ Stay K w w' := by
  refine ⟨⟨bm', vw', h', fun g hg => ?_, fun k hm => Nat.lt_of_lt_of_le (hk k hm) t.size, hb.trans (t.below hb.size (fun k hm => (hf k hm).1))⟩, fun k hm => t.block k (hk k hm) (fun e => (hf k e).2 hm)⟩
  rcases hn g hg with h1 | h1
  · exact hf g h1
  · exact ⟨Nat.le_trans hb.size h1, fun hm => by have := hk g hm; omega⟩
theorem PO.below {w0 w w' : World} {K : List Nat} {D gl n : Nat} {F : List (BitVec 8)} {ws : List (Nat × List (BitVec 8))} {lim : Int} {dn : Bool} (h : PO w0 w K D gl n F ws lim dn) (q : Below w.heap.size w w') : PO w0 w' K D gl n F ws lim dn := by
  obtain ⟨bm, vw, h, hf, hk, hb⟩ := h
  exact ⟨bm, vw, h.below q, hf, fun k hm => Nat.lt_of_lt_of_le (hk k hm) q.size, hb.trans (q.mono hb.size)⟩
/-- One block more that stays, a new one. -/
theorem PO.add {w0 w w' : World} {K : List Nat} {D gl n : Nat} {F : List (BitVec 8)} {ws : List (Nat × List (BitVec 8))} {lim : Int} {dn : Bool} (h : PO w0 w K D gl n F ws lim dn) (q : Below w.heap.size w w') (k : Nat) (h1 : w.heap.size ≤ k) (h2 : k < w'.heap.size) : PO w0 w' (k :: K) D gl n F ws lim dn := by
  obtain ⟨bm, vw, h, hf, hk, hb⟩ := h
  refine ⟨bm, vw, h.below q, fun g hg => ⟨(hf g hg).1, ?_⟩, ?_, hb.trans (q.mono hb.size)⟩
  · have h3 := h.lt g hg
    simp only [List.mem_cons, not_or]
    exact ⟨by omega, (hf g hg).2⟩
  · intro j hj
    rcases List.mem_cons.1 hj with rfl | hj
    · exact h2
    · exact Nat.lt_of_lt_of_le (hk j hj) q.size
/-- A block that stays is changed by the law. -/
theorem PO.set {w0 w w' : World} {K : List Nat} {D gl n k : Nat} {F : List (BitVec 8)} {ws : List (Nat × List (BitVec 8))} {lim : Int} {dn : Bool} (h : PO w0 w K D gl n F ws lim dn) (q : Only k w w') (hk : k ∈ K) (h0 : w0.heap.size ≤ k) : PO w0 w' K D gl n F ws lim dn := by
  obtain ⟨bm, vw, h, hf, hkk, hb⟩ := h
  have t : Touch [k] w w' := Touch.of_only q (by simp)
  refine ⟨bm, vw, h.touch t (fun g hg e => (hf g hg).2 ?_), hf, fun j hj => Nat.lt_of_lt_of_le (hkk j hj) t.size, hb.trans (t.below hb.size (by simpa using h0))⟩
  simp only [List.mem_cons, List.not_mem_nil, or_false] at e
  exact e ▸ hk
theorem PO.bel {w0 w : World} {K : List Nat} {D gl n : Nat} {F : List (BitVec 8)} {ws : List (Nat × List (BitVec 8))} {lim : Int} {dn : Bool} (h : PO w0 w K D gl n F ws lim dn) : Below w0.heap.size w0 w := by
  obtain ⟨_, _, _, _, _, hb⟩ := h; exact hb
theorem PO.len {w0 w : World} {K : List Nat} {D gl n : Nat} {F : List (BitVec 8)} {ws : List (Nat × List (BitVec 8))} {lim : Int} {dn : Bool} (h : PO w0 w K D gl n F ws lim dn) : F.length = n * 512 := by
  obtain ⟨_, _, h, _⟩ := h; exact h.len
theorem po_new (w0 w : World) (n : Nat) (hb : Below w0.heap.size w0 w) (h0 : 16 ≤ n) (h1 : n ≤ 4096) :
    Calls Try.prog 11 #[.int .i64 (n : Int)] w fun e w' => e = .returned (.tuple #[.pointer (some ⟨w.heap.size + 2, 0, none⟩), .int .i64 0]) ∧ PO w0 w' [] (w.heap.size + 2) w.heap.size n (zeroY (n * 512)) [] (-1) false ∧ Below w.heap.size w w' := by
  refine (pnew_ok n w h0 h1).mono ?_
  rintro e w' ⟨he, hP, hB⟩
  have hs := hb.size
  refine ⟨he, ⟨_, _, hP, ?_, by simp, hb.trans (hB.mono hs)⟩, hB⟩
  intro g hg
  simp only [pfp, Value.ownBlock, Option.toList_none, List.mem_cons, List.not_mem_nil, or_false] at hg
  exact ⟨by omega, by simp⟩
theorem goP_free : goP (-1) false = (-1, false) := by decide
theorem po_write (w0 w : World) (K : List Nat) (D gl n a bx cap : Nat) (F l : List (BitVec 8)) (ws : List (Nat × List (BitVec 8))) (h : PO w0 w K D gl n F ws (-1) false) (ha : a < n) (hB : ArrY w bx 5 l) (hl : l.length = 512) (hws : ws.length ≤ 1000000) :
    Calls Try.prog 28 #[.pointer (some ⟨D, 0, none⟩), .int .u32 (a : Int), .slice (some ⟨bx, 0, none⟩) 512 cap] w fun e w' => e = .returned (.int .i64 0) ∧ PO w0 w' K D gl n F (ws ++ [(a, l)]) (-1) false ∧ Stay K w w' := by
  obtain ⟨bm, vw, h, hf, hk, hb⟩ := h
  refine (pwrite_ok D gl bm n a bx cap vw F l ws (-1) w h ha hB hl (by decide) hws).mono ?_
  rintro e w' ⟨he, vw', hP, hT, hn⟩
  rw [goP_free] at hP
  refine ⟨he, po_step h hf hk hb hP hT (fun g hg => ?_)⟩
  simp only [pfp, List.mem_cons, Option.mem_toList] at hg ⊢
  rcases hg with h1 | h1 | h1 | h1
  · exact .inl (.inl h1)
  · exact .inl (.inr (.inl h1))
  · exact .inl (.inr (.inr (.inl h1)))
  · rcases hn g h1 with h2 | h2
    · exact .inl (.inr (.inr (.inr h2)))
    · exact .inr h2
theorem pfp_settled {D gl bm bm' : Nat} {vw : Value} {s : Nat} (hs : s ≤ bm') : ∀ g ∈ pfp D gl bm' (.slice none 0 0), g ∈ pfp D gl bm vw ∨ s ≤ g := by
  intro g hg
  simp only [pfp, Value.ownBlock, Option.toList_none, List.mem_cons, List.not_mem_nil, or_false] at hg ⊢
  rcases hg with h1 | h1 | h1
  · exact .inl (.inl h1)
  · exact .inl (.inr (.inl h1))
  · exact .inr (by omega)
theorem po_flush (w0 w : World) (K : List Nat) (D gl n : Nat) (F : List (BitVec 8)) (ws : List (Nat × List (BitVec 8))) (h : PO w0 w K D gl n F ws (-1) false) (hws : ws.length ≤ 1000000) :
    Calls Try.prog 15 #[.pointer (some ⟨D, 0, none⟩)] w fun e w' => e = .returned (.int .i64 0) ∧ PO w0 w' K D gl n (flushM F ws) [] (-1) false ∧ Stay K w w' := by
  obtain ⟨bm, vw, h, hf, hk, hb⟩ := h
  refine (pflush_ok D gl bm n vw F ws (-1) w h (by decide) hws).mono ?_
  rintro e w' ⟨he, bm', hP, hT, hn⟩
  rw [goP_free] at hP
  exact ⟨he, po_step h hf hk hb hP (hT.more (by intro k hk; simp only [List.mem_cons, List.not_mem_nil, or_false] at hk; rcases hk with rfl | rfl <;> simp [pfp])) (pfp_settled hn)⟩
theorem po_crash (w0 w : World) (K : List Nat) (D gl n keep : Nat) (torn : Int) (F : List (BitVec 8)) (ws : List (Nat × List (BitVec 8))) (lim : Int) (dn : Bool) (h : PO w0 w K D gl n F ws lim dn) (hws : ws.length ≤ 1000000) (hkp : keep < 18446744073709551616) :
    Calls Try.prog 19 #[.pointer (some ⟨D, 0, none⟩), .int .u64 (keep : Int), .int .i64 torn] w fun e w' => e = .returned (.tuple #[]) ∧ PO w0 w' K D gl n (crashM keep torn F ws ws.length) [] (-1) false ∧ Stay K w w' := by
  obtain ⟨bm, vw, h, hf, hk, hb⟩ := h
  refine (pcrash_any D gl bm n keep torn vw F ws lim dn w h hws hkp).mono ?_
  rintro e w' ⟨he, bm', hP, hT, hn⟩
  exact ⟨he, po_step h hf hk hb hP (hT.more (by intro k hk; simp only [List.mem_cons, List.not_mem_nil, or_false] at hk; rcases hk with rfl | rfl <;> simp [pfp])) (pfp_settled hn)⟩
theorem po_read (w0 w : World) (K : List Nat) (D gl n a : Nat) (F : List (BitVec 8)) (ws : List (Nat × List (BitVec 8))) (lim : Int) (h : PO w0 w K D gl n F ws lim false) (ha : a < n) :
    Calls Try.prog 23 #[.pointer (some ⟨D, 0, none⟩), .int .u32 (a : Int)] w fun e w' => Fresh6 w (readM F ws a) e w' ∧ PO w0 w' (w.heap.size :: K) D gl n F ws lim false := by
  have h' := h
  obtain ⟨bm, vw, h, hf, hk, hb⟩ := h
  refine (pread_ok D gl bm n a vw F ws lim w h ha).mono ?_
  intro e w' hf
  exact ⟨hf, h'.add hf.2.2.2 _ (Nat.le_refl _) (zlt hf.2.1)⟩
theorem po_peek (w0 w : World) (K : List Nat) (D gl n a : Nat) (F : List (BitVec 8)) (ws : List (Nat × List (BitVec 8))) (lim : Int) (dn : Bool) (h : PO w0 w K D gl n F ws lim dn) (ha : a < n) :
    Calls Try.prog 25 #[.pointer (some ⟨D, 0, none⟩), .int .u32 (a : Int)] w fun e w' => Fresh6 w (secY F a) e w' ∧ PO w0 w' (w.heap.size :: K) D gl n F ws lim dn := by
  have h' := h
  obtain ⟨bm, vw, h, hf, hk, hb⟩ := h
  refine (ppeek_ok D gl bm n a vw F ws lim dn w h ha).mono ?_
  intro e w' hf
  exact ⟨hf, h'.add hf.2.2.2 _ (Nat.le_refl _) (zlt hf.2.1)⟩
theorem po_sector (w0 w : World) (K : List Nat) (D gl n : Nat) (F : List (BitVec 8)) (ws : List (Nat × List (BitVec 8))) (lim : Int) (dn : Bool) (x y : BitVec 8) (h : PO w0 w K D gl n F ws lim dn) :
    Calls Try.prog 32 #[.int .u8 (yv x), .int .u8 (yv y)] w fun e w' => e = .returned (.slice (some ⟨w.heap.size, 0, none⟩) 512 512) ∧ ArrY w' w.heap.size 5 (secB x y) ∧ PO w0 w' (w.heap.size :: K) D gl n F ws lim dn ∧ Below w.heap.size w w' := by
  refine (sector_any x y w).mono ?_
  rintro e w' ⟨he, hA, hb⟩
  exact ⟨he, hA, h.add hb _ (Nat.le_refl _) (zlt hA), hb⟩

set_option maxRecDepth 100000 in
set_option maxHeartbeats 1600000 in
theorem alive6_any (w : World) : Calls Try.prog 10 #[] w fun e w' => e = .returned (.bool true) ∧ Below w.heap.size w w' := by
  have y1 : (1 : Int) = yv (1 : BitVec 8) := by decide
  have y2 : (2 : Int) = yv (2 : BitVec 8) := by decide
  have HS := Lib.hid (fun (w0 w : World) K D gl n F ws lim dn h => by have q := po_sector w0 w K D gl n F ws lim dn 1 2 h; rw [← y1, ← y2] at q; exact q)
  have HL := Lib.hid (secB_length 1 2)
  have HF1 := Lib.hid (show yv ((secB 1 2).getD 0 0) = 1 by rw [secB_first]; decide)
  have HF9 := Lib.hid (show yv ((secB 1 2).getD 9 0) = 2 by rw [secB_next _ _ _ (by decide) (by decide)]; decide)
  have HN := Lib.hid (po_new w w 16 (Below.refl _ _) (by decide) (by decide))
  have hz3 := secY_zero 16 3 (by decide)
  have hzl : (zeroY (16 * 512)).length = 16 * 512 := List.length_replicate
  generalize zeroY (16 * 512) = Z at *
  generalize secB 1 2 = S at *
  have HZ3 := Lib.hid hz3
  have HZL := Lib.hid hzl
  clear hz3 hzl y1 y2
  go_enter Try.func10, Try.ntmps10
  go_wp2_with fail
  refine HN.out.mono ?_
  rintro e w1 ⟨rfl, hP1, _⟩
  generalize w.heap.size + 2 = D at *
  generalize w.heap.size = gl at *
  have HP1 := Lib.hid hP1
  clear hP1
  go_wp2_with fail
  refine (HS.out _ _ _ _ _ _ _ _ _ _ HP1.out).mono ?_
  rintro e w2 ⟨rfl, hA2, hP2, _⟩
  have HW2 := Lib.hid (po_write w w2 _ D gl 16 3 _ 512 Z S [] hP2 (by decide) hA2 HL.out (by simp))
  clear hA2 hP2
  go_wp2_with fail
  refine HW2.out.mono ?_
  rintro e w3 ⟨rfl, hP3, _⟩
  have HC3 := Lib.hid (po_crash w w3 _ D gl 16 0 (-1) Z _ (-1) false hP3 (by simp) (by decide))
  clear HW2 hP3
  go_wp2_with fail
  refine HC3.out.mono ?_
  rintro e w4 ⟨rfl, hP4, _⟩
  have hP4 : PO w w4 _ D gl 16 Z [] (-1) false := hP4
  have HR4 := Lib.hid (po_read w w4 _ D gl 16 3 Z [] (-1) hP4 (by decide))
  clear HC3 hP4
  go_wp2_with fail
  refine HR4.out.mono ?_
  rintro e w5 ⟨⟨rfl, hA5, _, _⟩, hP5⟩
  rw [show readM Z [] 3 = zeroY 512 from HZ3.out] at hA5
  generalize w4.heap.size = X at *
  have HA5 := Lib.hid hA5
  have HP5 := Lib.hid hP5
  clear hA5 hP5 HR4
  go_wp2_with fail
  refine (HS.out _ _ _ _ _ _ _ _ _ _ HP5.out).mono ?_
  rintro e w6 ⟨rfl, hA6, hP6, hb6⟩
  have HA6 := Lib.hid (HA5.out.below hb6 (zlt HA5.out))
  have HW6 := Lib.hid (po_write w w6 _ D gl 16 3 _ 512 Z S [] hP6 (by decide) hA6 HL.out (by simp))
  clear hA6 hP6 hb6 HA5 HP5
  go_wp2_with fail
  refine HW6.out.mono ?_
  rintro e w7 ⟨rfl, hP7, hS7⟩
  have HA7 := Lib.hid (show ArrY w7 X 74 (zeroY 512) from (hS7 X (by simp)).trans HA6.out)
  have HC7 := Lib.hid (po_flush w w7 _ D gl 16 Z _ hP7 (by simp))
  clear HW6 hP7 hS7 HA6
  go_wp2_with fail
  refine HC7.out.mono ?_
  rintro e w8 ⟨rfl, hP8, hS8⟩
  have hP8 : PO w w8 _ D gl 16 (putL Z (3 * 512) S) [] (-1) false := hP8
  have HA8 := Lib.hid (show ArrY w8 X 74 (zeroY 512) from (hS8 X (by simp)).trans HA7.out)
  have HC8 := Lib.hid (po_crash w w8 _ D gl 16 0 (-1) _ _ (-1) false hP8 (by simp) (by decide))
  clear HC7 hP8 hS8 HA7
  go_wp2_with fail
  refine HC8.out.mono ?_
  rintro e w9 ⟨rfl, hP9, hS9⟩
  have HA9 := Lib.hid (show ArrY w9 X 74 (zeroY 512) from (hS9 X (by simp)).trans HA8.out)
  have hP9 : PO w w9 _ D gl 16 (putL Z (3 * 512) S) [] (-1) false := hP9
  have HR9 := Lib.hid (po_read w w9 _ D gl 16 3 _ [] (-1) hP9 (by decide))
  clear HC8 hP9 hS9 HA8
  go_wp2_with fail
  refine HR9.out.mono ?_
  rintro e w10 ⟨⟨rfl, hA10, _, hb10⟩, hP10⟩
  have hA10' : ArrY w10 w9.heap.size 74 S := by
    rw [show readM (putL Z (3 * 512) S) [] 3 = secY (putL Z (3 * 512) S) 3 from rfl, secY_same _ _ 3 16 HZL.out (by decide) HL.out] at hA10
    exact hA10
  have hX := HA9.out.below hb10 (zlt HA9.out)
  have cx := hX.cell (k := 0) (by rw [zero_len]; decide)
  rw [show yv ((zeroY 512).getD 0 0) = 0 by decide] at cx
  have c0 := hA10'.cell (k := 0) (by rw [HL.out]; decide)
  have c9 := hA10'.cell (k := 9) (by rw [HL.out]; decide)
  rw [HF1.out] at c0
  rw [HF9.out] at c9
  have HB := Lib.hid hP10.bel
  have HNR := Lib.hid (pread_nil 0 w10)
  have HND := Lib.hid (pdown_nil w10)
  generalize w9.heap.size = Y at *
  clear hA10 hA10' hX hP10 hb10 HR9 HA9
  go_wp2_with fail
  refine HNR.out.mono ?_
  rintro e w11 ⟨rfl, rfl⟩
  go_wp2_with fail
  refine HND.out.mono ?_
  rintro e w12 ⟨rfl, rfl⟩
  go_wp2_with fail
  go_ret
  exact ⟨rfl, HB.out⟩
end Go.Proofs.Ytmfpdbmohebodaa
