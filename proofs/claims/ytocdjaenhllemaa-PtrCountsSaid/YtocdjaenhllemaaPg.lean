/-
  Pointers read: Get, of the program and of the document's answer.
-/
import Derived.Test.YtocdjaenhllemaaPt
import Derived.Test.YtocdjaenhllemaaOld
namespace Go.Proofs.Ytocdjaenhllemaa
set_option maxRecDepth 4000
open Go.ChangeShapes Go.WideShapes Go.ChangeAt Go.RowKit

instance byt_dec (l : List Int) : Decidable (Byt l) := inferInstanceAs (Decidable (∀ z ∈ l, 0 ≤ z ∧ z ≤ 255))
theorem byt_take8 (l : List Int) (h : Byt l) (k : Nat) : Byt (l.take k) := fun z hz => h z (List.mem_of_mem_take hz)
theorem byt_drop8 (l : List Int) (h : Byt l) (k : Nat) : Byt (l.drop k) := fun z hz => h z (List.mem_of_mem_drop hz)
theorem num_le8 (l : List Int) (h : Byt l) (k : Nat) (hl : l.length = k) (m : Int) (hm : (256 : Int) ^ k ≤ m + 1) : 0 ≤ num l ∧ num l ≤ m := by
  have := num_bound l h
  rw [hl] at this
  omega
/-- The pointer that bytes are. -/
def ptrOf (l : List Int) : PtrV :=
  if h : 44 ≤ l.length ∧ Byt l then
    ⟨num (l.take 4), num ((l.drop 4).take 8), (l.drop 12).take 32,
      num_le8 _ (byt_take8 _ h.2 4) 4 (by rw [List.length_take]; omega) _ (by decide),
      num_le8 _ (byt_take8 _ (byt_drop8 _ h.2 4) 8) 8 (by rw [List.length_take, List.length_drop]; omega) _ (by decide),
      by rw [List.length_take, List.length_drop]; omega, byt_take8 _ (byt_drop8 _ h.2 12) 32⟩
  else zeroPtr
/-- What Get answers, and what is left. -/
def getA (l : List Int) : PtrV × Int × List Int := if l.length < 44 then (zeroPtr, 3, l) else (ptrOf l, 0, l.drop 44)
theorem ptrOf_ptrB (q : PtrV) (R : List Int) (hR : Byt R) : ptrOf (ptrB q ++ R) = q := by
  have h4 := putI_length q.ad 4
  have h8 := putI_length q.bi 8
  have hs := q.s0.1
  have hb : Byt (ptrB q ++ R) := fun z hz => by
    rcases List.mem_append.1 hz with h | h
    · exact ptrB_byt q z h
    · exact hR z h
  unfold ptrOf
  rw [dif_pos ⟨by rw [List.length_append, ptrB_length]; omega, hb⟩]
  have e1 : (ptrB q ++ R).take 4 = putI q.ad 4 := by
    unfold ptrB
    rw [List.append_assoc, List.take_append_of_le_length (by omega), List.take_of_length_le (by omega)]
  have e2 : (ptrB q ++ R).drop 4 = putI q.bi 8 ++ (q.su ++ R) := by
    unfold ptrB
    rw [List.append_assoc, List.drop_append_of_le_length (by omega), List.drop_eq_nil_of_le (by omega), List.nil_append, List.append_assoc]
  have e3 : (ptrB q ++ R).drop 12 = q.su ++ R := by
    rw [show (12 : Nat) = 4 + 8 from rfl, ← List.drop_drop, e2, List.drop_append_of_le_length (by omega), List.drop_eq_nil_of_le (by omega), List.nil_append]
  refine PtrV.same ?_ ?_ ?_
  · show num ((ptrB q ++ R).take 4) = q.ad
    rw [e1]
    exact putI_num 4 _ q.a0.1 (by have := q.a0.2; omega)
  · show num (((ptrB q ++ R).drop 4).take 8) = q.bi
    rw [e2, List.take_append_of_le_length (by omega), List.take_of_length_le (by omega)]
    exact putI_num 8 _ q.b0.1 (by have := q.b0.2; omega)
  · show ((ptrB q ++ R).drop 12).take 32 = q.su
    rw [e3, List.take_append_of_le_length (by omega), List.take_of_length_le (by omega)]
theorem getA_ptrB (q : PtrV) (R : List Int) (hR : Byt R) : getA (ptrB q ++ R) = (q, 0, R) := by
  unfold getA
  rw [if_neg (by rw [List.length_append, ptrB_length]; omega), ptrOf_ptrB q R hR, List.drop_append_of_le_length (by rw [ptrB_length]; exact Nat.le_refl _), List.drop_eq_nil_of_le (by rw [ptrB_length]; exact Nat.le_refl _), List.nil_append]
theorem numA_in8 (k : Nat) (l : List Int) (h : k ≤ l.length) (h8 : k ≤ 8) : numA (k : Int) l = (num (l.take k), 0, l.drop k) := by
  unfold numA rawA
  rw [if_neg (by omega), if_neg (by omega), if_neg (by omega)]
  rfl
theorem Chg.only {R : Nat} {w w1 w' : World} (h : Only R w w1) (q : Chg R w1 w') : Chg R w w' := (Chg.of_only h).trans q

theorem ptrOf_parts (l : List Int) (h : 44 ≤ l.length) (hb : Byt l) : num (l.take 4) = (ptrOf l).ad ∧ num ((l.drop 4).take 8) = (ptrOf l).bi ∧ (l.drop 12).take 32 = (ptrOf l).su := by
  unfold ptrOf
  rw [dif_pos ⟨h, hb⟩]
  exact ⟨rfl, rfl, rfl⟩
def putAt (cur : List Value) (o : Nat) (vs : List Value) : List Value := cur.take o ++ vs ++ cur.drop (o + vs.length)
theorem heap_putAt (b : Nat) (t : TypeId) : ∀ (vs : List Value) (o : Nat) (w : World) (cur : List Value), w.heap[b]? = some (.cells cur.toArray t (0, 0)) → o + vs.length ≤ cur.length →
    (w.setCells b o vs).heap[b]? = some (.cells (putAt cur o vs).toArray t (0, 0))
  | [], o, w, cur, hg, _ => by simpa [World.setCells, putAt] using hg
  | v :: r, o, w, cur, hg, hl => by
    simp only [List.length_cons] at hl
    have h1 := heap_setCell_same w b o _ _ v hg
    rw [List.setIfInBounds_toArray] at h1
    have ih := heap_putAt b t r (o + 1) (w.setCell ⟨b, o, none⟩ v) (cur.set o v) h1 (by simp; omega)
    rw [World.setCells, ih]
    congr 3
    unfold putAt
    rw [List.take_succ_eq_append_getElem (by simp; omega), List.getElem_set_self, List.take_set_of_le (by omega), List.drop_set_of_lt (by omega)]
    simp only [List.append_assoc, List.cons_append, List.nil_append, List.length_cons]
    rw [show o + 1 + r.length = o + (r.length + 1) by omega]
theorem below_sets (b : Nat) : ∀ (vs : List Value) (o : Nat) (a w : World) (N : Nat), Below N a w → N ≤ b → Below N a (w.setCells b o vs)
  | [], _, _, _, _, h, _ => h
  | v :: r, o, a, _, N, h, hb => below_sets b r (o + 1) a _ N (h.setCell (show N ≤ (⟨b, o, none⟩ : Addr).block from hb) v) hb
/-- A pointer's cells, whatever stands in them. -/
def prow (a b : Int) (s : List Int) : List Value := .int .u32 a :: .int .u64 b :: s.map (Value.int .u8)
theorem prow_ptr (q : PtrV) : prow q.ad q.bi q.su = ptrRow q := rfl
theorem chg_below {R N : Nat} {w w1 w2 : World} (h : Chg R w w1) (hN : w.heap.size ≤ N) (b : Below N w1 w2) : Chg R w w2 :=
  ⟨b.os.trans h.os, b.tape.trans h.tape, b.output.trans h.output, Nat.le_trans h.size b.size, fun k hk hne => (b.block k (Nat.lt_of_lt_of_le hk hN)).trans (h.block k hk hne)⟩
/-- Two cells of the call's own, of pointers. -/
theorem two_ptrs (w : World) (Z : Array Value) :
    Below w.heap.size w ((w.alloc (.cells Z 35)).alloc (.cells Z 35)) ∧ ((w.alloc (.cells Z 35)).alloc (.cells Z 35)).heap.size = w.heap.size + 2 ∧
      ((w.alloc (.cells Z 35)).alloc (.cells Z 35)).heap[w.heap.size]? = some (.cells Z 35 (0, 0)) ∧ ((w.alloc (.cells Z 35)).alloc (.cells Z 35)).heap[w.heap.size + 1]? = some (.cells Z 35 (0, 0)) := by
  have hb := (Below.refl w.heap.size w).alloc (Nat.le_refl _) (.cells Z 35)
  have hs1 : (w.alloc (.cells Z 35)).heap.size = w.heap.size + 1 := by simp
  refine ⟨hb.alloc hb.size _, by simp, ?_, ?_⟩
  · exact (((Below.refl _ (w.alloc (.cells Z 35))).alloc (Nat.le_refl _) (.cells Z 35)).block w.heap.size (by omega)).trans (heap_alloc_new w (.cells Z 35))
  · have q := heap_alloc_new (w.alloc (.cells Z 35)) (.cells Z 35)
    rwa [hs1] at q
end Go.Proofs.Ytocdjaenhllemaa
