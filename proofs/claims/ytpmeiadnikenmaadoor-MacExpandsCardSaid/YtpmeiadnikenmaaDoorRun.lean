/-
  Plain facts: the state behind the whole blocks of some bytes, and the block that isn't whole yet.
-/
import Derived.Test.YtpmeiadnikenmaaDoorPad
namespace Go.Proofs.YtpmeiadnikenmaaDoor
open Go.RowKit

/-- The state behind the first k blocks. -/
def stOf (s : List Int) : Nat → List (BitVec 32)
  | 0 => H0
  | k + 1 => blockS KS (stOf s k) ((s.drop (64 * k)).take 64)
theorem round_length (k w : BitVec 32) (x : List (BitVec 32)) (h : x.length = 8) : (round k w x).length = 8 := by
  match x, h with
  | [a, b, c, d, e, f, g, h], _ => rfl
theorem rounds_length (ks ws : List (BitVec 32)) (n : Nat) (x : List (BitVec 32)) (h : x.length = 8) : (rounds ks ws n x).length = 8 := by
  induction n with
  | zero => exact h
  | succ n ih => exact round_length _ _ _ ih
theorem blockS_length (ks s : List (BitVec 32)) (b : List Int) (h : s.length = 8) : (blockS ks s b).length = 8 := by
  unfold blockS
  rw [List.length_zipWith, rounds_length _ _ _ _ h, h]; rfl
theorem stOf_length (s : List Int) (k : Nat) : (stOf s k).length = 8 := by
  induction k with
  | zero => rfl
  | succ k ih => exact blockS_length _ _ _ ih
theorem stOf_append (s t : List Int) (k : Nat) (h : 64 * k ≤ s.length) : stOf (s ++ t) k = stOf s k := by
  induction k with
  | zero => rfl
  | succ k ih =>
    simp only [stOf]
    rw [ih (by omega), List.drop_append_of_le_length (by omega), List.take_append_of_le_length (by rw [List.length_drop]; omega)]
/-- A row that begins with r bytes, and seg put behind them. -/
def fillR (rest : List Int) (r : Nat) (seg : List Int) : List Int := rest.take r ++ (seg ++ rest.drop (r + seg.length))
theorem fillR_length (rest : List Int) (r : Nat) (seg : List Int) (h : r + seg.length ≤ rest.length) : (fillR rest r seg).length = rest.length := by
  simp [fillR]; omega
theorem fillR_byt (rest : List Int) (r : Nat) (seg : List Int) (h1 : Byt rest) (h2 : Byt seg) : Byt (fillR rest r seg) := by
  intro z hz
  simp only [fillR, List.mem_append] at hz
  rcases hz with h | h | h
  · exact h1 z (List.mem_of_mem_take h)
  · exact h2 z h
  · exact h1 z (List.mem_of_mem_drop h)
theorem fillR_take (rest : List Int) (r : Nat) (seg : List Int) (h : r + seg.length ≤ rest.length) : (fillR rest r seg).take (r + seg.length) = rest.take r ++ seg := by
  unfold fillR
  rw [← List.append_assoc, List.take_append_of_le_length (by simp; omega), List.take_of_length_le (by simp; omega)]
/-- What a hasher's block holds, as plain data: the state, the block that isn't whole, of the bytes s. -/
def Told (s : List Int) (st : List (BitVec 32)) (rest : List Int) : Prop :=
  st = stOf s (s.length / 64) ∧ rest.length = 64 ∧ Byt rest ∧ rest.take (s.length % 64) = s.drop (64 * (s.length / 64))
theorem told_more {s : List Int} {st : List (BitVec 32)} {rest seg : List Int} (h : Told s st rest) (hs : Byt seg) (hl : s.length % 64 + seg.length < 64) : Told (s ++ seg) st (fillR rest (s.length % 64) seg) := by
  obtain ⟨h1, h2, h3, h4⟩ := h
  have hd : (s ++ seg).length / 64 = s.length / 64 := by rw [List.length_append]; omega
  have hm : (s ++ seg).length % 64 = s.length % 64 + seg.length := by rw [List.length_append]; omega
  refine ⟨?_, by rw [fillR_length _ _ _ (by omega)]; exact h2, fillR_byt _ _ _ h3 hs, ?_⟩
  · rw [hd, stOf_append _ _ _ (by omega)]; exact h1
  · rw [hd, hm, fillR_take _ _ _ (by omega), h4, List.drop_append_of_le_length (by omega)]
theorem told_whole {s : List Int} {st : List (BitVec 32)} {rest seg : List Int} (h : Told s st rest) (hs : Byt seg) (hl : s.length % 64 + seg.length = 64) :
    Told (s ++ seg) (blockS KS st (fillR rest (s.length % 64) seg)) (fillR rest (s.length % 64) seg) := by
  obtain ⟨h1, h2, h3, h4⟩ := h
  have hd : (s ++ seg).length / 64 = s.length / 64 + 1 := by rw [List.length_append]; omega
  have hm : (s ++ seg).length % 64 = 0 := by rw [List.length_append]; omega
  have hlen : (fillR rest (s.length % 64) seg).length = 64 := by rw [fillR_length _ _ _ (by omega)]; exact h2
  have hb : fillR rest (s.length % 64) seg = ((s ++ seg).drop (64 * (s.length / 64))).take 64 := by
    have := fillR_take rest (s.length % 64) seg (by omega)
    rw [hl, List.take_of_length_le (by omega), h4] at this
    rw [this, List.drop_append_of_le_length (by omega), List.take_of_length_le (by simp; omega)]
  refine ⟨?_, hlen, fillR_byt _ _ _ h3 hs, ?_⟩
  · rw [hd, stOf, stOf_append _ _ _ (by omega), ← h1, ← hb]
  · rw [hd, hm, List.take_zero, List.drop_eq_nil_of_le (by rw [List.length_append]; omega)]
/-- The bytes' hash. -/
def hashS (s : List Int) : List Int := hashOf (stOf (s ++ pad s.length) ((s ++ pad s.length).length / 64))
theorem hashS_length (s : List Int) : (hashS s).length = 32 := hashOf_length _
theorem hashS_byt (s : List Int) : Byt (hashS s) := hashOf_byt _

/-- A hasher's cells. -/
def hcells (st : List (BitVec 32)) (rest : List Int) (n : Nat) : List Value := (wvs st).toList ++ ((u8s rest).toList ++ [.int .i64 (n : Int)])
theorem hcells_length (st : List (BitVec 32)) (rest : List Int) (n : Nat) (h1 : st.length = 8) (h2 : rest.length = 64) : (hcells st rest n).length = 73 := by
  simp [hcells, wvs_size, u8s_size, h1, h2]
theorem hcells_last (st : List (BitVec 32)) (rest : List Int) (n : Nat) (h1 : st.length = 8) (h2 : rest.length = 64) : (hcells st rest n)[72]? = some (.int .i64 (n : Int)) := by
  unfold hcells
  rw [List.getElem?_append_right (by simp [wvs_size, h1]), List.getElem?_append_right (by simp [wvs_size, u8s_size, h1, h2])]
  simp [wvs_size, u8s_size, h1, h2]
theorem hcells_state (st : List (BitVec 32)) (rest : List Int) (n : Nat) (h1 : st.length = 8) : (hcells st rest n).take 8 = (wvs st).toList := by
  unfold hcells
  rw [List.take_append_of_le_length (by simp [wvs_size, h1]), List.take_of_length_le (by simp [wvs_size, h1])]
theorem hcells_rest (st : List (BitVec 32)) (rest : List Int) (n : Nat) (h1 : st.length = 8) (h2 : rest.length = 64) : ((hcells st rest n).drop 8).take 64 = (u8s rest).toList := by
  unfold hcells
  rw [List.drop_append_of_le_length (by simp [wvs_size, h1]), List.drop_eq_nil_of_le (by simp [wvs_size, h1]), List.nil_append, List.take_append_of_le_length (by simp [u8s_size, h2]), List.take_of_length_le (by simp [u8s_size, h2])]
theorem hcells_count (st : List (BitVec 32)) (rest : List Int) (n m : Nat) (h1 : st.length = 8) (h2 : rest.length = 64) : (hcells st rest n).set 72 (.int .i64 (m : Int)) = hcells st rest m := by
  unfold hcells
  rw [List.set_append_right _ _ (by simp [wvs_size, h1]), List.set_append_right _ _ (by simp [wvs_size, u8s_size, h1, h2])]
  simp [wvs_size, u8s_size, h1, h2]
theorem hcells_fill (st : List (BitVec 32)) (rest seg : List Int) (n r : Nat) (h1 : st.length = 8) (h2 : rest.length = 64) (h : r + seg.length ≤ 64) :
    splice (hcells st rest n) (8 + r) (u8s seg).toList = hcells st (fillR rest r seg) n := by
  unfold splice hcells fillR
  have e1 : (wvs st).toList.length = 8 := by simp [wvs_size, h1]
  have e2 : (u8s seg).toList.length = seg.length := by simp [u8s_size]
  have e3 : (u8s rest).toList.length = 64 := by simp [u8s_size, h2]
  rw [List.take_append, List.take_of_length_le (by omega), e1, show 8 + r - 8 = r by omega, List.take_append_of_le_length (by omega), e2, List.drop_append, List.drop_eq_nil_of_le (by omega), e1, show 8 + r + seg.length - 8 = r + seg.length by omega, List.drop_append_of_le_length (by omega)]
  simp [u8s, List.map_take, List.map_drop]
theorem hcells_newstate (st st' : List (BitVec 32)) (rest : List Int) (n : Nat) (h1 : st.length = 8) (h2 : st'.length = 8) : splice (hcells st rest n) 0 (wvs st').toList = hcells st' rest n := by
  unfold splice hcells
  have e1 : (wvs st).toList.length = 8 := by simp [wvs_size, h1]
  have e2 : (wvs st').toList.length = 8 := by simp [wvs_size, h2]
  rw [e2, List.drop_append, List.drop_eq_nil_of_le (by omega), e1]
  simp
end Go.Proofs.YtpmeiadnikenmaaDoor
