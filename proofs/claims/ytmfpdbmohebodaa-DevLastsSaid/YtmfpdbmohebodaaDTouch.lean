/-
  Worlds in which some blocks may have changed, and new ones may have been made.
-/
import Derived.Test.YtmfpdbmohebodaaDRef3
namespace Go.Proofs.Ytmfpdbmohebodaa
open Go.RowKit

/-- Of what was there the blocks of l alone may have changed. -/
structure Touch (l : List Nat) (w w' : World) : Prop where
  os : w'.os = w.os
  tape : w'.tape = w.tape
  output : w'.output = w.output
  size : w.heap.size ≤ w'.heap.size
  block : ∀ k, k < w.heap.size → k ∉ l → w'.heap[k]? = w.heap[k]?
theorem Touch.refl (l : List Nat) (w : World) : Touch l w w := ⟨rfl, rfl, rfl, Nat.le_refl _, fun _ _ _ => rfl⟩
theorem Touch.trans {l : List Nat} {a b c : World} (h : Touch l a b) (q : Touch l b c) : Touch l a c :=
  ⟨q.os.trans h.os, q.tape.trans h.tape, q.output.trans h.output, Nat.le_trans h.size q.size, fun k hk hn => (q.block k (Nat.lt_of_lt_of_le hk h.size) hn).trans (h.block k hk hn)⟩
theorem Touch.more {l m : List Nat} {a b : World} (h : Touch l a b) (hm : ∀ k ∈ l, k ∈ m) : Touch m a b := ⟨h.os, h.tape, h.output, h.size, fun k hk hn => h.block k hk (fun e => hn (hm k e))⟩
theorem Touch.of_below {l : List Nat} {a b : World} (h : Below a.heap.size a b) : Touch l a b := ⟨h.os, h.tape, h.output, h.size, fun k hk _ => h.block k hk⟩
theorem Touch.of_only {l : List Nat} {g : Nat} {a b : World} (h : Only g a b) (hg : g ∈ l) : Touch l a b :=
  ⟨(h.bel 0 (Nat.zero_le _)).os, (h.bel 0 (Nat.zero_le _)).tape, (h.bel 0 (Nat.zero_le _)).output, Nat.le_of_eq h.size.symm, fun k _ hn => h.rest k (fun e => hn (e ▸ hg))⟩
theorem Touch.below {l : List Nat} {a b : World} {B : Nat} (h : Touch l a b) (hB : B ≤ a.heap.size) (hl : ∀ k ∈ l, B ≤ k) : Below B a b :=
  ⟨h.os, h.tape, h.output, h.size, fun k hk => h.block k (by omega) (fun e => by have := hl k e; omega)⟩
theorem Touch.arr {l : List Nat} {a b : World} {g t : Nat} {L : List (BitVec 8)} (h : Touch l a b) (q : ArrY a g t L) (hg : g ∉ l) : ArrY b g t L := (h.block g (zlt q) hg).trans q
theorem only_setCells {g : Nat} : ∀ (vs : List Value) (o : Nat) (a w : World), Only g a w → Only g a (w.setCells g o vs)
  | [], _, _, _, h => h
  | v :: vs, o, a, _, h => only_setCells vs (o + 1) a _ (h.setCell o v)
theorem own_touch {l : List Nat} {B n k : Nat} {e : TypeId} {v : Value} {xs : List Value} {w w' : World} (h : w.ownsRow B e k v n xs) (q : Touch l w w') (hne : ∀ g, v.ownBlock = some g → g ∉ l) : w'.ownsRow B e k v n xs := by
  refine ⟨h.1, ?_⟩
  rcases h.2 with hn | ⟨g, cap, cur, rfl, hb, hgg, rest⟩
  · exact .inl hn
  · exact .inr ⟨g, cap, cur, rfl, hb, (q.block g (rd_lt hgg) (hne g rfl)).trans hgg, rest⟩
/-- What waits, laid. -/
def flushM (F : List (BitVec 8)) (ws : List (Nat × List (BitVec 8))) : List (BitVec 8) := ws.foldl (fun F p => putL F (p.1 * 512) p.2) F
theorem flushM_next (F : List (BitVec 8)) (ws : List (Nat × List (BitVec 8))) (i : Nat) (h : i < ws.length) : flushM F (ws.take (i + 1)) = putL (flushM F (ws.take i)) ((ws[i]).1 * 512) (ws[i]).2 := by
  unfold flushM
  rw [List.take_add_one, List.getElem?_eq_getElem h, Option.toList_some, List.foldl_append]
  rfl
theorem wcell_length (p : Nat × List (BitVec 8)) (h : p.2.length = 512) : (wcell p).length = 513 := by simp [wcell, h]
theorem wcells_length (ws : List (Nat × List (BitVec 8))) (h : ∀ p ∈ ws, p.2.length = 512) : (wcells ws).length = ws.length * 513 := by
  induction ws with
  | nil => rfl
  | cons p ws ih =>
    have h1 := wcell_length p (h p (by simp))
    have h2 := ih (fun q hq => h q (by simp [hq]))
    simp only [wcells, List.flatMap_cons, List.length_append, List.length_cons] at h2 ⊢
    rw [h1, h2]; omega
/-- The cells of the i-th of them. -/
theorem wcells_at (ws : List (Nat × List (BitVec 8))) (h : ∀ p ∈ ws, p.2.length = 512) (i : Nat) (hi : i < ws.length) (j : Nat) (hj : j < 513) : (wcells ws)[i * 513 + j]? = (wcell ws[i])[j]? := by
  induction ws generalizing i with
  | nil => simp at hi
  | cons p ws ih =>
    have h1 := wcell_length p (h p (by simp))
    show (wcell p ++ wcells ws)[i * 513 + j]? = _
    cases i with
    | zero => rw [List.getElem?_append_left (by omega)]; simp
    | succ i =>
      rw [List.getElem?_append_right (by omega), h1, show (i + 1) * 513 + j - 513 = i * 513 + j by omega, ih (fun q hq => h q (by simp [hq])) i (by simpa using hi)]
      simp
theorem own_range {w : World} {g cap : Nat} {e : TypeId} {ws : List (Nat × List (BitVec 8))} (h : w.ownsRow 0 e 513 (.slice (some ⟨g, 0, none⟩) ws.length cap) ws.length (wcells ws)) (hw : ∀ p ∈ ws, p.2.length = 512) (i : Nat) (hi : i < ws.length) : w.rangeAt g (i * 513) (wcell ws[i]) := by
  intro j v hv
  have hj : j < 513 := by
    have := (List.getElem?_eq_some_iff.1 hv).1
    rwa [wcell_length _ (hw _ (List.getElem_mem hi))] at this
  have hlt : i * 513 + j < ws.length * 513 := by
    have : (i + 1) * 513 ≤ ws.length * 513 := Nat.mul_le_mul_right _ hi
    omega
  rw [h.cellAt (i * 513 + j) hlt, wcells_at ws hw i hi j hj]
  exact hv
end Go.Proofs.Ytmfpdbmohebodaa
