/-
  Readers whose bytes lie in blocks that were there ahead of something: Num and Hash, of the program and of the document's answer. (Written by tools/XOld.make.py.)
-/
import Derived.Test.YtocdjaenhllemaaCod0
namespace Go.Proofs.Ytocdjaenhllemaa
set_option maxRecDepth 4000
open Go.RowKit

/-- The world as it was when it had so many blocks alone (what lies in them now). -/
def trunc (N : Nat) (w : World) : World := { w with heap := w.heap.extract 0 N }
theorem trunc_heap {N k : Nat} (w : World) (h : k < N) : (trunc N w).heap[k]? = w.heap[k]? := by
  unfold trunc
  simp [Array.getElem?_extract]
  omega
theorem trunc_size {N : Nat} {w : World} (h : N ≤ w.heap.size) : (trunc N w).heap.size = N := by
  unfold trunc
  simp
  omega
theorem trunc_below {N : Nat} {w : World} (h : N ≤ w.heap.size) : Below (trunc N w).heap.size (trunc N w) w :=
  ⟨rfl, rfl, rfl, by rw [trunc_size h]; exact h, fun k hk => (trunc_heap w (by rwa [trunc_size h] at hk)).symm⟩
/-- A Reader whose blocks are among the first N. -/
def RT (N : Nat) (w : World) (t R : Nat) (l : List Int) : Prop := N ≤ w.heap.size ∧ ∃ ab lb cb, RR (trunc N w) t R ab lb cb l
theorem RT.rr {N : Nat} {w : World} {t R : Nat} {l : List Int} (h : RT N w t R l) : ∃ ab lb cb, RR w t R ab lb cb l := by
  obtain ⟨hN, ab, lb, cb, h⟩ := h
  exact ⟨ab, lb, cb, h.below (trunc_below hN)⟩
theorem RT.lt {N : Nat} {w : World} {t R : Nat} {l : List Int} (h : RT N w t R l) : R < N := by
  obtain ⟨hN, ab, lb, cb, h⟩ := h
  have := (Array.getElem?_eq_some_iff.1 h.cell).1
  rwa [trunc_size hN] at this
theorem RT.byt {N : Nat} {w : World} {t R : Nat} {l : List Int} (h : RT N w t R l) : Byt l := by
  obtain ⟨hN, ab, lb, cb, h⟩ := h
  exact h.bytes.byt
theorem RT.now {w : World} {t R lb cb : Nat} {ab : Option Addr} {l : List Int} (h : RR w t R ab lb cb l) : RT w.heap.size w t R l := by
  have e : trunc w.heap.size w = w := by unfold trunc; simp
  exact ⟨Nat.le_refl _, ab, lb, cb, by rw [e]; exact h⟩
theorem RT.keep {N : Nat} {w w' : World} {t R : Nat} {l : List Int} (h : RT N w t R l) (hs : N ≤ w'.heap.size) (q : ∀ k, k < N → w'.heap[k]? = w.heap[k]?) : RT N w' t R l := by
  have hR := h.lt
  obtain ⟨hN, ab, lb, cb, h⟩ := h
  have e : ∀ k, k < N → (trunc N w').heap[k]? = (trunc N w).heap[k]? := fun k hk => by rw [trunc_heap _ hk, trunc_heap _ hk, q k hk]
  exact ⟨hs, ab, lb, cb, (e R hR).trans h.cell, h.bytes.old h.cell (fun k hk _ => e k (by rwa [trunc_size hN] at hk)), h.len, h.cap, h.big⟩
theorem rt_back {N : Nat} {w w' : World} {t R : Nat} {l : List Int} (hN : N ≤ w.heap.size) (hs : N ≤ w'.heap.size) (hR : R < N) (q : ∀ k, k < N → k ≠ R → w'.heap[k]? = w.heap[k]?)
    (r : ∃ ab lb cb, ∀ W : World, (∀ k, k < (trunc N w).heap.size → k ≠ R → W.heap[k]? = (trunc N w).heap[k]?) → W.heap[R]? = w'.heap[R]? → RR W t R ab lb cb l) : RT N w' t R l := by
  obtain ⟨ab, lb, cb, r⟩ := r
  refine ⟨hs, ab, lb, cb, r _ (fun k hk hne => ?_) (trunc_heap _ hR)⟩
  rw [trunc_size hN] at hk
  rw [trunc_heap _ hk, trunc_heap _ hk, q k hk hne]
end Go.Proofs.Ytocdjaenhllemaa
