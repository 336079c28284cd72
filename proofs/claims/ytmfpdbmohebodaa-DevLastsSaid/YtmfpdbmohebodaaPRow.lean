/-
  A row of slices that a law makes beside its device; loops over bytes that come in.
-/
import Derived.Test.YtmfpdbmohebodaaPOpen
namespace Go.Proofs.Ytmfpdbmohebodaa
open Go.RowKit

theorem own_ge {B n k : Nat} {e : TypeId} {v : Value} {xs : List Value} {w : World} (h : w.ownsRow B e k v n xs) : ∀ g, v.ownBlock = some g → B ≤ g := by
  rcases h.2 with ⟨rfl, _⟩ | ⟨g', cap, cur, rfl, hb, _⟩
  · intro g hg; simp [Value.ownBlock] at hg
  · intro g hg
    simp only [Value.ownBlock, Option.some.injEq] at hg
    omega
theorem own_same {B n k : Nat} {e : TypeId} {v : Value} {xs : List Value} {w w' : World} (h : w.ownsRow B e k v n xs) (q : ∀ g, v.ownBlock = some g → w'.heap[g]? = w.heap[g]?) : w'.ownsRow B e k v n xs := by
  refine ⟨h.1, ?_⟩
  rcases h.2 with hn | ⟨g, cap, cur, rfl, hb, hgg, rest⟩
  · exact .inl hn
  · exact .inr ⟨g, cap, cur, rfl, hb, (q g rfl).trans hgg, rest⟩
theorem PO.touch {w0 w w' : World} {K l : List Nat} {D gl n : Nat} {F : List (BitVec 8)} {ws : List (Nat × List (BitVec 8))} {lim : Int} {dn : Bool} (h : PO w0 w K D gl n F ws lim dn) (t : Touch l w w') (hl : ∀ k ∈ l, k ∈ K ∧ w0.heap.size ≤ k) : PO w0 w' K D gl n F ws lim dn := by
  obtain ⟨bm, vw, h, hf, hk, hb⟩ := h
  exact ⟨bm, vw, h.touch t (fun g hg e => (hf g hg).2 (hl g e).1), hf, fun k hm => Nat.lt_of_lt_of_le (hk k hm) t.size, hb.trans (t.below hb.size (fun k hm => (hl k hm).2))⟩
theorem PO.grow {w0 w w' : World} {K l : List Nat} {D gl n : Nat} {F : List (BitVec 8)} {ws : List (Nat × List (BitVec 8))} {lim : Int} {dn : Bool} (h : PO w0 w K D gl n F ws lim dn) (t : Touch l w w') (hl : ∀ k ∈ l, k ∈ K ∧ w0.heap.size ≤ k) (k : Nat) (h1 : w.heap.size ≤ k) (h2 : k < w'.heap.size) : PO w0 w' (k :: K) D gl n F ws lim dn := by
  obtain ⟨bm, vw, h, hf, hk, hb⟩ := h
  refine ⟨bm, vw, h.touch t (fun g hg e => (hf g hg).2 (hl g e).1), fun g hg => ⟨(hf g hg).1, ?_⟩, ?_, hb.trans (t.below hb.size (fun k hm => (hl k hm).2))⟩
  · have h3 := h.lt g hg
    simp only [List.mem_cons, not_or]
    exact ⟨by omega, (hf g hg).2⟩
  · intro j hj
    rcases List.mem_cons.1 hj with rfl | hj
    · exact h2
    · exact Nat.lt_of_lt_of_le (hk j hj) t.size
theorem yv_small (i : Nat) (h : i < 256) : (i : Int) = yv (BitVec.ofNat 8 i) := by
  rw [yv_nat, BitVec.toNat_ofNat]; omega
theorem info_bytes : (Try.prog.info? 36).map (fun i => (i.zero, i.size, i.bytes)) = some (some (.slice none 0 0), 1, 24) := by kernel_rfl
end Go.Proofs.Ytmfpdbmohebodaa
