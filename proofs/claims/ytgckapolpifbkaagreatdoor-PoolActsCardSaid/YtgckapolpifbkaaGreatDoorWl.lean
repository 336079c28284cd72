import Derived.Test.YtgckapolpifbkaaGreatDoorWk
import Derived.Test.YtgckapolpifbkaaGreatDoorSp1
namespace Go.Proofs.YtgckapolpifbkaaGreatDoor
set_option maxRecDepth 4000
set_option linter.unusedVariables false
open Go.ChangeShapes Go.WideShapes Go.ChangeAt Go.RowKit
section
variable {w0 w w' : World} {P D gl n b : Nat} {ks V : List (BitVec 8)} {F : Nat → Bool} {ws : List (Nat × List (BitVec 8))} {lim : Int} {dn : Bool} {L : List RowE} {M : List Nat}
theorem QL.growM {l : List Nat} (h : QL w0 w P D gl n ks F b V ws lim dn L M) (t : Touch l w w') (hl : ∀ k ∈ l,k ∈ M ∧ w0.heap.size ≤ k) (hr : ∀ r ∈ L,r.1 ∉ l) (X : Nat) (h1 : w.heap.size ≤ X) (h2 : X < w'.heap.size) : QL w0 w' P D gl n ks F b V ws lim dn L (X :: M) := by
 have hp := h.pl.lt
 refine ⟨?_,h.pl.touch t (fun e => h.mne (hl P e).1),h.pn,h.kt,h.tz,fun r hm => ⟨(t.block _ (lt_of_block (h.rows r hm).1) (hr r hm)).trans (h.rows r hm).1,(h.rows r hm).2⟩,fun e => ?_⟩
 ·obtain ⟨bm,vw,a1,a2,a3,a4⟩ := h.po.grow t (fun k hk => ⟨List.mem_cons_of_mem _ (List.mem_append_right _ (hl k hk).1),(hl k hk).2⟩) X h1 h2
  have hk : ∀ k ∈ P :: (L.map (·.1) ++ X :: M),k ∈ X :: P :: (L.map (·.1) ++ M) := fun k hk => by
   simp only [List.mem_cons,List.mem_append] at hk ⊢
   rcases hk with h | h | h | h
   ·exact .inr (.inl h)
   ·exact .inr (.inr (.inl h))
   ·exact .inl h
   ·exact .inr (.inr (.inr h))
  exact ⟨bm,vw,a1,fun g hg => ⟨(a2 g hg).1,fun e => (a2 g hg).2 (hk g e)⟩,fun k hm => a3 k (hk k hm),a4⟩
 ·rcases List.mem_cons.1 e with e | e
  ·omega
  ·exact h.mne e
theorem QL.grown13 {o o' : Option Nat} (h : QL w0 w P D gl n ks F b V ws lim dn L M) (t : Touch o.toList w w') (ho : ∀ g,o = some g → g ∈ M ∧ w0.heap.size ≤ g) (hr : ∀ r ∈ L,o ≠ some r.1) (ho' : o' = o ∨ ∃ X,o' = some X ∧ w.heap.size ≤ X ∧ X < w'.heap.size) :
 ∃ M',QL w0 w' P D gl n ks F b V ws lim dn L M' ∧ (∀ k ∈ M,k ∈ M') ∧ ∀ g,o' = some g → g ∈ M' := by
 have hl : ∀ k ∈ o.toList,k ∈ M ∧ w0.heap.size ≤ k := fun k hk => ho k (by simpa using hk)
 have hrr : ∀ r ∈ L,r.1 ∉ o.toList := fun r hm e => hr r hm (by simpa using e)
 rcases ho' with rfl | ⟨X,rfl,h1,h2⟩
 ·exact ⟨M,h.touchM t hl hrr,fun k hk => hk,fun g hg => (ho g hg).1⟩
 ·exact ⟨X :: M,h.growM t hl hrr X h1 h2,fun k hk => List.mem_cons_of_mem _ hk,fun g hg => by cases hg; exact List.mem_cons_self ..⟩
end
end Go.Proofs.YtgckapolpifbkaaGreatDoor
