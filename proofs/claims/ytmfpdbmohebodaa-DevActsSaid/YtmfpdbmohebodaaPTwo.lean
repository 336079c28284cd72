/-
  Two devices of a law's own.
-/
import Derived.Test.YtmfpdbmohebodaaPRow
namespace Go.Proofs.Ytmfpdbmohebodaa
open Go.RowKit

theorem MapAt.same {w w' : World} {bm : Nat} {ws : List (Nat × List (BitVec 8))} (h : MapAt w bm ws) (e : w'.heap[bm]? = w.heap[bm]?) : MapAt w' bm ws := h.keep e
theorem PD.same {w w' : World} {D gl bm n : Nat} {vw : Value} {F : List (BitVec 8)} {ws : List (Nat × List (BitVec 8))} {lim : Int} {dn : Bool} (h : PD w D gl bm n vw F ws lim dn) (q : Stay (pfp D gl bm vw) w w') : PD w' D gl bm n vw F ws lim dn := by
  obtain ⟨left, hd, hl⟩ := h.dev
  exact ⟨⟨left, (q D (by simp [pfp])).trans hd, hl⟩, (q gl (by simp [pfp])).trans h.lay, h.len, own_same h.wai (fun g hg => q g (by simp [pfp, hg])), h.wok, h.big, h.lim1, h.map.keep (q bm (by simp [pfp]))⟩
def PO2 (w0 w : World) (D gl n : Nat) (F : List (BitVec 8)) (ws : List (Nat × List (BitVec 8))) (lim : Int) (dn : Bool) (E hl m : Nat) (G : List (BitVec 8)) (vs : List (Nat × List (BitVec 8))) (lin : Int) (dm : Bool) : Prop :=
  ∃ bm vw bn vv, PD w D gl bm n vw F ws lim dn ∧ PD w E hl bn m vv G vs lin dm ∧ (∀ g ∈ pfp D gl bm vw, w0.heap.size ≤ g ∧ g ∉ pfp E hl bn vv) ∧ (∀ g ∈ pfp E hl bn vv, w0.heap.size ≤ g) ∧ Below w0.heap.size w0 w
section
variable {w0 w w' : World} {D gl n : Nat} {F : List (BitVec 8)} {ws : List (Nat × List (BitVec 8))} {lim : Int} {dn : Bool} {E hl m : Nat} {G : List (BitVec 8)} {vs : List (Nat × List (BitVec 8))} {lin : Int} {dm : Bool}
theorem PO2.swap (h : PO2 w0 w D gl n F ws lim dn E hl m G vs lin dm) : PO2 w0 w E hl m G vs lin dm D gl n F ws lim dn := by
  obtain ⟨bm, vw, bn, vv, h1, h2, h3, h4, h5⟩ := h
  exact ⟨bn, vv, bm, vw, h2, h1, fun g hg => ⟨h4 g hg, fun e => (h3 g e).2 hg⟩, fun g hg => (h3 g hg).1, h5⟩
theorem PO2.below (h : PO2 w0 w D gl n F ws lim dn E hl m G vs lin dm) (q : Below w.heap.size w w') : PO2 w0 w' D gl n F ws lim dn E hl m G vs lin dm := by
  obtain ⟨bm, vw, bn, vv, h1, h2, h3, h4, h5⟩ := h
  exact ⟨bm, vw, bn, vv, h1.below q, h2.below q, h3, h4, h5.trans (q.mono h5.size)⟩
theorem PO2.bel (h : PO2 w0 w D gl n F ws lim dn E hl m G vs lin dm) : Below w0.heap.size w0 w := by
  obtain ⟨bm, vw, bn, vv, h1, h2, h3, h4, h5⟩ := h
  exact h5
theorem PO2.first (h : PO2 w0 w D gl n F ws lim dn E hl m G vs lin dm) : ∃ K, PO w0 w K D gl n F ws lim dn ∧
    ∀ w' F' ws' lim' dn', PO w0 w' K D gl n F' ws' lim' dn' → Stay K w w' → PO2 w0 w' D gl n F' ws' lim' dn' E hl m G vs lin dm := by
  obtain ⟨bm, vw, bn, vv, h1, h2, h3, h4, h5⟩ := h
  refine ⟨pfp E hl bn vv, ⟨bm, vw, h1, h3, h2.lt, h5⟩, ?_⟩
  intro w' F' ws' lim' dn' hP hS
  obtain ⟨bm', vw', g1, g2, g3, g4⟩ := hP
  exact ⟨bm', vw', bn, vv, g1, h2.same hS, g2, h4, g4⟩
theorem PO2.mk (h : PO w0 w [] D gl n F ws lim dn) (q : PO w w' [] E hl m G vs lin dm) : PO2 w0 w' D gl n F ws lim dn E hl m G vs lin dm := by
  obtain ⟨bm, vw, h1, h2, _, h3⟩ := h
  obtain ⟨bn, vv, q1, q2, _, q3⟩ := q
  refine ⟨bm, vw, bn, vv, h1.below q3, q1, fun g hg => ⟨(h2 g hg).1, fun e => ?_⟩, fun g hg => Nat.le_trans h3.size (q2 g hg).1, h3.trans (q3.mono h3.size)⟩
  have a := h1.lt g hg
  have b := (q2 g e).1
  omega
end
theorem crash_none (F : List (BitVec 8)) (ws : List (Nat × List (BitVec 8))) : ∀ i, crashM 0 (-1) F ws i = F
  | 0 => rfl
  | i + 1 => by rw [crashM, crash_none F ws i, stepC, if_neg (by omega), if_neg (by simp)]
end Go.Proofs.Ytmfpdbmohebodaa
