/-
  The acts of layer 7's laws: how they come in, how one is taken out; lay.
-/
import Derived.Test.YtbnclmlbennhaaaWL
import Derived.Test.YtbnclmlbennhaaaOpn
namespace Go.Proofs.Ytbnclmlbennhaaa
set_option maxRecDepth 4000
open Go.ChangeShapes Go.WideShapes Go.ChangeAt Go.RowKit

def RLayV : World → LayV → List Value → Prop := fun W q cs => cs = layRow q ∧ q.Ok W ∧ -9223372036854775808 ≤ q.kd ∧ q.kd ≤ 9223372036854775807
/-- The acts of a law. -/
abbrev Lays (w : World) (x : List LayV) (a : Option Addr) (n c : Nat) : Prop := SlR RLayV 37 w x a n c
def zeroLay : LayV := ⟨0, 0, 0, ⟨#[]⟩, List.replicate 32 0, none, 0, 0, []⟩
theorem layRow_length (q : LayV) (h : q.h.length = 32) : (layRow q).length = 37 := by simp [layRow, h]
theorem lay_one (q : LayV) : (layRow q).toArray.all (·.oneCell') = true := by
  apply all_oneCell_toArray
  intro v hv
  simp only [layRow, List.mem_append, List.mem_cons, List.mem_map, List.not_mem_nil, or_false] at hv
  rcases hv with (rfl | rfl | rfl | rfl) | ⟨z, _, rfl⟩ | rfl <;> rfl
theorem range_below {w w' : World} {b o : Nat} {cs : List Value} (h : w.rangeAt b o cs) (q : Below w.heap.size w w') : w'.rangeAt b o cs := by
  intro j v hv
  have h0 := h j v hv
  rw [q.cell (block_lt_of_cell h0)]
  exact h0
/-- One of them, at any world that comes behind. -/
theorem lays_at {w w' : World} {x : List LayV} {a : Option Addr} {n c i : Nat} (h : Lays w x a n c) (hb : Below w.heap.size w w') (hi : i < n) :
    ∃ b off q, a = some ⟨b, off, none⟩ ∧ x[i]? = some q ∧ q.Ok w' ∧ (-9223372036854775808 ≤ q.kd ∧ q.kd ≤ 9223372036854775807) ∧ w'.rangeAt b (off + i * 37) (layRow q) := by
  obtain ⟨b, off, cs, h1, ⟨rfl, h3, h4⟩, _, h5⟩ := h.here i (by rw [h.len]; exact hi)
  exact ⟨b, off, _, h1, List.getElem?_eq_getElem _, h3.below hb, h4, range_below h5 hb⟩
theorem lay_hash_range {W : World} {T t : Nat} {fr : Nat × Nat} {q : LayV} (h : W.heap[T]? = some (.cells (layRow q).toArray t fr)) (hh : q.h.length = 32) : W.rangeAt T 4 (q.h.map (Value.int .u8)) := (lay_at h hh).2.2.2.2.2
theorem layM_len (n : Nat) (q : LayV) (w : World) (hq : q.Ok w) (h1 : q.lb ≤ 9000) : (layM n q).1.length ≤ 66000 := by
  unfold layM
  split
  · unfold strW; split
    · simp
    · simp [btxt_length]; omega
  · split
    · dsimp only; rw [hq.hash]; omega
    · split
      · dsimp only; rw [hq.len]; omega
      · split
        · unfold padW; split
          · simp
          · simp; omega
        · have := numW_len (q.n : Int) q.sz; omega
/-- A Writer of a law's, and a row of the law's beside it. -/
structure WW (w0 w : World) (P : Nat) (v1 v4 : Value) (l1 l4 : List Int) : Prop where
  wo : WO w P w0.heap.size v1 l1
  own : w.ownsRow w0.heap.size 5 1 v4 l4.length (l4.map (Value.int .u8))
  apart : ∀ g, v4.ownBlock = some g → v1.ownBlock ≠ some g
  new : w0.heap.size ≤ P
  bel : Below w0.heap.size w0 w
theorem WW.below {w0 w w' : World} {P : Nat} {v1 v4 : Value} {l1 l4 : List Int} (h : WW w0 w P v1 v4 l1 l4) (b : Below w.heap.size w w') : WW w0 w' P v1 v4 l1 l4 :=
  ⟨h.wo.below b, own_touch h.own (Touch.of_below (l := []) b) (by simp), h.apart, h.new, h.bel.trans (b.mono h.bel.size)⟩
theorem ww_row {w0 w w' : World} {P : Nat} {v1 v4 v4' : Value} {l1 l4 l : List Int} (h : WW w0 w P v1 v4 l1 l4) (s : OStep w w' w0.heap.size v4 v4' l) : WW w0 w' P v1 v4' l1 l := by
  have hP : v4.ownBlock ≠ some P := own_ne h.own h.wo.cell (by decide)
  refine ⟨h.wo.touch s.touch (fun hm => hP (Option.mem_toList.1 hm)) (fun g hg hm => h.apart g (Option.mem_toList.1 hm) hg), s.own, fun g hg => ?_, h.new, h.bel.trans (s.touch.below h.bel.size (fun k hk => (h.own.lt k (Option.mem_toList.1 hk)).1))⟩
  rcases s.new with n | ⟨g', n, hg'⟩
  · exact h.apart g (n ▸ hg)
  · intro e
    have h1 := (h.wo.own.lt g e).2
    rw [n] at hg
    have := Option.some.inj hg
    omega
theorem ww_wr {w0 w w' : World} {P : Nat} {v1 v4 : Value} {l1 l4 l : List Int} (h : WW w0 w P v1 v4 l1 l4) (s : WStep w w' P w0.heap.size v1 l) : ∃ v1', WW w0 w' P v1' v4 l l4 := by
  obtain ⟨v1', h1, t, n⟩ := s
  have hP : v4.ownBlock ≠ some P := own_ne h.own h.wo.cell (by decide)
  refine ⟨v1', h1, own_touch h.own t (fun g hg hm => ?_), fun g hg e => ?_, h.new, h.bel.trans (t.below h.bel.size (fun k hk => ?_))⟩
  · simp only [List.mem_cons, Option.mem_toList] at hm
    rcases hm with rfl | hm
    · exact hP hg
    · exact h.apart g hg hm
  · rcases n with n | ⟨g', n, hg'⟩
    · exact h.apart g hg (n ▸ e)
    · have h2 := (h.own.lt g hg).2
      rw [n] at e
      have := Option.some.inj e
      omega
  · simp only [List.mem_cons, Option.mem_toList] at hk
    rcases hk with rfl | hk
    · exact h.new
    · exact (h.wo.own.lt k hk).1
end Go.Proofs.Ytbnclmlbennhaaa
