/-
  A Counts and a map of a law's own beside it, apart from one another.
-/
import Derived.Test.YtocdjaenhllemaaAb
import Derived.Test.YtocdjaenhllemaaZm
import Derived.Maps.RangeWalk
namespace Go.Proofs.Ytocdjaenhllemaa
set_option maxRecDepth 4000
set_option linter.unusedVariables false
open Go.RowKit Go.Maps

structure AZ (w0 w : World) (C : Nat) (mv : Value) (L : List PtrV) (K bw : Nat) (A M : List PtrV) (Kw : Nat) : Prop where
  co : CO w0 w C mv L K
  om : ∃ D, OM w bw Kw D ∧ MapZ D A M
  nb : w0.heap.size ≤ bw
  ap : bw ∉ C :: mbl mv
theorem AZ.lt {w0 w : World} {C K bw Kw : Nat} {mv : Value} {L A M : List PtrV} (h : AZ w0 w C mv L K bw A M Kw) : bw < w.heap.size := by
  obtain ⟨D, ho, _⟩ := h.om
  exact ho.lt
theorem AZ.below {w0 w w' : World} {C K bw Kw : Nat} {mv : Value} {L A M : List PtrV} (h : AZ w0 w C mv L K bw A M Kw) (b : Below w.heap.size w w') : AZ w0 w' C mv L K bw A M Kw := by
  have hl := h.lt
  obtain ⟨D, ho, hm⟩ := h.om
  exact ⟨h.co.below b, ⟨D, om_move ho (b.block bw hl), hm⟩, h.nb, h.ap⟩
theorem AZ.grown {w0 w w' : World} {C K bw Kw r : Nat} {mv : Value} {L A M : List PtrV} (h : AZ w0 w C mv L K bw A M Kw) (b : w.grownBy w' (some r)) (hr : r ∉ C :: mbl mv) (hrb : r ≠ bw) (hr0 : w0.heap.size ≤ r) : AZ w0 w' C mv L K bw A M Kw := by
  have hl := h.lt
  obtain ⟨D, ho, hm⟩ := h.om
  have t : Touch [r] w w' := Touch.grown b
  exact ⟨h.co.touch t (fun g hg hm => hr (by rw [List.mem_singleton] at hm; subst hm; exact hg)) (fun g hg => by rw [List.mem_singleton] at hg; subst hg; exact hr0), ⟨D, om_move ho (t.block bw hl (by simp; omega)), hm⟩, h.nb, h.ap⟩
theorem AZ.step {w0 w w' : World} {C K K' bw Kw : Nat} {mv mv' : Value} {L L' A M : List PtrV} (h : AZ w0 w C mv L K bw A M Kw) (hc : CO w0 w' C mv' L' K') (hs : CStep w w' C mv mv') : AZ w0 w' C mv' L' K' bw A M Kw := by
  have hl := h.lt
  obtain ⟨D, ho, hm⟩ := h.om
  refine ⟨hc, ⟨D, om_move ho (hs.1.block bw hl h.ap), hm⟩, h.nb, fun hm2 => ?_⟩
  rcases List.mem_cons.1 hm2 with e | e
  · exact h.ap (by simp [e])
  · rcases hs.2 with q | ⟨b, q, hb⟩
    · rw [q] at e; exact h.ap (by simp [e])
    · rw [q, List.mem_singleton] at e; omega
theorem AZ.look {w0 w : World} {C K bw Kw : Nat} {mv : Value} {L A M : List PtrV} (h : AZ w0 w C mv L K bw A M Kw) (q : PtrV) :
    (Instr.lookup 53 (.map (some bw)) (.agg (ptrRow q).toArray) false).run Try.prog w = .ok (.int .i64 (M.count q : Int)) w := by
  obtain ⟨D, ho, hm⟩ := h.om
  exact om_lookZ ho q (hm.2 q).2
theorem az_new {w0 w : World} {C K : Nat} {mv : Value} {L : List PtrV} (h : CO w0 w C mv L K) : AZ w0 (w.alloc (.map #[] 0)) C mv L K w.heap.size [] [] 0 := by
  have hb := (Below.refl w.heap.size w).alloc (Nat.le_refl _) (.map #[] 0)
  have ho := World.ownsMap_made (H := Unit) w Try.prog 35 (plainElem Try.prog 3)
  refine ⟨h.below hb, ⟨_, ho, mapZ_nil⟩, h.bel.size, fun hm => ?_⟩
  rcases List.mem_cons.1 hm with e | e
  · have := h.lt; omega
  · have := (h.map.lt _ e).1; omega
/-- 'm[q] = c' by its entry: the worlds, whatever the order. -/
theorem az_put {w0 w : World} {C K bw Kw T : Nat} {mv : Value} {L A M A' M' : List PtrV} {AL : List Value} {q : PtrV} {c : Int} (h : AZ w0 w C mv L K bw A M Kw) (hK : Kw ≤ 1000000) (hr : w.rangeAt T 0 AL) (hT : T ≠ bw)
    (hc : c = (M'.count q : Int)) (hcb : c ≤ 1000000) (hA : ∀ p, p ∈ A' ↔ p ∈ A ∨ p = q) (hM : ∀ p, p ≠ q → M'.count p = M.count p) :
    ∃ (v0 : Value) (st : Nat) (o1 o2 : Obj), (Instr.mapEntry 53 (.map (some bw)) (.agg (ptrRow q).toArray)).run Try.prog w.drew = .ok (.tuple #[v0, .int .i64 (st : Int)]) (ChangeMaps.setBlock w.drew bw o1) ∧
      (Instr.lookup 53 (.map (some bw)) (.agg (ptrRow q).toArray) false).run Try.prog w.drew = .ok (.int .i64 (M.count q : Int)) w.drew ∧
      (Instr.lookup 53 (.map (some bw)) (.agg (ptrRow q).toArray) false).run Try.prog (ChangeMaps.setBlock w.drew bw o1) = .ok (.int .i64 (M.count q : Int)) (ChangeMaps.setBlock w.drew bw o1) ∧
      (Instr.entryStore 53 (.map (some bw)) (.int .i64 (st : Int)) (.int .i64 c)).run Try.prog (ChangeMaps.setBlock w.drew bw o1) = .ok () (ChangeMaps.setBlock (ChangeMaps.setBlock w.drew bw o1) bw o2) ∧
      (ChangeMaps.setBlock w.drew bw o1).rangeAt T 0 AL ∧ (ChangeMaps.setBlock (ChangeMaps.setBlock w.drew bw o1) bw o2).rangeAt T 0 AL ∧
      AZ w0 (ChangeMaps.setBlock (ChangeMaps.setBlock w.drew bw o1) bw o2) C mv L K bw A' M' (Kw + 1) ∧ (∀ k, k ≠ bw → (ChangeMaps.setBlock (ChangeMaps.setBlock w.drew bw o1) bw o2).heap[k]? = w.heap[k]?) := by
  obtain ⟨D, ho, hm⟩ := h.om
  have hod : OM w.drew bw Kw D := ho
  subst hc
  obtain ⟨v0, st, o1, h1, h2, h3⟩ := om_entryZ hod hm.1 q (hm.2 q).2 hK _ (by omega : (0 : Int) ≤ (M'.count q : Int)) (by omega)
  obtain ⟨es, clock, hb, _⟩ := id ho
  have hbd : w.drew.heap[bw]? = some (.map es clock) := hb
  have hs1 := ChangeMaps.heap_setBlock_same hbd o1
  obtain ⟨o2, h4, h5⟩ := h3 _ hs1
  have hgs : ∀ k, k ≠ bw → (ChangeMaps.setBlock (ChangeMaps.setBlock w.drew bw o1) bw o2).heap[k]? = w.heap[k]? := fun k hk => by
    show ((w.heap.setIfInBounds bw o1).setIfInBounds bw o2)[k]? = _
    rw [Array.getElem?_setIfInBounds_ne (by omega), Array.getElem?_setIfInBounds_ne (by omega)]
  have hg1 : ∀ k, k ≠ bw → (ChangeMaps.setBlock w.drew bw o1).heap[k]? = w.heap[k]? := fun k hk => by
    show (w.heap.setIfInBounds bw o1)[k]? = _
    rw [Array.getElem?_setIfInBounds_ne (by omega)]
  have rg : ∀ W : World, W.heap[T]? = w.heap[T]? → W.rangeAt T 0 AL := fun W e j v hj => by
    have q0 := hr j v hj
    simp only [World.cell?] at q0 ⊢
    rw [e]
    exact q0
  have hsz : (ChangeMaps.setBlock (ChangeMaps.setBlock w.drew bw o1) bw o2).heap.size = w.heap.size := by simp [ChangeMaps.setBlock]
  have hT2 : Touch [bw] w (ChangeMaps.setBlock (ChangeMaps.setBlock w.drew bw o1) bw o2) := ⟨rfl, rfl, rfl, by omega, fun k _ hk => hgs k (by simpa using hk)⟩
  have hs2 : (ChangeMaps.setBlock (ChangeMaps.setBlock w.drew bw o1) bw o2).heap[bw]? = some o2 := by
    show ((w.heap.setIfInBounds bw o1).setIfInBounds bw o2)[bw]? = _
    rw [Array.getElem?_setIfInBounds_self_of_lt (by simpa using ho.lt)]
  exact ⟨v0, st, o1, o2, h1, om_lookZ hod q (hm.2 q).2, h2 _ hs1, h4, rg _ (hg1 T hT), rg _ (hgs T hT),
    ⟨h.co.touch hT2 (fun g hg hm => h.ap (by rw [List.mem_singleton] at hm; subst hm; exact hg)) (fun g hg => by rw [List.mem_singleton] at hg; subst hg; exact h.nb), ⟨_, h5 _ hs2, mapZ_put hm q hA hM⟩, h.nb, h.ap⟩, hgs⟩
/-- How many of a list's pointers are still counted. -/
def posN (M ss : List PtrV) : Nat := ss.countP (fun q => decide (0 < M.count q))
theorem posN_all {M ss : List PtrV} (hn : ss.Nodup) (h : ∀ q, q ∈ M → q ∈ ss) : posN M ss = distinct M := by
  unfold posN distinct
  rw [List.countP_eq_length_filter]
  refine ((List.perm_ext_iff_of_nodup (hn.filter _) (rise_nodup (allL_rise M))).2 (fun x => ?_)).length_eq
  rw [List.mem_filter, mem_allL, decide_eq_true_iff, List.count_pos_iff]
  exact ⟨fun q => q.2, fun q => ⟨h x q, q⟩⟩
theorem posN_step (M ss : List PtrV) (q : PtrV) : posN M (ss ++ [q]) = posN M ss + (if 0 < M.count q then 1 else 0) := by
  unfold posN
  rw [List.countP_append]
  simp [List.countP_cons]
theorem AZ.more {w0 w : World} {C K K' bw Kw Kw' : Nat} {mv : Value} {L A M : List PtrV} (h : AZ w0 w C mv L K bw A M Kw) (h1 : K ≤ K') (h2 : Kw ≤ Kw') : AZ w0 w C mv L K' bw A M Kw' := by
  obtain ⟨D, ho, hm⟩ := h.om
  exact ⟨h.co.mono h1, ⟨D, ho.mono h2, hm⟩, h.nb, h.ap⟩
theorem range_touch {w w' : World} {T : Nat} {AL : List Value} {l : List Nat} (h : w.rangeAt T 0 AL) (t : Touch l w w') (hn : T ∉ l) (hT : T < w.heap.size) : w'.rangeAt T 0 AL := fun j v hj => by
  have q0 := h j v hj
  simp only [World.cell?] at q0 ⊢
  rw [t.block T hT hn]
  exact q0
theorem co_grown {w0 w w' : World} {C K r : Nat} {mv : Value} {L : List PtrV} (h : CO w0 w C mv L K) (b : w.grownBy w' (some r)) (hr : ∀ g ∈ C :: mbl mv, g < r) (hr0 : w0.heap.size ≤ r) : CO w0 w' C mv L K :=
  h.touch (Touch.grown b) (fun g hg hm => by have := hr g hg; simp at hm; omega) (fun g hg => by simp at hg; subst hg; exact hr0)
theorem size_mapZ {w : World} {bm K : Nat} {D : DataW Unit} {A L : List PtrV} (h : OM w bm K D) (hm : MapZ D A L) : Maps.size D = distinct A := by
  obtain ⟨ks, h1, h2, h3⟩ := keys_of_map h
  rw [← h2]
  exact ((List.perm_ext_iff_of_nodup h1 (rise_nodup (allL_rise A))).2 (fun x => by rw [h3, mem_allL, (hm.2 x).1, decide_eq_true_iff])).length_eq
theorem below_grownBy {w w' : World} (h : Below w.heap.size w w') : w.grownBy w' none := ⟨h.os, h.tape, h.output, h.size, fun j hj _ => h.block j hj⟩
theorem index_u8a (b off len cap i : Nat) (h : i < len) (W : World) : (Instr.indexAt 46 (.slice (some ⟨b, off, none⟩) len cap) (.int .i64 (i : Int))).run Try.prog W = .ok (.pointer (some ⟨b, off + i, none⟩)) W := by
  obtain ⟨i0, hi0, hs⟩ := Option.map_eq_some_iff.1 (show (Try.prog.info? 5).map (·.size) = some 1 by kernel_rfl)
  simp [Instr.indexAt, asIntOf, run_underlying Try.underlying46, sizeOf, typeInfo, hi0, hs, h, Addr.add_mid]
theorem bs_at {w : World} {a : Option Addr} {n c : Nat} {l : List Int} (h : BS w (.slice a n c) l) : ∃ b off, (0 < n → a = some ⟨b, off, none⟩) ∧ ∀ i, i < n → w.cell? ⟨b, off + i, none⟩ = some (.int .u8 (l.getD i 0)) ∧ 0 ≤ l.getD i 0 ∧ l.getD i 0 ≤ 255 := by
  obtain ⟨a', c', e, hy, _, h⟩ := h
  injection e with e1 e2 e3
  subst e1 e2
  rcases h with h | ⟨b, off, e, hc⟩
  · subst h
    exact ⟨0, 0, fun h => absurd h (Nat.lt_irrefl _), fun i h => absurd h (Nat.not_lt_zero _)⟩
  · refine ⟨b, off, fun _ => e, fun i hi => ⟨hc i hi, ?_⟩⟩
    have hm : l.getD i 0 ∈ l := by simp [List.getD, List.getElem?_eq_getElem hi]
    exact hy _ hm
end Go.Proofs.Ytocdjaenhllemaa
