/-
  A Counts of the program and one of the reference beside it, apart from one another; an act of a law.
-/
import Derived.Test.YtocdjaenhllemaaAb
import Derived.Test.YtocdjaenhllemaaAz
import Derived.Test.YtocdjaenhllemaaRa
namespace Go.Proofs.Ytocdjaenhllemaa
set_option maxRecDepth 4000
set_option linter.unusedVariables false
open Go.ChangeShapes Go.WideShapes Go.ChangeAt Go.RowKit

abbrev ActV := Bool × PtrV
def actRow (x : ActV) : List Value := .bool x.1 :: ptrRow x.2
def zeroAct : ActV := (false, zeroPtr)
theorem actRow_length (x : ActV) : (actRow x).length = 35 := by simp [actRow, ptrRow_length]
theorem actRow_one (x : ActV) : (actRow x).toArray.all (·.oneCell') = true := by
  apply all_oneCell_toArray
  intro v hv
  simp only [actRow, List.mem_cons] at hv
  rcases hv with rfl | hv
  · rfl
  · exact ptrRow_cells1 x.2 v hv
theorem size_act (x : ActV) : (Try.prog.info? 37).map (·.size) = some (actRow x).length := by
  rw [show (Try.prog.info? 37).map (·.size) = some 35 by kernel_rfl, actRow_length x]
theorem size_actA (x : ActV) : (Try.prog.info? 37).map (·.size) = some (actRow x).toArray.size := by
  rw [size_act x]; simp
theorem zero_act (W : World) : (zeroValue 37).run Try.prog W = .ok (.agg (actRow zeroAct).toArray) W := by kernel_rfl
def RActV : World → ActV → List Value → Prop := fun _ x cs => cs = actRow x
theorem opn_act : Opn 37 RActV := by
  intro H enc W fuel cs y h hw
  obtain ⟨xs, k, _, hx, hlen, hxl, hfs⟩ := DataW.trod_struct Try.underlying37 h
  rw [show Try.prog.cellsOf 37 = 35 by kernel_rfl] at hlen
  have hxk : xs.length = 2 := hxl
  have hd := congrArg Prod.fst hx
  dsimp only at hd
  clear hx hxl
  match xs, hxk with
  | [y0, y1], _ =>
    have e0 : Try.prog.cellsOf 4 = 1 := by kernel_rfl
    have e1 : Try.prog.cellsOf 35 = 34 := by kernel_rfl
    have hw2 : ∀ n ∈ DataW.weightsEach Try.prog [4, 35] [y0.1, y1.1], n ≤ reachBytes := fun n hn => hw n (by rw [hd]; simp only [DataW.weights, Try.underlying37]; exact hn)
    have g0 : DataW.trod enc Try.prog W 0 (fun _ => true) true k 4 ((cs.drop 0).take 1) = some y0 := by have q := hfs 0 _ rfl; rw [← e0]; exact q
    have g1 : DataW.trod enc Try.prog W 0 (fun _ => true) true k 35 ((cs.drop 1).take 34) = some y1 := by have q := hfs 1 _ rfl; rw [← e1]; exact q
    obtain ⟨o, r0⟩ := opn_bool Try.underlying4 _ _ _ _ _ _ g0 (fun n hn => hw2 n (DataW.weights_mem_each (j := 0) rfl rfl n hn))
    obtain ⟨q, r1'⟩ := opn_ptr _ _ _ _ _ _ g1 (fun n hn => hw2 n (DataW.weights_mem_each (j := 1) rfl rfl n hn))
    have r1 : (cs.drop 1).take 34 = ptrRow q := r1'
    have hcs : cs = (cs.drop 0).take 1 ++ (cs.drop 1).take 34 := by
      conv => lhs; rw [← List.drop_zero (l := cs), lcut cs 0 1, lcut cs (0 + 1) 34]
      rw [List.drop_eq_nil_of_le (show cs.length ≤ 0 + 1 + 34 by omega), List.append_nil]
    rw [r0, r1] at hcs
    exact ⟨(o, q), hcs⟩
theorem opn_acts : Opn 22 (RSl RActV 35) := opn_slice 35 Try.underlying22 (by kernel_rfl) (by decide) (of_decide_eq_true (by kernel_rfl)) opn_act
theorem acts_at {w w' : World} {x : List ActV} {a : Option Addr} {n c i : Nat} (h : SlR RActV 35 w x a n c) (hb : Below w.heap.size w w') (hi : i < n) :
    ∃ b off q, a = some ⟨b, off, none⟩ ∧ x[i]? = some q ∧ w'.rangeAt b (off + i * 35) (actRow q) := by
  obtain ⟨b, off, cs, h1, h2, _, h5⟩ := h.here i (by rw [h.len]; exact hi)
  obtain rfl : cs = actRow _ := h2
  exact ⟨b, off, _, h1, List.getElem?_eq_getElem _, range_below h5 hb⟩
theorem index_act (b off len cap i : Nat) (h : i < len) (W : World) : (Instr.indexAt 22 (.slice (some ⟨b, off, none⟩) len cap) (.int .i64 (i : Int))).run Try.prog W = .ok (.pointer (some ⟨b, off + i * 35, none⟩)) W := by
  obtain ⟨i0, hi, hs⟩ := Option.map_eq_some_iff.1 (show (Try.prog.info? 37).map (·.size) = some 35 by kernel_rfl)
  simp [Instr.indexAt, asIntOf, run_underlying Try.underlying22, sizeOf, typeInfo, hi, hs, h, Addr.add_mid]
theorem new_actrow (w : World) (Z R : Array Value) : ((w.alloc (.cells Z 37)).setRow w.heap.size R).heap[w.heap.size]? = some (.cells R 37 (0, 0)) ∧ Below w.heap.size w ((w.alloc (.cells Z 37)).setRow w.heap.size R) := by
  obtain ⟨e1, e2, e3⟩ := ygen_row (w := w) (old := Z) (cs := R) (T := 37)
  exact ⟨e1, e3⟩
theorem act_parts {w : World} {T : Nat} {o : Bool} {q : PtrV} (h : w.heap[T]? = some (.cells (actRow (o, q)).toArray 37 (0, 0))) : w.cell? ⟨T, 0, none⟩ = some (.bool o) ∧ w.rangeAt T 1 (ptrRow q) := by
  have := range_of_row h
  refine ⟨this 0 _ rfl, fun j v hj => ?_⟩
  have := this (j + 1) v (by simpa [actRow] using hj)
  rw [Nat.zero_add] at this
  rw [Nat.add_comm 1 j]; exact this

/-- Both: 'L' is what the program's counts, 'P' what the reference's does. -/
structure CR (w0 w : World) (C M : Nat) (mv v : Value) (L P : List PtrV) (K : Nat) : Prop where
  co : CO w0 w C mv L K
  rq : RQ w0 w M v P
  ap : ∀ g ∈ C :: mbl mv, g ∉ M :: v.ownBlock.toList
theorem RQ.new_all {w0 w : World} {M : Nat} {v : Value} {L : List PtrV} (h : RQ w0 w M v L) : ∀ g ∈ M :: v.ownBlock.toList, w0.heap.size ≤ g ∧ g < w.heap.size := by
  intro g hg
  rcases List.mem_cons.1 hg with rfl | hg
  · exact ⟨h.new, h.lt⟩
  · have := h.own.lt g (by simpa using hg)
    omega
theorem CR.below {w0 w w' : World} {C M K : Nat} {mv v : Value} {L P : List PtrV} (h : CR w0 w C M mv v L P K) (b : Below w.heap.size w w') : CR w0 w' C M mv v L P K := ⟨h.co.below b, h.rq.below b, h.ap⟩
theorem CR.stepC {w0 w w' : World} {C M K K' : Nat} {mv mv' v : Value} {L L' P : List PtrV} (h : CR w0 w C M mv v L P K) (hc : CO w0 w' C mv' L' K') (hs : CStep w w' C mv mv') : CR w0 w' C M mv' v L' P K' := by
  refine ⟨hc, h.rq.touch hs.1 (fun hm => h.ap M hm (by simp)) (fun g e hm => h.ap g hm (by simp [e])) (fun g hg => (h.co.new_all g hg).1), fun g hg hm => ?_⟩
  rcases List.mem_cons.1 hg with rfl | hg
  · exact h.ap g (by simp) hm
  · rcases hs.2 with e | ⟨b, e, hb⟩
    · rw [e] at hg; exact h.ap g (by simp [hg]) hm
    · rw [e] at hg
      obtain rfl : g = b := by simpa using hg
      have := (h.rq.new_all g hm).2
      omega
theorem CR.stepR {w0 w w' : World} {C M K : Nat} {mv v v' : Value} {L P P' : List PtrV} (h : CR w0 w C M mv v L P K) (hc : RQ w0 w' M v' P') (hs : RStep w w' M v v') : CR w0 w' C M mv v' L P' K := by
  refine ⟨h.co.touch hs.1 h.ap (fun g hg => (h.rq.new_all g hg).1), hc, fun g hg hm => ?_⟩
  rcases List.mem_cons.1 hm with rfl | hm
  · exact h.ap g hg (by simp)
  · rcases hs.2 with e | ⟨b, e, hb⟩
    · rw [e] at hm; exact h.ap g hg (List.mem_cons_of_mem _ hm)
    · rw [e] at hm
      obtain rfl : g = b := by simpa using hm
      have := (h.co.new_all g hg).2
      omega
theorem cr_start {w0 w : World} {C : Nat} (h : CO w0 w C (.map none) [] 0) : CR w0 (w.alloc (.cells #[.slice none 0 0] 29)) C w.heap.size (.map none) (.slice none 0 0) [] [] 0 := by
  have hb : Below w.heap.size w (w.alloc (.cells #[.slice none 0 0] 29)) := (Below.refl _ w).alloc (Nat.le_refl _) _
  refine ⟨h.below hb, ⟨heap_alloc_new w _, h.bel.size, ⟨rfl, .inl ⟨rfl, rfl⟩⟩, h.bel.trans (hb.mono h.bel.size)⟩, fun g hg => ?_⟩
  have := (h.new_all g hg).2
  intro hm
  obtain rfl : g = w.heap.size := by simpa [Value.ownBlock] using hm
  omega
end Go.Proofs.Ytocdjaenhllemaa
