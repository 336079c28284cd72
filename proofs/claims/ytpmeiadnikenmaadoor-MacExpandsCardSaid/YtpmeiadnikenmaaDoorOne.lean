/-
  One hasher, and a row of bytes of the call's own that is written in place.
-/
import Derived.Test.YtpmeiadnikenmaaDoorTwo
namespace Go.Proofs.YtpmeiadnikenmaaDoor
open Go.RowKit

/-- What is kept while one hasher of the call's own is used. -/
structure One (w W : World) (h : Nat) (t : List Int) : Prop where
  bel : Below w.heap.size w W
  kt : KT W
  hh : Has W h t
  hl : w.heap.size ≤ h
theorem One.below {w W W' : World} {h : Nat} {t : List Int} (q : One w W h t) (hb : Below W.heap.size W W') : One w W' h t :=
  ⟨q.bel.trans (hb.mono q.bel.size), q.kt.below hb q.kt.pos, q.hh.below hb q.hh.lt, q.hl⟩
theorem One.pos {w W : World} {h : Nat} {t : List Int} (q : One w W h t) (hw : 0 < w.heap.size) : h ≠ 0 := by have := q.hl; omega
theorem One.put {w W W' : World} {h : Nat} {t t' : List Int} (q : One w W h t) (hw : 0 < w.heap.size) (hg : W.grownBy W' (some h)) (hs : Has W' h t') : One w W' h t' :=
  ⟨q.bel.grown hg q.bel.size (fun k hk => by obtain rfl := Option.some.inj hk; exact q.hl), q.kt.grown hg (q.pos hw), hs, q.hl⟩
theorem One.cell {w W : World} {h : Nat} {t : List Int} (q : One w W h t) (hw : 0 < w.heap.size) (g o : Nat) (v : Value) (hg : w.heap.size ≤ g) (hne : h ≠ g) : One w (W.setCell ⟨g, o, none⟩ v) h t := by
  refine ⟨q.bel.setCell (p := ⟨g, o, none⟩) hg v, ?_, ?_, q.hl⟩
  · exact q.kt.grown (b := g) ⟨rfl, rfl, rfl, by simp [World.setCell], fun k _ hk => Below.heap_setCell _ _ _ _ (fun e => hk (by rw [e]))⟩ (by omega)
  · obtain ⟨st, rest, h1, h2⟩ := q.hh
    exact ⟨st, rest, (Below.heap_setCell _ _ _ _ hne).trans h1, h2⟩
theorem One.lt {w W : World} {h : Nat} {t : List Int} (q : One w W h t) : h < W.heap.size := q.hh.lt

/-- Part of a slice, and where it lies. -/
theorem slice_part (W : World) (a : Option Addr) (len cap lo hi : Nat) (l : List Int) (hB : BS W (.slice a len cap) l) (hl : l.length = len) (h1 : lo ≤ hi) (h2 : hi ≤ len) (h3 : len ≤ cap) :
    ∃ a2 : Option Addr, (∀ W', (Instr.slice 22 (.slice a len cap) (some (.int .i64 (lo : Int))) (some (.int .i64 (hi : Int))) none).run Tryd.prog W' = .ok (.slice a2 (hi - lo) (cap - lo)) W') ∧
      (hi = len → ∀ W', (Instr.slice 22 (.slice a len cap) (some (.int .i64 (lo : Int))) none none).run Tryd.prog W' = .ok (.slice a2 (hi - lo) (cap - lo)) W') ∧
      (lo = 0 → ∀ W', (Instr.slice 22 (.slice a len cap) none (some (.int .i64 (hi : Int))) none).run Tryd.prog W' = .ok (.slice a2 (hi - lo) (cap - lo)) W') ∧
      BS W (.slice a2 (hi - lo) (cap - lo)) ((l.drop lo).take (hi - lo)) ∧ (∀ b : Nat, (∀ x, a = some x → x.block ≠ b) → Off b (.slice a2 (hi - lo) (cap - lo))) := by
  obtain ⟨i0, hi0, hs⟩ := Option.map_eq_some_iff.1 one_u8
  obtain ⟨a', cap', he, hy, hn, hc⟩ := hB
  injection he with e1 e2 e3
  subst e1; subst e3
  have hlen : ((l.drop lo).take (hi - lo)).length = hi - lo := by rw [List.length_take, List.length_drop]; omega
  have hyy : Byt ((l.drop lo).take (hi - lo)) := fun z hz => hy z (List.mem_of_mem_drop (List.mem_of_mem_take hz))
  refine ⟨if cap = lo then a else a.map (·.add (lo * 1)), ?_, ?_, ?_, ?_⟩
  · intro W'
    have b1 := bound_ok hi cap .sliceAcap (by omega) W'
    have b2 := bound_ok lo hi .sliceB h1 W'
    simp [Instr.slice, run_underlying Tryd.underlying22, Instr.sliceBounds, sizeOf, typeInfo, hi0, hs, b1, b2]
  · rintro rfl W'
    have b2 := bound_ok lo hi .sliceB h1 W'
    simp [Instr.slice, run_underlying Tryd.underlying22, Instr.sliceBounds, sizeOf, typeInfo, hi0, hs, b2]
  · rintro rfl W'
    have b1 := bound_ok hi cap .sliceAcap (by omega) W'
    simp [Instr.slice, run_underlying Tryd.underlying22, Instr.sliceBounds, sizeOf, typeInfo, hi0, b1]
  · refine ⟨⟨_, _, by rw [hlen], hyy, ?_, ?_⟩, ?_⟩
    rotate_left 2
    · intro b hb x n c e _
      injection e with e1 _ _
      by_cases h : cap = lo
      · rw [if_pos h] at e1
        exact hb x e1
      · rw [if_neg h] at e1
        cases a with
        | none => cases e1
        | some y =>
          injection e1 with e1
          rw [← e1]
          have := hb y rfl
          unfold Addr.add
          split <;> exact this
    · intro hnone
      cases a with
      | none => have := hn rfl; omega
      | some x =>
        by_cases h : cap = lo
        · omega
        · simp [h] at hnone
    · by_cases h0 : (l.drop lo).take (hi - lo) = []
      · exact .inl h0
      · right
        have hpos : 0 < hi - lo := by rw [← hlen]; exact List.length_pos_iff.2 h0
        rcases hc with hc | ⟨b, off, rfl, hc⟩
        · subst hc; simp at hl; omega
        · refine ⟨b, off + lo, ?_, fun i hi' => ?_⟩
          · rw [if_neg (by omega)]
            simp [Addr.add_mid]
          · rw [hlen] at hi'
            have := hc (lo + i) (by omega)
            rw [← Nat.add_assoc] at this
            rw [this, List.getD_eq_getElem?_getD, List.getD_eq_getElem?_getD, List.getElem?_take, if_pos hi', List.getElem?_drop]
/-- The first n bytes, each one more. -/
def incP (l : List Int) (n : Nat) : List Int := (List.range l.length).map fun j => if j < n then (l.getD j 0 + 1) % 256 else l.getD j 0
theorem incP_length (l : List Int) (n : Nat) : (incP l n).length = l.length := by simp [incP]
theorem incP_zero (l : List Int) : incP l 0 = l := by
  apply List.ext_getElem (by simp [incP])
  intro j h1 h2
  simp [incP, h2]
theorem incP_at (l : List Int) (n : Nat) (h : n < l.length) : (incP l n).getD n 0 = l.getD n 0 := by simp [incP, h]
theorem incP_at' (l : List Int) (n : Nat) (h : n < l.length) : (incP l (n + 1)).getD n 0 = (l.getD n 0 + 1) % 256 := by simp [incP, h]
theorem incP_set (l : List Int) (n : Nat) : (incP l n).set n ((l.getD n 0 + 1) % 256) = incP l (n + 1) := by
  apply List.ext_getElem (by simp [incP])
  intro j h1 h2
  rw [List.getElem_set]
  simp only [incP, List.getElem_map, List.getElem_range]
  by_cases hj : n = j
  · subst hj; simp
  · rw [if_neg hj]
    by_cases hl : j < n
    · rw [if_pos hl, if_pos (by omega)]
    · rw [if_neg hl, if_neg (by omega)]
/-- What came up to k, and has gone down again up to n. -/
def decP (l : List Int) (k n : Nat) : List Int := (List.range l.length).map fun j => if j < n then l.getD j 0 else if j < k then (l.getD j 0 + 1) % 256 else l.getD j 0
theorem decP_length (l : List Int) (k n : Nat) : (decP l k n).length = l.length := by simp [decP]
theorem decP_zero (l : List Int) (k : Nat) : decP l k 0 = incP l k := by
  apply List.ext_getElem (by simp [incP, decP])
  intro j h1 h2
  simp [incP, decP]
theorem decP_at (l : List Int) (k n : Nat) (h : n < k) (hl : n < l.length) : (decP l k n).getD n 0 = (l.getD n 0 + 1) % 256 := by simp [decP, h, hl]
theorem decP_set (l : List Int) (k n : Nat) : (decP l k n).set n (l.getD n 0) = decP l k (n + 1) := by
  apply List.ext_getElem (by simp [decP])
  intro j h1 h2
  rw [List.getElem_set]
  simp only [decP, List.getElem_map, List.getElem_range]
  by_cases hj : n = j
  · subst hj; simp
  · rw [if_neg hj]
    by_cases hl : j < n
    · rw [if_pos hl, if_pos (by omega)]
    · rw [if_neg hl, if_neg (by omega : ¬ j < n + 1)]
theorem decP_full (l : List Int) (k : Nat) : decP l k k = l := by
  apply List.ext_getElem (by simp [decP])
  intro j h1 h2
  simp only [decP, List.getElem_map, List.getElem_range]
  by_cases hl : j < k
  · rw [if_pos hl]; simp [h2]
  · rw [if_neg hl, if_neg hl]; simp [h2]
theorem incP_byt (l : List Int) (hl : Byt l) (n : Nat) : Byt (incP l n) := by
  intro z hz
  simp only [incP, List.mem_map] at hz
  obtain ⟨j, _, rfl⟩ := hz
  obtain ⟨h0, h1⟩ := byt_at l hl j
  rw [← List.getD_eq_getElem?_getD] at h0 h1
  split
  · omega
  · exact ⟨h0, h1⟩
theorem incP_drop (l : List Int) (n : Nat) : (incP l n).drop n = l.drop n := by
  apply List.ext_getElem (by simp [incP])
  intro j h1 h2
  simp only [List.length_drop] at h2
  simp only [List.getElem_drop, incP, List.getElem_map, List.getElem_range]
  rw [if_neg (by omega)]
  simp
  rw [List.getElem?_eq_getElem (by omega)]
  rfl
end Go.Proofs.YtpmeiadnikenmaaDoor
