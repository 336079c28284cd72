/-
  Two: Two hashers side by side; one byte, or a part, of a slice that came in.
  One: One hasher, and a row of bytes of the call's own that is written in place.
-/
import Derived.Test.YtfgdddejpdjllaaDoorLaid
import Derived.Stop.BytesEq
import Derived.Laws.IdiomStrings
namespace Go.Proofs.YtfgdddejpdjllaaDoor
set_option maxRecDepth 4000
open Go.RowKit

/-- What is kept while two hashers of the call's own are used. -/
structure Two (w W : World) (g h : Nat) (s t : List Int) : Prop where
  bel : Below w.heap.size w W
  kt : KT W
  hg : Has W g s
  hh : Has W h t
  gl : w.heap.size ≤ g
  hl : w.heap.size ≤ h
  ne : g ≠ h
theorem Two.below {w W W' : World} {g h : Nat} {s t : List Int} (q : Two w W g h s t) (hb : Below W.heap.size W W') : Two w W' g h s t :=
  ⟨q.bel.trans (hb.mono q.bel.size), q.kt.below hb q.kt.pos, q.hg.below hb q.hg.lt, q.hh.below hb q.hh.lt, q.gl, q.hl, q.ne⟩
theorem Has.grown {w w' : World} {b g : Nat} {s : List Int} (h : Has w b s) (hg : w.grownBy w' (some g)) (hne : b ≠ g) : Has w' b s := by
  obtain ⟨st, rest, h1, h2⟩ := h
  exact ⟨st, rest, (hg.block b (lt_of_block h1) (fun e => hne (Option.some.inj e))).trans h1, h2⟩
theorem Two.pos {w W : World} {g h : Nat} {s t : List Int} (q : Two w W g h s t) (hw : 0 < w.heap.size) : g ≠ 0 ∧ h ≠ 0 := ⟨by have := q.gl; omega, by have := q.hl; omega⟩
theorem Two.left {w W W' : World} {g h : Nat} {s t s' : List Int} (q : Two w W g h s t) (hw : 0 < w.heap.size) (hg : W.grownBy W' (some g)) (hs : Has W' g s') : Two w W' g h s' t :=
  ⟨q.bel.grown hg q.bel.size (fun k hk => by obtain rfl := Option.some.inj hk; exact q.gl), q.kt.grown hg (q.pos hw).1, hs, q.hh.grown hg (fun e => q.ne e.symm), q.gl, q.hl, q.ne⟩
theorem Two.right {w W W' : World} {g h : Nat} {s t t' : List Int} (q : Two w W g h s t) (hw : 0 < w.heap.size) (hg : W.grownBy W' (some h)) (hs : Has W' h t') : Two w W' g h s t' :=
  ⟨q.bel.grown hg q.bel.size (fun k hk => by obtain rfl := Option.some.inj hk; exact q.hl), q.kt.grown hg (q.pos hw).2, q.hg.grown hg q.ne, hs, q.gl, q.hl, q.ne⟩
theorem Two.lts {w W : World} {g h : Nat} {s t : List Int} (q : Two w W g h s t) : g < W.heap.size ∧ h < W.heap.size := ⟨q.hg.lt, q.hh.lt⟩

theorem room_of (a : Option Addr) (n c : Nat) (h : n ≤ c) (hc : c ≤ 9223372036854775807) : Room (.slice a n c) := by
  intro a' n' c' e
  injection e with e1 e2 e3
  subst e2; subst e3
  exact ⟨h, hc⟩
/-- A slice that reads as some bytes lies elsewhere than a block that came later. -/
theorem off_old {w : World} {v : Value} {l : List Int} {b : Nat} (h : BS w v l) (hb : w.heap.size ≤ b) : Off b v := h.off_new hb

theorem bound_ok (k y : Nat) (c : BoundsCode) (h : k ≤ y) (W : World) : (Instr.sliceBound (.int .i64 (k : Int)) y c).run Tryd.prog W = .ok k W := by
  have hle : (k : Int) ≤ (y : Int) := by omega
  simp [Instr.sliceBound, asIntOf, hle]
/-- Part of a slice. -/
theorem slice_seg (W : World) (a : Option Addr) (len cap lo hi : Nat) (l : List Int) (hB : BS W (.slice a len cap) l) (hl : l.length = len) (h1 : lo ≤ hi) (h2 : hi ≤ len) (h3 : len ≤ cap) :
    ∃ a2 : Option Addr, (∀ W', (Instr.slice 22 (.slice a len cap) (some (.int .i64 (lo : Int))) (some (.int .i64 (hi : Int))) none).run Tryd.prog W' = .ok (.slice a2 (hi - lo) (cap - lo)) W') ∧
      (hi = len → ∀ W', (Instr.slice 22 (.slice a len cap) (some (.int .i64 (lo : Int))) none none).run Tryd.prog W' = .ok (.slice a2 (hi - lo) (cap - lo)) W') ∧
      (lo = 0 → ∀ W', (Instr.slice 22 (.slice a len cap) none (some (.int .i64 (hi : Int))) none).run Tryd.prog W' = .ok (.slice a2 (hi - lo) (cap - lo)) W') ∧
      BS W (.slice a2 (hi - lo) (cap - lo)) ((l.drop lo).take (hi - lo)) := by
  obtain ⟨i0, hi0, hs⟩ := Option.map_eq_some_iff.1 one_u8
  obtain ⟨a', cap', he, hy, hn, hc⟩ := hB
  injection he with e1 e2 e3
  subst e1; subst e3
  have hlen : ((l.drop lo).take (hi - lo)).length = hi - lo := by rw [List.length_take, List.length_drop]; omega
  have hyy : Byt ((l.drop lo).take (hi - lo)) := fun z hz => hy z (List.mem_of_mem_drop (List.mem_of_mem_take hz))
  refine ⟨if cap = lo then a else a.map (·.add (lo * 1)), ?_, ?_, ?_, ?_⟩
  · intro W'
    have b1 := bound_ok hi cap .sliceAcap (by omega) W'
    have b2 := bound_ok lo hi .sliceB h1 W'
    simp [Instr.slice, run_underlying Tryd.underlying22, Instr.sliceBounds, sizeOf, typeInfo, hi0, hs, b1, b2]
  · rintro rfl W'
    have b2 := bound_ok lo hi .sliceB h1 W'
    simp [Instr.slice, run_underlying Tryd.underlying22, Instr.sliceBounds, sizeOf, typeInfo, hi0, hs, b2]
  · rintro rfl W'
    have b1 := bound_ok hi cap .sliceAcap (by omega) W'
    simp [Instr.slice, run_underlying Tryd.underlying22, Instr.sliceBounds, sizeOf, typeInfo, hi0, b1]
  · refine ⟨_, _, by rw [hlen], hyy, ?_, ?_⟩
    · intro hnone
      cases a with
      | none => have := hn rfl; omega
      | some x =>
        by_cases h : cap = lo
        · omega
        · simp [h] at hnone
    · by_cases h0 : (l.drop lo).take (hi - lo) = []
      · exact .inl h0
      · right
        have hpos : 0 < hi - lo := by rw [← hlen]; exact List.length_pos_iff.2 h0
        rcases hc with hc | ⟨b, off, rfl, hc⟩
        · subst hc; simp at hl; omega
        · refine ⟨b, off + lo, ?_, fun i hi' => ?_⟩
          · rw [if_neg (by omega)]
            simp [Addr.add_mid]
          · rw [hlen] at hi'
            have := hc (lo + i) (by omega)
            rw [← Nat.add_assoc] at this
            rw [this, List.getD_eq_getElem?_getD, List.getD_eq_getElem?_getD, List.getElem?_take, if_pos hi', List.getElem?_drop]
theorem eq_hash_same (x : List Int) (hx : x.length = 32) (hy : Byt x) (w : World) : (Op.equalIn 10000 26 (.agg (u8s x)) (.agg (u8s x))).run Tryd.prog w = .ok true w := by
  obtain ⟨i0, hi, hs⟩ := Option.map_eq_some_iff.1 one_u8
  have e : u8s x = ((x.map fun n => UInt8.ofNat n.toNat).map Extern.Stop.cell).toArray := by
    unfold u8s
    rw [List.map_map]
    congr 1
    apply List.map_congr_left
    intro z hz
    have := hy z hz
    simp only [Function.comp, Extern.Stop.cell]
    congr 1
    simp
    omega
  rw [e, run_equalIn_bytes w 9998 26 5 32 Tryd.underlying26 Tryd.underlying5 (fun w => by simp [sizeOf, typeInfo, hi, hs]) _ _ (by simpa using hx) (by simpa using hx)]
  simp
/-- A row that holds a hash, in a world that came later. -/
theorem ArrB.range {w : World} {g t : Nat} {l : List Int} (h : ArrB w g t l) : w.rangeAt g 0 (u8s l).toList := fun j v hv => by
  rw [Nat.zero_add, cell_of_row _ _ _ _ _ _ h, ← Array.getElem?_toList]; exact hv
/-- A new row that was filled at once. -/
theorem fresh_row (w : World) (old cs : Array Value) (T : TypeId) : ∀ W, W = (w.alloc (.cells old T)).setRow w.heap.size cs →
    W.heap[w.heap.size]? = some (.cells cs T (0, 0)) ∧ W.heap.size = w.heap.size + 1 ∧ Below w.heap.size w W := by
  rintro W rfl
  exact ⟨setRow_heap _ _ _ cs _ _ (heap_alloc_new w _), by simp, ((Below.refl w.heap.size w).alloc (Nat.le_refl _) _).trans ⟨rfl, rfl, rfl, by simp, fun k hk => setRow_other _ _ k cs (by omega)⟩⟩
theorem ArrB.grown {w w' : World} {b g t : Nat} {l : List Int} (h : ArrB w b t l) (hg : w.grownBy w' (some g)) (hne : b ≠ g) : ArrB w' b t l :=
  (hg.block b (lt_of_block h) (fun e => hne (Option.some.inj e))).trans h
theorem ArrB.lt {w : World} {b t : Nat} {l : List Int} (h : ArrB w b t l) : b < w.heap.size := lt_of_block h
/-- 'append([]byte{}, ..)' begins with an empty row of the call's own. -/
theorem own_empty (w : World) : (w.alloc (.cells #[] 5)).ownsRow w.heap.size 5 1 (.slice (some ⟨w.heap.size, 0, none⟩) 0 0) 0 [] :=
  World.ownsRow_lit (base := w.heap.size) (e := 5) (size := 1) w #[] 0 (Nat.le_refl _) (by unfold maxLen; omega) rfl
theorem own_bs2 {w : World} {base n : Nat} {v : Value} {l : List Int} (h : w.ownsRow base 5 1 v n (l.map (Value.int .u8))) (hl : l.length = n) (hb : Byt l) : BS w v l := BS.of_own h hl hb
end Go.Proofs.YtfgdddejpdjllaaDoor

namespace Go.Proofs.YtfgdddejpdjllaaDoor
set_option maxRecDepth 4000
open Go.RowKit

/-- What is kept while one hasher of the call's own is used. -/
structure One (w W : World) (h : Nat) (t : List Int) : Prop where
  bel : Below w.heap.size w W
  kt : KT W
  hh : Has W h t
  hl : w.heap.size ≤ h
theorem One.below {w W W' : World} {h : Nat} {t : List Int} (q : One w W h t) (hb : Below W.heap.size W W') : One w W' h t :=
  ⟨q.bel.trans (hb.mono q.bel.size), q.kt.below hb q.kt.pos, q.hh.below hb q.hh.lt, q.hl⟩
theorem One.pos {w W : World} {h : Nat} {t : List Int} (q : One w W h t) (hw : 0 < w.heap.size) : h ≠ 0 := by have := q.hl; omega
theorem One.put {w W W' : World} {h : Nat} {t t' : List Int} (q : One w W h t) (hw : 0 < w.heap.size) (hg : W.grownBy W' (some h)) (hs : Has W' h t') : One w W' h t' :=
  ⟨q.bel.grown hg q.bel.size (fun k hk => by obtain rfl := Option.some.inj hk; exact q.hl), q.kt.grown hg (q.pos hw), hs, q.hl⟩
theorem One.cell {w W : World} {h : Nat} {t : List Int} (q : One w W h t) (hw : 0 < w.heap.size) (g o : Nat) (v : Value) (hg : w.heap.size ≤ g) (hne : h ≠ g) : One w (W.setCell ⟨g, o, none⟩ v) h t := by
  refine ⟨q.bel.setCell (p := ⟨g, o, none⟩) hg v, ?_, ?_, q.hl⟩
  · exact q.kt.grown (b := g) ⟨rfl, rfl, rfl, by simp [World.setCell], fun k _ hk => Below.heap_setCell _ _ _ _ (fun e => hk (by rw [e]))⟩ (by omega)
  · obtain ⟨st, rest, h1, h2⟩ := q.hh
    exact ⟨st, rest, (Below.heap_setCell _ _ _ _ hne).trans h1, h2⟩
theorem One.lt {w W : World} {h : Nat} {t : List Int} (q : One w W h t) : h < W.heap.size := q.hh.lt

/-- Part of a slice, and where it lies. -/
theorem slice_part (W : World) (a : Option Addr) (len cap lo hi : Nat) (l : List Int) (hB : BS W (.slice a len cap) l) (hl : l.length = len) (h1 : lo ≤ hi) (h2 : hi ≤ len) (h3 : len ≤ cap) :
    ∃ a2 : Option Addr, (∀ W', (Instr.slice 22 (.slice a len cap) (some (.int .i64 (lo : Int))) (some (.int .i64 (hi : Int))) none).run Tryd.prog W' = .ok (.slice a2 (hi - lo) (cap - lo)) W') ∧
      (hi = len → ∀ W', (Instr.slice 22 (.slice a len cap) (some (.int .i64 (lo : Int))) none none).run Tryd.prog W' = .ok (.slice a2 (hi - lo) (cap - lo)) W') ∧
      (lo = 0 → ∀ W', (Instr.slice 22 (.slice a len cap) none (some (.int .i64 (hi : Int))) none).run Tryd.prog W' = .ok (.slice a2 (hi - lo) (cap - lo)) W') ∧
      BS W (.slice a2 (hi - lo) (cap - lo)) ((l.drop lo).take (hi - lo)) ∧ (∀ b : Nat, (∀ x, a = some x → x.block ≠ b) → Off b (.slice a2 (hi - lo) (cap - lo))) := by
  obtain ⟨i0, hi0, hs⟩ := Option.map_eq_some_iff.1 one_u8
  obtain ⟨a', cap', he, hy, hn, hc⟩ := hB
  injection he with e1 e2 e3
  subst e1; subst e3
  have hlen : ((l.drop lo).take (hi - lo)).length = hi - lo := by rw [List.length_take, List.length_drop]; omega
  have hyy : Byt ((l.drop lo).take (hi - lo)) := fun z hz => hy z (List.mem_of_mem_drop (List.mem_of_mem_take hz))
  refine ⟨if cap = lo then a else a.map (·.add (lo * 1)), ?_, ?_, ?_, ?_⟩
  · intro W'
    have b1 := bound_ok hi cap .sliceAcap (by omega) W'
    have b2 := bound_ok lo hi .sliceB h1 W'
    simp [Instr.slice, run_underlying Tryd.underlying22, Instr.sliceBounds, sizeOf, typeInfo, hi0, hs, b1, b2]
  · rintro rfl W'
    have b2 := bound_ok lo hi .sliceB h1 W'
    simp [Instr.slice, run_underlying Tryd.underlying22, Instr.sliceBounds, sizeOf, typeInfo, hi0, hs, b2]
  · rintro rfl W'
    have b1 := bound_ok hi cap .sliceAcap (by omega) W'
    simp [Instr.slice, run_underlying Tryd.underlying22, Instr.sliceBounds, sizeOf, typeInfo, hi0, b1]
  · refine ⟨⟨_, _, by rw [hlen], hyy, ?_, ?_⟩, ?_⟩
    rotate_left 2
    · intro b hb x n c e _
      injection e with e1 _ _
      by_cases h : cap = lo
      · rw [if_pos h] at e1
        exact hb x e1
      · rw [if_neg h] at e1
        cases a with
        | none => cases e1
        | some y =>
          injection e1 with e1
          rw [← e1]
          have := hb y rfl
          unfold Addr.add
          split <;> exact this
    · intro hnone
      cases a with
      | none => have := hn rfl; omega
      | some x =>
        by_cases h : cap = lo
        · omega
        · simp [h] at hnone
    · by_cases h0 : (l.drop lo).take (hi - lo) = []
      · exact .inl h0
      · right
        have hpos : 0 < hi - lo := by rw [← hlen]; exact List.length_pos_iff.2 h0
        rcases hc with hc | ⟨b, off, rfl, hc⟩
        · subst hc; simp at hl; omega
        · refine ⟨b, off + lo, ?_, fun i hi' => ?_⟩
          · rw [if_neg (by omega)]
            simp [Addr.add_mid]
          · rw [hlen] at hi'
            have := hc (lo + i) (by omega)
            rw [← Nat.add_assoc] at this
            rw [this, List.getD_eq_getElem?_getD, List.getD_eq_getElem?_getD, List.getElem?_take, if_pos hi', List.getElem?_drop]
/-- The first n bytes, each one more. -/
def incP (l : List Int) (n : Nat) : List Int := (List.range l.length).map fun j => if j < n then (l.getD j 0 + 1) % 256 else l.getD j 0
theorem incP_length (l : List Int) (n : Nat) : (incP l n).length = l.length := by simp [incP]
theorem incP_zero (l : List Int) : incP l 0 = l := by
  apply List.ext_getElem (by simp [incP])
  intro j h1 h2
  simp [incP, h2]
theorem incP_at (l : List Int) (n : Nat) (h : n < l.length) : (incP l n).getD n 0 = l.getD n 0 := by simp [incP, h]
theorem incP_at' (l : List Int) (n : Nat) (h : n < l.length) : (incP l (n + 1)).getD n 0 = (l.getD n 0 + 1) % 256 := by simp [incP, h]
theorem incP_set (l : List Int) (n : Nat) : (incP l n).set n ((l.getD n 0 + 1) % 256) = incP l (n + 1) := by
  apply List.ext_getElem (by simp [incP])
  intro j h1 h2
  rw [List.getElem_set]
  simp only [incP, List.getElem_map, List.getElem_range]
  by_cases hj : n = j
  · subst hj; simp
  · rw [if_neg hj]
    by_cases hl : j < n
    · rw [if_pos hl, if_pos (by omega)]
    · rw [if_neg hl, if_neg (by omega)]
/-- What came up to k, and has gone down again up to n. -/
def decP (l : List Int) (k n : Nat) : List Int := (List.range l.length).map fun j => if j < n then l.getD j 0 else if j < k then (l.getD j 0 + 1) % 256 else l.getD j 0
theorem decP_length (l : List Int) (k n : Nat) : (decP l k n).length = l.length := by simp [decP]
theorem decP_zero (l : List Int) (k : Nat) : decP l k 0 = incP l k := by
  apply List.ext_getElem (by simp [incP, decP])
  intro j h1 h2
  simp [incP, decP]
theorem decP_at (l : List Int) (k n : Nat) (h : n < k) (hl : n < l.length) : (decP l k n).getD n 0 = (l.getD n 0 + 1) % 256 := by simp [decP, h, hl]
theorem decP_set (l : List Int) (k n : Nat) : (decP l k n).set n (l.getD n 0) = decP l k (n + 1) := by
  apply List.ext_getElem (by simp [decP])
  intro j h1 h2
  rw [List.getElem_set]
  simp only [decP, List.getElem_map, List.getElem_range]
  by_cases hj : n = j
  · subst hj; simp
  · rw [if_neg hj]
    by_cases hl : j < n
    · rw [if_pos hl, if_pos (by omega)]
    · rw [if_neg hl, if_neg (by omega : ¬ j < n + 1)]
theorem decP_full (l : List Int) (k : Nat) : decP l k k = l := by
  apply List.ext_getElem (by simp [decP])
  intro j h1 h2
  simp only [decP, List.getElem_map, List.getElem_range]
  by_cases hl : j < k
  · rw [if_pos hl]; simp [h2]
  · rw [if_neg hl, if_neg hl]; simp [h2]
theorem incP_byt (l : List Int) (hl : Byt l) (n : Nat) : Byt (incP l n) := by
  intro z hz
  simp only [incP, List.mem_map] at hz
  obtain ⟨j, _, rfl⟩ := hz
  obtain ⟨h0, h1⟩ := byt_at l hl j
  rw [← List.getD_eq_getElem?_getD] at h0 h1
  split
  · omega
  · exact ⟨h0, h1⟩
theorem incP_drop (l : List Int) (n : Nat) : (incP l n).drop n = l.drop n := by
  apply List.ext_getElem (by simp [incP])
  intro j h1 h2
  simp only [List.length_drop] at h2
  simp only [List.getElem_drop, incP, List.getElem_map, List.getElem_range]
  rw [if_neg (by omega)]
  simp
  rw [List.getElem?_eq_getElem (by omega)]
  rfl
end Go.Proofs.YtfgdddejpdjllaaDoor
