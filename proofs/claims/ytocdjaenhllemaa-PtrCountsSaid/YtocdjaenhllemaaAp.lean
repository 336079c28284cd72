/-
  Slices of pointers cut and appended.
-/
import Derived.Test.YtocdjaenhllemaaSm
namespace Go.Proofs.Ytocdjaenhllemaa
set_option maxRecDepth 4000
open Go.ChangeShapes Go.WideShapes Go.ChangeAt Go.RowKit

theorem lit_noptr (W : World) : (Instr.buildSlice 27 0 #[]).run Try.prog W = .ok (.slice (some ⟨W.heap.size, 0, none⟩) 0 0) (W.alloc (.cells #[] 35)) := by
  obtain ⟨i, hi, hs⟩ := Option.map_eq_some_iff.1 (show (Try.prog.info? 35).map (·.size) = some 34 by kernel_rfl)
  simp [Instr.buildSlice, run_underlying Try.underlying27, sizeOf, typeInfo, hi, Instr.fill, newRow]
  exact congrArg (fun x => W.alloc (Obj.cells x 35)) (Array.eq_empty_of_size_eq_zero (by simp))
theorem append_ps (w : World) (B n : Nat) (v u : Value) (xs l : List PtrV) (hown : w.ownsRow B 35 34 v n (rowsP xs)) (hu : PS w u l) (h1 : n ≤ 1000000) (h2 : l.length ≤ 1000000) (hB : B ≤ w.heap.size) :
    ∃ a c w', (Builtin.append_ #[27, 27] 27 #[v, u]).run Try.prog w = .ok (.slice a (n + l.length) c) w' ∧ w'.ownsRow B 35 34 (.slice a (n + l.length) c) (n + l.length) (rowsP (xs ++ l)) ∧ w.grownBy w' v.ownBlock ∧ ((Value.slice a (n + l.length) c).ownBlock = v.ownBlock ∨ (Value.slice a (n + l.length) c).ownBlock = some w.heap.size) := by
  obtain ⟨i0, hi, hz0, hz1, hz2⟩ := info_parts info_ptr
  obtain ⟨ad, cu, rfl, hc⟩ := hu
  have shp : ∀ (v' : Value) (w' : World) (ys : List Value), w'.ownsRow B 35 34 v' (n + l.length) ys → ∃ a c, v' = .slice a (n + l.length) c := fun v' w' ys ho => by
    rcases ho.2 with ⟨rfl, h0⟩ | ⟨g, cap, _, rfl, _⟩
    · exact ⟨none, 0, by rw [h0]⟩
    · exact ⟨_, _, rfl⟩
  cases ad with
  | none =>
    have hl : l = [] := by
      cases l with
      | nil => rfl
      | cons p l => obtain ⟨b, off, h, _⟩ := hc 0 p rfl; cases h
    subst hl
    have hr : (Builtin.append_ #[27, 27] 27 #[v, .slice none 0 cu]).run Try.prog w = .ok v w := by
      rcases hown.2 with ⟨rfl, rfl⟩ | ⟨g, cap, cur, rfl, _, _, hnc, _⟩
      · simp [Builtin.append_, run_underlying Try.underlying27, sizeOf, typeInfo, hi, Builtin.lenOf, Builtin.firstCells]
      · simp [Builtin.append_, run_underlying Try.underlying27, sizeOf, typeInfo, hi, Builtin.lenOf, Builtin.firstCells, hnc, storeCells]
    obtain ⟨a, c, rfl⟩ := shp v w _ hown
    exact ⟨a, c, w, hr, by simpa using hown, ⟨rfl, rfl, rfl, Nat.le_refl _, fun _ _ _ => rfl⟩, .inl rfl⟩
  | some ad =>
    obtain ⟨v', w', hr, ho, hg, _, hnb⟩ := run_append_own_at (P := Try.prog) w B 27 27 35 i0 _ 34 48 Try.underlying27 hi hz0 hz1 hz2 (by simp [Value.cells, ptrRow_length]) (by decide) v n (rowsP xs) hown ad l.length cu (rowsP l) (rowsP_length l) (fun j u hj => by
      have hjl : j < l.length * 34 := by have := (List.getElem?_eq_some_iff.1 hj).1; rwa [rowsP_length] at this
      have hd : j / 34 < l.length := by omega
      obtain ⟨b, off, he, hrg⟩ := hc (j / 34) l[j / 34] (List.getElem?_eq_getElem hd)
      obtain rfl := Option.some.inj he
      have e := rowsP_at l (j / 34) l[j / 34] (List.getElem?_eq_getElem hd) (j % 34) (by omega)
      rw [show j / 34 * 34 + j % 34 = j by omega, hj] at e
      have h3 := hrg (j % 34) u e.symm
      rw [Addr.add_mid]
      rw [show off + j / 34 * 34 + j % 34 = off + j by omega] at h3
      exact h3) (fun u hu => by
      obtain ⟨q, _, hq⟩ := List.mem_flatMap.1 hu
      exact ptrRow_cells1 q u hq) (by unfold maxLen; omega) (by omega) hB
    obtain ⟨a, c, rfl⟩ := shp v' w' _ ho
    exact ⟨a, c, w', hr, by rw [show rowsP (xs ++ l) = rowsP xs ++ rowsP l by simp [rowsP]]; exact ho, hg, hnb⟩
theorem cut_ps (W : World) (a : Option Addr) (len cap lo : Nat) (l : List PtrV) (h : PS W (.slice a len cap) l) (h1 : lo ≤ len) (h3 : len ≤ cap) :
    ∃ a2 : Option Addr, (∀ W', (Instr.slice 27 (.slice a len cap) (some (.int .i64 (lo : Int))) none none).run Try.prog W' = .ok (.slice a2 (len - lo) (cap - lo)) W') ∧ PS W (.slice a2 (len - lo) (cap - lo)) (l.drop lo) := by
  obtain ⟨i0, hi0, hs⟩ := Option.map_eq_some_iff.1 (show (Try.prog.info? 35).map (·.size) = some 34 by kernel_rfl)
  obtain ⟨a', c', he, hc⟩ := h
  injection he with e1 e2 e3
  subst e1; subst e3; subst e2
  refine ⟨if cap = lo then a else a.map (·.add (lo * 34)), ?_, ?_⟩
  · intro W'
    have b2 := ybound_ok lo l.length .sliceB h1 W'
    simp [Instr.slice, run_underlying Try.underlying27, Instr.sliceBounds, sizeOf, typeInfo, hi0, hs, b2]
  · refine ⟨_, _, by rw [List.length_drop], fun i q hq => ?_⟩
    rw [List.getElem?_drop] at hq
    have hlt := (List.getElem?_eq_some_iff.1 hq).1
    obtain ⟨b, off, e, hr⟩ := hc (lo + i) q hq
    subst e
    refine ⟨b, off + lo * 34, ?_, ?_⟩
    · rw [if_neg (by omega)]; simp [Addr.add_mid]
    · rw [show off + lo * 34 + i * 34 = off + (lo + i) * 34 by omega]; exact hr
theorem to_ps (W : World) (a : Option Addr) (len cap hi : Nat) (l : List PtrV) (h : PS W (.slice a len cap) l) (h1 : hi ≤ len) (h3 : len ≤ cap) :
    (∀ W', (Instr.slice 27 (.slice a len cap) none (some (.int .i64 (hi : Int))) none).run Try.prog W' = .ok (.slice (if cap = 0 then a else a.map (·.add 0)) hi cap) W') ∧ PS W (.slice (if cap = 0 then a else a.map (·.add 0)) hi cap) (l.take hi) := by
  obtain ⟨i0, hi0, hs⟩ := Option.map_eq_some_iff.1 (show (Try.prog.info? 35).map (·.size) = some 34 by kernel_rfl)
  obtain ⟨a', c', he, hc⟩ := h
  injection he with e1 e2 e3
  subst e1; subst e3; subst e2
  refine ⟨?_, ?_⟩
  · intro W'
    have b1 := ybound_ok hi cap .sliceAcap (by omega) W'
    simp [Instr.slice, run_underlying Try.underlying27, Instr.sliceBounds, sizeOf, typeInfo, hi0, hs, b1]
  · refine ⟨_, _, by rw [List.length_take, Nat.min_eq_left h1], fun i q hq => ?_⟩
    rw [List.getElem?_take] at hq
    split at hq
    · have hlt := (List.getElem?_eq_some_iff.1 hq).1
      obtain ⟨b, off, e, hr⟩ := hc i q hq
      subst e
      refine ⟨b, off, ?_, hr⟩
      rw [if_neg (by omega)]
      simp [Addr.add_mid]
    · cases hq
end Go.Proofs.Ytocdjaenhllemaa
