/-
  Slices of pointers cut and appended; two Counts of a law's own.
-/
import Derived.Test.YtbnclmlbennhaaaSm
import Derived.Test.YtbnclmlbennhaaaLays
namespace Go.Proofs.Ytbnclmlbennhaaa
section
set_option maxRecDepth 4000
open Go.ChangeShapes Go.WideShapes Go.ChangeAt Go.RowKit

theorem lit_noptr (W : World) : (Instr.buildSlice 54 0 #[]).run Try.prog W = .ok (.slice (some ⟨W.heap.size, 0, none⟩) 0 0) (W.alloc (.cells #[] 27)) := by
  obtain ⟨i, hi, hs⟩ := Option.map_eq_some_iff.1 (show (Try.prog.info? 27).map (·.size) = some 34 by kernel_rfl)
  simp [Instr.buildSlice, run_underlying Try.underlying54, sizeOf, typeInfo, hi, Instr.fill, newRow]
  exact congrArg (fun x => W.alloc (Obj.cells x 27)) (Array.eq_empty_of_size_eq_zero (by simp))
theorem append_ps (w : World) (B n : Nat) (v u : Value) (xs l : List PtrV) (hown : w.ownsRow B 27 34 v n (rowsP xs)) (hu : PS w u l) (h1 : n ≤ 1000000) (h2 : l.length ≤ 1000000) (hB : B ≤ w.heap.size) :
    ∃ a c w', (Builtin.append_ #[54, 54] 54 #[v, u]).run Try.prog w = .ok (.slice a (n + l.length) c) w' ∧ w'.ownsRow B 27 34 (.slice a (n + l.length) c) (n + l.length) (rowsP (xs ++ l)) ∧ w.grownBy w' v.ownBlock ∧ ((Value.slice a (n + l.length) c).ownBlock = v.ownBlock ∨ (Value.slice a (n + l.length) c).ownBlock = some w.heap.size) := by
  obtain ⟨i0, hi, hz0, hz1, hz2⟩ := info_parts info_ptr
  obtain ⟨ad, cu, rfl, hc⟩ := hu
  have shp : ∀ (v' : Value) (w' : World) (ys : List Value), w'.ownsRow B 27 34 v' (n + l.length) ys → ∃ a c, v' = .slice a (n + l.length) c := fun v' w' ys ho => by
    rcases ho.2 with ⟨rfl, h0⟩ | ⟨g, cap, _, rfl, _⟩
    · exact ⟨none, 0, by rw [h0]⟩
    · exact ⟨_, _, rfl⟩
  cases ad with
  | none =>
    have hl : l = [] := by
      cases l with
      | nil => rfl
      | cons p l => obtain ⟨b, off, h, _⟩ := hc 0 p rfl; cases h
    subst hl
    have hr : (Builtin.append_ #[54, 54] 54 #[v, .slice none 0 cu]).run Try.prog w = .ok v w := by
      rcases hown.2 with ⟨rfl, rfl⟩ | ⟨g, cap, cur, rfl, _, _, hnc, _⟩
      · simp [Builtin.append_, run_underlying Try.underlying54, sizeOf, typeInfo, hi, Builtin.lenOf, Builtin.firstCells]
      · simp [Builtin.append_, run_underlying Try.underlying54, sizeOf, typeInfo, hi, Builtin.lenOf, Builtin.firstCells, hnc, storeCells]
    obtain ⟨a, c, rfl⟩ := shp v w _ hown
    exact ⟨a, c, w, hr, by simpa using hown, ⟨rfl, rfl, rfl, Nat.le_refl _, fun _ _ _ => rfl⟩, .inl rfl⟩
  | some ad =>
    obtain ⟨v', w', hr, ho, hg, _, hnb⟩ := run_append_own_at (P := Try.prog) w B 54 54 27 i0 _ 34 48 Try.underlying54 hi hz0 hz1 hz2 (by simp [Value.cells, ptrRow_length]) (by decide) v n (rowsP xs) hown ad l.length cu (rowsP l) (rowsP_length l) (fun j u hj => by
      have hjl : j < l.length * 34 := by have := (List.getElem?_eq_some_iff.1 hj).1; rwa [rowsP_length] at this
      have hd : j / 34 < l.length := by omega
      obtain ⟨b, off, he, hrg⟩ := hc (j / 34) l[j / 34] (List.getElem?_eq_getElem hd)
      obtain rfl := Option.some.inj he
      have e := rowsP_at l (j / 34) l[j / 34] (List.getElem?_eq_getElem hd) (j % 34) (by omega)
      rw [show j / 34 * 34 + j % 34 = j by omega, hj] at e
      have h3 := hrg (j % 34) u e.symm
      rw [Addr.add_mid]
      rw [show off + j / 34 * 34 + j % 34 = off + j by omega] at h3
      exact h3) (fun u hu => by
      obtain ⟨q, _, hq⟩ := List.mem_flatMap.1 hu
      exact ptrRow_cells1 q u hq) (by unfold maxLen; omega) (by omega) hB
    obtain ⟨a, c, rfl⟩ := shp v' w' _ ho
    exact ⟨a, c, w', hr, by rw [show rowsP (xs ++ l) = rowsP xs ++ rowsP l by simp [rowsP]]; exact ho, hg, hnb⟩
theorem cut_ps (W : World) (a : Option Addr) (len cap lo : Nat) (l : List PtrV) (h : PS W (.slice a len cap) l) (h1 : lo ≤ len) (h3 : len ≤ cap) :
    ∃ a2 : Option Addr, (∀ W', (Instr.slice 54 (.slice a len cap) (some (.int .i64 (lo : Int))) none none).run Try.prog W' = .ok (.slice a2 (len - lo) (cap - lo)) W') ∧ PS W (.slice a2 (len - lo) (cap - lo)) (l.drop lo) := by
  obtain ⟨i0, hi0, hs⟩ := Option.map_eq_some_iff.1 (show (Try.prog.info? 27).map (·.size) = some 34 by kernel_rfl)
  obtain ⟨a', c', he, hc⟩ := h
  injection he with e1 e2 e3
  subst e1; subst e3; subst e2
  refine ⟨if cap = lo then a else a.map (·.add (lo * 34)), ?_, ?_⟩
  · intro W'
    have b2 := ybound_ok lo l.length .sliceB h1 W'
    simp [Instr.slice, run_underlying Try.underlying54, Instr.sliceBounds, sizeOf, typeInfo, hi0, hs, b2]
  · refine ⟨_, _, by rw [List.length_drop], fun i q hq => ?_⟩
    rw [List.getElem?_drop] at hq
    have hlt := (List.getElem?_eq_some_iff.1 hq).1
    obtain ⟨b, off, e, hr⟩ := hc (lo + i) q hq
    subst e
    refine ⟨b, off + lo * 34, ?_, ?_⟩
    · rw [if_neg (by omega)]; simp [Addr.add_mid]
    · rw [show off + lo * 34 + i * 34 = off + (lo + i) * 34 by omega]; exact hr
theorem to_ps (W : World) (a : Option Addr) (len cap hi : Nat) (l : List PtrV) (h : PS W (.slice a len cap) l) (h1 : hi ≤ len) (h3 : len ≤ cap) :
    (∀ W', (Instr.slice 54 (.slice a len cap) none (some (.int .i64 (hi : Int))) none).run Try.prog W' = .ok (.slice (if cap = 0 then a else a.map (·.add 0)) hi cap) W') ∧ PS W (.slice (if cap = 0 then a else a.map (·.add 0)) hi cap) (l.take hi) := by
  obtain ⟨i0, hi0, hs⟩ := Option.map_eq_some_iff.1 (show (Try.prog.info? 27).map (·.size) = some 34 by kernel_rfl)
  obtain ⟨a', c', he, hc⟩ := h
  injection he with e1 e2 e3
  subst e1; subst e3; subst e2
  refine ⟨?_, ?_⟩
  · intro W'
    have b1 := ybound_ok hi cap .sliceAcap (by omega) W'
    simp [Instr.slice, run_underlying Try.underlying54, Instr.sliceBounds, sizeOf, typeInfo, hi0, hs, b1]
  · refine ⟨_, _, by rw [List.length_take, Nat.min_eq_left h1], fun i q hq => ?_⟩
    rw [List.getElem?_take] at hq
    split at hq
    · have hlt := (List.getElem?_eq_some_iff.1 hq).1
      obtain ⟨b, off, e, hr⟩ := hc i q hq
      subst e
      refine ⟨b, off, ?_, hr⟩
      rw [if_neg (by omega)]
      simp [Addr.add_mid]
    · cases hq
/-- Two Counts of a law's own, with nothing in common. -/
structure C2 (w0 w : World) (C D : Nat) (mv mv2 : Value) (L M : List PtrV) (K : Nat) : Prop where
  c : CO w0 w C mv L K
  d : CO w0 w D mv2 M K
  ap : ∀ g ∈ C :: mbl mv, g ∉ D :: mbl mv2
theorem C2.swap {w0 w : World} {C D : Nat} {mv mv2 : Value} {L M : List PtrV} {K : Nat} (h : C2 w0 w C D mv mv2 L M K) : C2 w0 w D C mv2 mv M L K := ⟨h.d, h.c, fun g h1 h2 => h.ap g h2 h1⟩
theorem C2.below {w0 w w' : World} {C D : Nat} {mv mv2 : Value} {L M : List PtrV} {K : Nat} (h : C2 w0 w C D mv mv2 L M K) (b : Below w.heap.size w w') : C2 w0 w' C D mv mv2 L M K := ⟨h.c.below b, h.d.below b, h.ap⟩
theorem CO.new_all {w0 w : World} {C K : Nat} {mv : Value} {L : List PtrV} (h : CO w0 w C mv L K) : ∀ g ∈ C :: mbl mv, w0.heap.size ≤ g ∧ g < w.heap.size := by
  intro g hg
  rcases List.mem_cons.1 hg with rfl | hg
  · exact ⟨h.new, h.lt⟩
  · exact ⟨(h.map.lt g hg).2.1, (h.map.lt g hg).1⟩
theorem C2.step {w0 w w' : World} {C D : Nat} {mv mv' mv2 : Value} {L L' M : List PtrV} {K : Nat} (h : C2 w0 w C D mv mv2 L M K) (hc : CO w0 w' C mv' L' (K + 1)) (hs : CStep w w' C mv mv') : C2 w0 w' C D mv' mv2 L' M (K + 1) := by
  refine ⟨hc, (h.d.touch hs.1 (fun g h1 h2 => h.ap g h2 h1) (fun g hg => (h.c.new_all g hg).1)).mono (by omega), fun g hg hm => ?_⟩
  rcases List.mem_cons.1 hg with rfl | hg
  · exact h.ap g (by simp) hm
  · rcases hs.2 with e | ⟨b, e, hb⟩
    · rw [e] at hg; exact h.ap g (by simp [hg]) hm
    · rw [e] at hg
      obtain rfl : g = b := by simpa using hg
      have := (h.d.new_all g hm).2
      omega
end
section
set_option maxRecDepth 4000
open Go.ChangeShapes Go.WideShapes Go.ChangeAt Go.RowKit

/-! ### the order of strings -/
theorem less_lex : ∀ (l r : List Int), Byt l → Byt r → Op.bytesLess (Lib.bytesOf l) (Lib.bytesOf r) = decide (lexI l r < 0)
  | [], [], _, _ => rfl
  | [], _ :: _, _, _ => rfl
  | _ :: _, [], _, _ => rfl
  | a :: l, b :: r, hx, hy => by
    have ih := less_lex l r (fun z hz => hx z (by simp [hz])) (fun z hz => hy z (by simp [hz]))
    have ha := hx a (by simp)
    have hb := hy b (by simp)
    have e : ∀ z : Int, 0 ≤ z ∧ z ≤ 255 → z.toNat.toUInt8.toNat = z.toNat := fun z hz => by simp; omega
    have h1 : (a.toNat.toUInt8 < b.toNat.toUInt8) ↔ a < b := by rw [UInt8.lt_iff_toNat_lt, e a ha, e b hb]; omega
    have h2 : (a.toNat.toUInt8 = b.toNat.toUInt8) ↔ a = b := by
      rw [← UInt8.toNat_inj, e a ha, e b hb]; omega
    show Op.bytesLess (a.toNat.toUInt8 :: Lib.bytesOf l) (b.toNat.toUInt8 :: Lib.bytesOf r) = _
    unfold Op.bytesLess lexI
    rw [ih]
    by_cases c1 : a < b
    · simp [h1, c1]
    · by_cases c2 : b < a
      · have c3 : ¬ a = b := by omega
        simp [h1, h2, c1, c2, c3]
      · have c3 : a = b := by omega
        subst c3
        simp
theorem str_less (l r : List Int) (hl : Byt l) (hr : Byt r) : Op.bytesLess (strOfNums l).toList (strOfNums r).toList = decide (lexI l r < 0) := by
  rw [Lib.strOfNums_toList, Lib.strOfNums_toList, less_lex l r hl hr]
theorem ord_cases {q p : PtrV} (h : nuP q < nuP p) : q.ad < p.ad ∨ (q.ad = p.ad ∧ q.bi < p.bi) ∨ (q.ad = p.ad ∧ q.bi = p.bi ∧ lexI q.su p.su < 0) := by
  have e := ordP_num q p
  rw [cmpI_lt h] at e
  unfold ordP at e
  rcases Int.lt_trichotomy q.ad p.ad with c | c | c
  · exact .inl c
  · rw [c, cmpI_self] at e
    simp only [ne_eq, not_true_eq_false, if_false] at e
    rcases Int.lt_trichotomy q.bi p.bi with d | d | d
    · exact .inr (.inl ⟨c, d⟩)
    · rw [d, cmpI_self] at e
      simp only [ne_eq, not_true_eq_false, if_false] at e
      exact .inr (.inr ⟨c, d, by omega⟩)
    · rw [cmpI_gt d] at e; simp at e
  · rw [cmpI_gt c] at e; simp at e
end
end Go.Proofs.Ytbnclmlbennhaaa
