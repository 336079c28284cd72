/-
  Slices of pointers cut and appended; two Counts of a law's own.
-/
import Derived.Test.YtocdjaenhllemaaAp
import Derived.Test.YtocdjaenhllemaaSf
import Derived.Test.YtocdjaenhllemaaCod0
namespace Go.Proofs.Ytocdjaenhllemaa
section
set_option maxRecDepth 4000
open Go.ChangeShapes Go.WideShapes Go.ChangeAt Go.RowKit

/-- Two Counts of a law's own, with nothing in common. -/
structure C2 (w0 w : World) (C D : Nat) (mv mv2 : Value) (L M : List PtrV) (K : Nat) : Prop where
  c : CO w0 w C mv L K
  d : CO w0 w D mv2 M K
  ap : ∀ g ∈ C :: mbl mv, g ∉ D :: mbl mv2
theorem C2.swap {w0 w : World} {C D : Nat} {mv mv2 : Value} {L M : List PtrV} {K : Nat} (h : C2 w0 w C D mv mv2 L M K) : C2 w0 w D C mv2 mv M L K := ⟨h.d, h.c, fun g h1 h2 => h.ap g h2 h1⟩
theorem C2.below {w0 w w' : World} {C D : Nat} {mv mv2 : Value} {L M : List PtrV} {K : Nat} (h : C2 w0 w C D mv mv2 L M K) (b : Below w.heap.size w w') : C2 w0 w' C D mv mv2 L M K := ⟨h.c.below b, h.d.below b, h.ap⟩
theorem CO.new_all {w0 w : World} {C K : Nat} {mv : Value} {L : List PtrV} (h : CO w0 w C mv L K) : ∀ g ∈ C :: mbl mv, w0.heap.size ≤ g ∧ g < w.heap.size := by
  intro g hg
  rcases List.mem_cons.1 hg with rfl | hg
  · exact ⟨h.new, h.lt⟩
  · exact ⟨(h.map.lt g hg).2.1, (h.map.lt g hg).1⟩
theorem C2.step {w0 w w' : World} {C D : Nat} {mv mv' mv2 : Value} {L L' M : List PtrV} {K : Nat} (h : C2 w0 w C D mv mv2 L M K) (hc : CO w0 w' C mv' L' (K + 1)) (hs : CStep w w' C mv mv') : C2 w0 w' C D mv' mv2 L' M (K + 1) := by
  refine ⟨hc, (h.d.touch hs.1 (fun g h1 h2 => h.ap g h2 h1) (fun g hg => (h.c.new_all g hg).1)).mono (by omega), fun g hg hm => ?_⟩
  rcases List.mem_cons.1 hg with rfl | hg
  · exact h.ap g (by simp) hm
  · rcases hs.2 with e | ⟨b, e, hb⟩
    · rw [e] at hg; exact h.ap g (by simp [hg]) hm
    · rw [e] at hg
      obtain rfl : g = b := by simpa using hg
      have := (h.d.new_all g hm).2
      omega
end
section
set_option maxRecDepth 4000
open Go.ChangeShapes Go.WideShapes Go.ChangeAt Go.RowKit

/-! ### the order of strings -/
theorem less_lex : ∀ (l r : List Int), Byt l → Byt r → Op.bytesLess (Lib.bytesOf l) (Lib.bytesOf r) = decide (lexI l r < 0)
  | [], [], _, _ => rfl
  | [], _ :: _, _, _ => rfl
  | _ :: _, [], _, _ => rfl
  | a :: l, b :: r, hx, hy => by
    have ih := less_lex l r (fun z hz => hx z (by simp [hz])) (fun z hz => hy z (by simp [hz]))
    have ha := hx a (by simp)
    have hb := hy b (by simp)
    have e : ∀ z : Int, 0 ≤ z ∧ z ≤ 255 → z.toNat.toUInt8.toNat = z.toNat := fun z hz => by simp; omega
    have h1 : (a.toNat.toUInt8 < b.toNat.toUInt8) ↔ a < b := by rw [UInt8.lt_iff_toNat_lt, e a ha, e b hb]; omega
    have h2 : (a.toNat.toUInt8 = b.toNat.toUInt8) ↔ a = b := by
      rw [← UInt8.toNat_inj, e a ha, e b hb]; omega
    show Op.bytesLess (a.toNat.toUInt8 :: Lib.bytesOf l) (b.toNat.toUInt8 :: Lib.bytesOf r) = _
    unfold Op.bytesLess lexI
    rw [ih]
    by_cases c1 : a < b
    · simp [h1, c1]
    · by_cases c2 : b < a
      · have c3 : ¬ a = b := by omega
        simp [h1, h2, c1, c2, c3]
      · have c3 : a = b := by omega
        subst c3
        simp
theorem str_less (l r : List Int) (hl : Byt l) (hr : Byt r) : Op.bytesLess (strOfNums l).toList (strOfNums r).toList = decide (lexI l r < 0) := by
  rw [Lib.strOfNums_toList, Lib.strOfNums_toList, less_lex l r hl hr]
theorem ord_cases {q p : PtrV} (h : nuP q < nuP p) : q.ad < p.ad ∨ (q.ad = p.ad ∧ q.bi < p.bi) ∨ (q.ad = p.ad ∧ q.bi = p.bi ∧ lexI q.su p.su < 0) := by
  have e := ordP_num q p
  rw [cmpI_lt h] at e
  unfold ordP at e
  rcases Int.lt_trichotomy q.ad p.ad with c | c | c
  · exact .inl c
  · rw [c, cmpI_self] at e
    simp only [ne_eq, not_true_eq_false, if_false] at e
    rcases Int.lt_trichotomy q.bi p.bi with d | d | d
    · exact .inr (.inl ⟨c, d⟩)
    · rw [d, cmpI_self] at e
      simp only [ne_eq, not_true_eq_false, if_false] at e
      exact .inr (.inr ⟨c, d, by omega⟩)
    · rw [cmpI_gt d] at e; simp at e
  · rw [cmpI_gt c] at e; simp at e
end
end Go.Proofs.Ytocdjaenhllemaa
