/-
  Slices of pointers, compared by the reference.
-/
import Derived.Test.YtocdjaenhllemaaRp
import Derived.Test.YtocdjaenhllemaaPl
namespace Go.Proofs.Ytocdjaenhllemaa
set_option maxRecDepth 4000
set_option linter.unusedVariables false
open Go.ChangeShapes Go.WideShapes Go.ChangeAt Go.RowKit

/-- A slice whose elements are the pointers of the list. -/
def PS (w : World) (v : Value) (l : List PtrV) : Prop :=
  ∃ a c, v = .slice a l.length c ∧ ∀ (i : Nat) (q : PtrV), l[i]? = some q → ∃ b off, a = some ⟨b, off, none⟩ ∧ w.rangeAt b (off + i * 34) (ptrRow q)
theorem PS.below {w w' : World} {v : Value} {l : List PtrV} (h : PS w v l) (hb : Below w.heap.size w w') : PS w' v l := by
  obtain ⟨a, c, e, h⟩ := h
  refine ⟨a, c, e, fun i q hq => ?_⟩
  obtain ⟨b, off, h1, h2⟩ := h i q hq
  exact ⟨b, off, h1, range_below h2 hb⟩
theorem ps_own {w : World} {B : Nat} {v : Value} {n : Nat} {l : List PtrV} (h : w.ownsRow B 35 34 v n (rowsP l)) : PS w v l := by
  have hl := h.1
  rw [rowsP_length] at hl
  obtain rfl : l.length = n := Nat.eq_of_mul_eq_mul_right (by decide) hl
  rcases h.2 with ⟨rfl, h0⟩ | ⟨g, cap, cur, rfl, hbase, hb, h1, h2, h3, h4⟩
  · have : l = [] := List.length_eq_zero_iff.1 h0
    subst this
    exact ⟨none, 0, rfl, fun i q hq => by simp at hq⟩
  · refine ⟨_, cap, rfl, fun i q hq => ⟨g, 0, rfl, fun j u hj => ?_⟩⟩
    have hi : i < l.length := (List.getElem?_eq_some_iff.1 hq).1
    have hj34 : j < 34 := by have := (List.getElem?_eq_some_iff.1 hj).1; rwa [ptrRow_length] at this
    have e := rowsP_at l i q hq j hj34
    rw [hj, ← h4, List.getElem?_take_of_lt (by omega), Array.getElem?_toList] at e
    rw [Nat.zero_add]
    simp only [World.cell?, hb]
    simpa using e
theorem ps_in {w : World} {x : List PtrV} {a : Option Addr} {n c : Nat} (h : Ptrs w x a n c) : PS w (.slice a n c) x := by
  refine ⟨a, c, by rw [h.len], fun i q hq => ?_⟩
  obtain ⟨b, off, q', h1, h2, h3⟩ := ptrs_at h (Below.refl _ w) (i := i) (by rw [← h.len]; exact (List.getElem?_eq_some_iff.1 hq).1)
  rw [hq] at h2
  cases h2
  exact ⟨b, off, h1, h3⟩
set_option maxRecDepth 100000 in
set_option maxHeartbeats 1600000 in
theorem psame_any (w : World) (u v : Value) (l m : List PtrV) (h : PS w u l) (k : PS w v m) (hl : l.length ≤ 1000000) (hm : m.length ≤ 1000000) :
    Calls Try.prog 14 #[u, v] w fun e w' => e = .returned (.bool (decide (l = m))) ∧ Below w.heap.size w w' := by
  obtain ⟨a1, c1, rfl, h1⟩ := h
  obtain ⟨a2, c2, rfl, h2⟩ := k
  by_cases hn : l.length = m.length
  · have H1 := Lib.hid h1
    have H2 := Lib.hid h2
    have HN := Lib.hid hn
    have HE := Lib.hid (fun i (h : l.take i = m.take i) (hi : l.length ≤ i) => show decide (l = m) = true by
      rw [decide_eq_true_iff]; rw [List.take_of_length_le hi, List.take_of_length_le (by omega)] at h; exact h)
    rw [← hn]
    clear h1 h2 hn hm
    have hlI : (l.length : Int) ≤ 1000000 := by omega
    obtain ⟨n, hnn⟩ : ∃ n, l.length = n := ⟨_, rfl⟩
    rw [hnn] at hlI HE ⊢
    have HNN := Lib.hid hnn
    clear hl hnn
    go_enter Try.func14, Try.ntmps14
    go_wp2_with fail
    go_loopw [5, 13] (fun _ v13 wr => ∃ i : Nat, i ≤ n ∧ v13 = .int .i64 (i : Int) ∧ l.take i = m.take i ∧ Below w.heap.size w wr) (fun _ v _ => n - (intOf v).toNat)
    case atStart => exact ⟨0, by omega, rfl, by simp, Below.refl _ _⟩
    case round =>
      obtain ⟨i, hi, rfl, ht, hB⟩ := hrel
      by_cases hlt : i < n
      · obtain ⟨p, hp⟩ : ∃ p, l[i]? = some p := ⟨_, List.getElem?_eq_getElem (by have := HNN.out; omega)⟩
        obtain ⟨q, hq⟩ : ∃ q, m[i]? = some q := ⟨_, List.getElem?_eq_getElem (by have := HNN.out; have := HN.out; omega)⟩
        obtain ⟨b1, o1, rfl, g1⟩ := H1.out i p hp
        obtain ⟨b2, o2, rfl, g2⟩ := H2.out i q hq
        have hix1 := index_ptr b1 o1 n c1 i hlt
        have hix2 := index_ptr b2 o2 n c2 i hlt
        have HSS := Lib.hid (show ∀ W : World, Below wr.heap.size wr W → W.rangeAt b1 (o1 + i * 34) (ptrRow p) ∧ W.rangeAt b2 (o2 + i * 34) (ptrRow q) from
          fun W hW => ⟨range_below g1 (hB.trans (hW.mono hB.size)), range_below g2 (hB.trans (hW.mono hB.size))⟩)
        have SA := Lib.hid (size_ptr p)
        have SB := Lib.hid (size_ptr q)
        have HEQ := Lib.hid (eq_ptr p q)
        have HT := Lib.hid (show p = q → l.take (i + 1) = m.take (i + 1) by
          intro e; rw [List.take_add_one, List.take_add_one, hp, hq, ht, e])
        have HF := Lib.hid (show p ≠ q → decide (l = m) = false by
          intro e; rw [decide_eq_false_iff_not]; intro e2; rw [e2, hq] at hp; cases hp; exact e rfl)
        have HB := Lib.hid hB
        have HLT := Lib.hid hlt
        have iI : (i : Int) < (n : Int) := by omega
        have i0 : (0 : Int) ≤ (i : Int) := by omega
        by_cases hpq : p = q
        · rw [decide_eq_true hpq] at HEQ
          have HT2 := Lib.hid (HT.out hpq)
          clear hi hlt ht hB hp hq g1 g2 hpq HT HF
          obtain ⟨AL, hAL⟩ : ∃ AL, ptrRow p = AL := ⟨_, rfl⟩
          obtain ⟨BL, hBL⟩ : ∃ BL, ptrRow q = BL := ⟨_, rfl⟩
          rw [hAL, hBL] at HSS HEQ
          rw [hAL] at SA
          rw [hBL] at SB
          obtain ⟨AR, hAR⟩ : ∃ AR, AL.toArray = AR := ⟨_, rfl⟩
          obtain ⟨BR, hBR⟩ : ∃ BR, BL.toArray = BR := ⟨_, rfl⟩
          rw [hAR, hBR] at HEQ
          have HAL := Lib.hid hAR
          have HBL := Lib.hid hBR
          clear hAR hBR hAL hBL
          go_upto_region 6 with fail
          try simp only [Act.put]
          refine wp_region_noPanic ?_
          refine wp_region_held_drew (S := fun W => W.rangeAt b1 (o1 + i * 34) AL ∧ W.rangeAt b2 (o2 + i * 34) BL) (by kernel_rfl) (HSS.out _ (Below.refl _ wr).drew) (fun hHeld => ?_)
          refine wpAnyH_take (i := 0) (oi := ⟨some 16, _, _, _, _, _⟩) (v := ?_) rfl (by kernel_rfl) (by decide +kernel) (by decide +kernel) (fun _ _ _ h => h) (Or.inl ⟨by rfl, ?_⟩) (by assumption) ?_
          rotate_left 1
          · (intro w' hSw; go_simp; try with_reducible rfl)
          try simp only [Act.put, List.setIfInBounds_toArray, List.set_cons_zero, List.set_cons_succ]
          refine wpAnyH_take (i := 1) (oi := ⟨some 17, _, _, _, _, _⟩) (v := ?_) rfl (by kernel_rfl) (by decide +kernel) (by decide +kernel) (fun _ _ _ h => h) (Or.inl ⟨by rfl, ?_⟩) (by assumption) ?_
          rotate_left 1
          · (intro w' hSw; go_simp; try with_reducible rfl)
          try simp only [Act.put, List.setIfInBounds_toArray, List.set_cons_zero, List.set_cons_succ]
          refine wpAnyH_take (i := 2) (oi := ⟨some 18, _, _, _, _, _⟩) (v := ?_) rfl (by kernel_rfl) (by decide +kernel) (by decide +kernel) (fun _ _ _ h => h) (Or.inl ⟨by rfl, ?_⟩) (by assumption) ?_
          rotate_left 1
          · (intro w' hSw; go_simp; try with_reducible rfl)
          try simp only [Act.put, List.setIfInBounds_toArray, List.set_cons_zero, List.set_cons_succ]
          refine wpAnyH_take (i := 3) (oi := ⟨some 19, _, _, _, _, _⟩) rfl (by kernel_rfl) (by decide +kernel) (by decide +kernel) (fun _ _ _ h => h) (yieldsIf_load_mid (by rfl) _ _ rfl b1 (o1 + i * 34) rfl AL _ (fun w' h => h.1) Try.underlying35 rfl SA.out) (by assumption) ?_
          try simp only [Act.put, List.setIfInBounds_toArray, List.set_cons_zero, List.set_cons_succ]
          rw [HAL.out]
          refine wpAnyH_take (i := 4) (oi := ⟨some 20, _, _, _, _, _⟩) (v := ?_) rfl (by kernel_rfl) (by decide +kernel) (by decide +kernel) (fun _ _ _ h => h) (Or.inl ⟨by rfl, ?_⟩) (by assumption) ?_
          rotate_left 1
          · (intro w' hSw; go_simp; try with_reducible rfl)
          try simp only [Act.put, List.setIfInBounds_toArray, List.set_cons_zero, List.set_cons_succ]
          refine wpAnyH_take (i := 5) (oi := ⟨some 21, _, _, _, _, _⟩) (v := ?_) rfl (by kernel_rfl) (by decide +kernel) (by decide +kernel) (fun _ _ _ h => h) (Or.inl ⟨by rfl, ?_⟩) (by assumption) ?_
          rotate_left 1
          · (intro w' hSw; go_simp; try with_reducible rfl)
          try simp only [Act.put, List.setIfInBounds_toArray, List.set_cons_zero, List.set_cons_succ]
          refine wpAnyH_take (i := 6) (oi := ⟨some 22, _, _, _, _, _⟩) (v := ?_) rfl (by kernel_rfl) (by decide +kernel) (by decide +kernel) (fun _ _ _ h => h) (Or.inl ⟨by rfl, ?_⟩) (by assumption) ?_
          rotate_left 1
          · (intro w' hSw; go_simp; try with_reducible rfl)
          try simp only [Act.put, List.setIfInBounds_toArray, List.set_cons_zero, List.set_cons_succ]
          refine wpAnyH_take (i := 7) (oi := ⟨some 23, _, _, _, _, _⟩) rfl (by kernel_rfl) (by decide +kernel) (by decide +kernel) (fun _ _ _ h => h) (yieldsIf_load_mid (by rfl) _ _ rfl b2 (o2 + i * 34) rfl BL _ (fun w' h => h.2) Try.underlying35 rfl SB.out) (by assumption) ?_
          try simp only [Act.put, List.setIfInBounds_toArray, List.set_cons_zero, List.set_cons_succ]
          rw [HBL.out]
          refine wpAnyH_take (i := 8) (oi := ⟨some 24, _, _, _, _, _⟩) (v := ?_) rfl (by kernel_rfl) (by decide +kernel) (by decide +kernel) (fun _ _ _ h => h) (Or.inl ⟨by rfl, ?_⟩) (by assumption) ?_
          rotate_left 1
          · (intro w' hSw; have heq := HEQ.out; go_simp; try with_reducible rfl)
          try simp only [Act.put, List.setIfInBounds_toArray, List.set_cons_zero, List.set_cons_succ]
          clear hHeld
          refine wpAnyH_done (by decide +kernel) ?_ _
          refine NoPanic.normal ?_
          go_wp2_with fail
          go_roundw
          case rel => exact ⟨i + 1, by have := HLT.out; omega, by go_num, HT2.out, HB.out.drew⟩
          case measure => simp [intOf]; have := HLT.out; omega
        · rw [decide_eq_false hpq] at HEQ
          have HF2 := Lib.hid (HF.out hpq)
          clear hi hlt ht hB hp hq g1 g2 hpq HT HF
          obtain ⟨AL, hAL⟩ : ∃ AL, ptrRow p = AL := ⟨_, rfl⟩
          obtain ⟨BL, hBL⟩ : ∃ BL, ptrRow q = BL := ⟨_, rfl⟩
          rw [hAL, hBL] at HSS HEQ
          rw [hAL] at SA
          rw [hBL] at SB
          obtain ⟨AR, hAR⟩ : ∃ AR, AL.toArray = AR := ⟨_, rfl⟩
          obtain ⟨BR, hBR⟩ : ∃ BR, BL.toArray = BR := ⟨_, rfl⟩
          rw [hAR, hBR] at HEQ
          have HAL := Lib.hid hAR
          have HBL := Lib.hid hBR
          clear hAR hBR hAL hBL
          go_upto_region 6 with fail
          try simp only [Act.put]
          refine wp_region_noPanic ?_
          refine wp_region_held_drew (S := fun W => W.rangeAt b1 (o1 + i * 34) AL ∧ W.rangeAt b2 (o2 + i * 34) BL) (by kernel_rfl) (HSS.out _ (Below.refl _ wr).drew) (fun hHeld => ?_)
          refine wpAnyH_take (i := 0) (oi := ⟨some 16, _, _, _, _, _⟩) (v := ?_) rfl (by kernel_rfl) (by decide +kernel) (by decide +kernel) (fun _ _ _ h => h) (Or.inl ⟨by rfl, ?_⟩) (by assumption) ?_
          rotate_left 1
          · (intro w' hSw; go_simp; try with_reducible rfl)
          try simp only [Act.put, List.setIfInBounds_toArray, List.set_cons_zero, List.set_cons_succ]
          refine wpAnyH_take (i := 1) (oi := ⟨some 17, _, _, _, _, _⟩) (v := ?_) rfl (by kernel_rfl) (by decide +kernel) (by decide +kernel) (fun _ _ _ h => h) (Or.inl ⟨by rfl, ?_⟩) (by assumption) ?_
          rotate_left 1
          · (intro w' hSw; go_simp; try with_reducible rfl)
          try simp only [Act.put, List.setIfInBounds_toArray, List.set_cons_zero, List.set_cons_succ]
          refine wpAnyH_take (i := 2) (oi := ⟨some 18, _, _, _, _, _⟩) (v := ?_) rfl (by kernel_rfl) (by decide +kernel) (by decide +kernel) (fun _ _ _ h => h) (Or.inl ⟨by rfl, ?_⟩) (by assumption) ?_
          rotate_left 1
          · (intro w' hSw; go_simp; try with_reducible rfl)
          try simp only [Act.put, List.setIfInBounds_toArray, List.set_cons_zero, List.set_cons_succ]
          refine wpAnyH_take (i := 3) (oi := ⟨some 19, _, _, _, _, _⟩) rfl (by kernel_rfl) (by decide +kernel) (by decide +kernel) (fun _ _ _ h => h) (yieldsIf_load_mid (by rfl) _ _ rfl b1 (o1 + i * 34) rfl AL _ (fun w' h => h.1) Try.underlying35 rfl SA.out) (by assumption) ?_
          try simp only [Act.put, List.setIfInBounds_toArray, List.set_cons_zero, List.set_cons_succ]
          rw [HAL.out]
          refine wpAnyH_take (i := 4) (oi := ⟨some 20, _, _, _, _, _⟩) (v := ?_) rfl (by kernel_rfl) (by decide +kernel) (by decide +kernel) (fun _ _ _ h => h) (Or.inl ⟨by rfl, ?_⟩) (by assumption) ?_
          rotate_left 1
          · (intro w' hSw; go_simp; try with_reducible rfl)
          try simp only [Act.put, List.setIfInBounds_toArray, List.set_cons_zero, List.set_cons_succ]
          refine wpAnyH_take (i := 5) (oi := ⟨some 21, _, _, _, _, _⟩) (v := ?_) rfl (by kernel_rfl) (by decide +kernel) (by decide +kernel) (fun _ _ _ h => h) (Or.inl ⟨by rfl, ?_⟩) (by assumption) ?_
          rotate_left 1
          · (intro w' hSw; go_simp; try with_reducible rfl)
          try simp only [Act.put, List.setIfInBounds_toArray, List.set_cons_zero, List.set_cons_succ]
          refine wpAnyH_take (i := 6) (oi := ⟨some 22, _, _, _, _, _⟩) (v := ?_) rfl (by kernel_rfl) (by decide +kernel) (by decide +kernel) (fun _ _ _ h => h) (Or.inl ⟨by rfl, ?_⟩) (by assumption) ?_
          rotate_left 1
          · (intro w' hSw; go_simp; try with_reducible rfl)
          try simp only [Act.put, List.setIfInBounds_toArray, List.set_cons_zero, List.set_cons_succ]
          refine wpAnyH_take (i := 7) (oi := ⟨some 23, _, _, _, _, _⟩) rfl (by kernel_rfl) (by decide +kernel) (by decide +kernel) (fun _ _ _ h => h) (yieldsIf_load_mid (by rfl) _ _ rfl b2 (o2 + i * 34) rfl BL _ (fun w' h => h.2) Try.underlying35 rfl SB.out) (by assumption) ?_
          try simp only [Act.put, List.setIfInBounds_toArray, List.set_cons_zero, List.set_cons_succ]
          rw [HBL.out]
          refine wpAnyH_take (i := 8) (oi := ⟨some 24, _, _, _, _, _⟩) (v := ?_) rfl (by kernel_rfl) (by decide +kernel) (by decide +kernel) (fun _ _ _ h => h) (Or.inl ⟨by rfl, ?_⟩) (by assumption) ?_
          rotate_left 1
          · (intro w' hSw; have heq := HEQ.out; go_simp; try with_reducible rfl)
          try simp only [Act.put, List.setIfInBounds_toArray, List.set_cons_zero, List.set_cons_succ]
          clear hHeld
          refine wpAnyH_done (by decide +kernel) ?_ _
          refine NoPanic.normal ?_
          go_wp2_with fail
          go_ret
          exact ⟨congrArg (fun b => Ending.returned (.bool b)) HF2.out.symm, HB.out.drew⟩
      · obtain rfl : i = n := by omega
        have HT := Lib.hid (HE.out i ht (Nat.le_refl _))
        have HB := Lib.hid hB
        clear hi hlt ht hB HE
        go_wp2_with fail
        go_ret
        exact ⟨congrArg (fun b => Ending.returned (.bool b)) HT.out.symm, HB.out⟩
  · have HF := Lib.hid (show decide (l = m) = false by rw [decide_eq_false_iff_not]; intro e; exact hn (by rw [e]))
    have hnb : ((l.length : Int) == (m.length : Int)) = false := by simp; omega
    clear h1 h2 hn hl hm
    go_enter Try.func14, Try.ntmps14
    go_wp2_with fail
    go_ret
    exact ⟨congrArg (fun b => Ending.returned (.bool b)) HF.out.symm, Below.refl _ _⟩
/-! the library's own -/
end Go.Proofs.Ytocdjaenhllemaa
