/-
  Slices of strings: how one lies in memory, is indexed, compared; the order of strings.
-/
import Derived.Test.YtcgddhainmnebaaSm
import Derived.Lib.Strings
import Derived.Sort.Walk0
namespace Go.Proofs.Ytcgddhainmnebaa
set_option maxRecDepth 4000
set_option linter.unusedVariables false
open Go.ChangeShapes Go.WideShapes Go.ChangeAt Go.RowKit

theorem str_inj {p q : ByteArray} (h : p.toList = q.toList) : p = q := by
  rw [Lib.toList_data, Lib.toList_data] at h
  exact ByteArray.ext (Array.toList_inj.1 h)
theorem str_beq (p q : ByteArray) : (p.toList == q.toList) = decide (p = q) := by
  by_cases h : p = q
  · rw [h, decide_eq_true rfl]; simp
  · rw [decide_eq_false h, beq_eq_false_iff_ne]
    exact fun e => h (str_inj e)
/-- Whether one string stands ahead of the other. -/
def lo (a b : ByteArray) : Bool := Op.bytesLess a.toList b.toList
theorem lo_lt (a b : ByteArray) : lo a b = decide (a.toList < b.toList) := bytesLess_eq _ _
theorem lo_irr (a : ByteArray) : lo a a = false := by rw [lo_lt, decide_eq_false_iff_not]; exact List.lt_irrefl _
theorem lo_trans {a b c : ByteArray} (h : lo a b = true) (k : lo b c = true) : lo a c = true := by
  rw [lo_lt, decide_eq_true_iff] at *
  exact List.lt_trans h k
theorem lo_asymm {a b : ByteArray} (h : lo a b = true) : lo b a = false := by
  cases e : lo b a with
  | false => rfl
  | true => have := lo_trans h e; rw [lo_irr] at this; cases this
theorem lo_tri (a b : ByteArray) : lo a b = true ∨ a = b ∨ lo b a = true := by
  rw [lo_lt, lo_lt, decide_eq_true_iff, decide_eq_true_iff]
  by_cases h : a.toList < b.toList
  · exact .inl h
  · by_cases k : b.toList < a.toList
    · exact .inr (.inr k)
    · exact .inr (.inl (str_inj (List.le_antisymm k h)))
/-- A slice whose elements are the strings of the list. -/
def SS (w : World) (v : Value) (l : List ByteArray) : Prop :=
  ∃ a c, v = .slice a l.length c ∧ l.length ≤ c ∧ ∀ (i : Nat) (s : ByteArray), l[i]? = some s → ∃ b off, a = some ⟨b, off, none⟩ ∧ w.cell? ⟨b, off + i, none⟩ = some (.string s)
theorem SS.below {w w' : World} {v : Value} {l : List ByteArray} (h : SS w v l) (hb : Below w.heap.size w w') : SS w' v l := by
  obtain ⟨a, c, e, hc, h⟩ := h
  refine ⟨a, c, e, hc, fun i q hq => ?_⟩
  obtain ⟨b, off, h1, h2⟩ := h i q hq
  exact ⟨b, off, h1, (hb.cell (p := ⟨b, off + i, none⟩) (block_lt_of_cell h2)).trans h2⟩
theorem ss_nil (w : World) : SS w (.slice none 0 0) [] := ⟨none, 0, rfl, Nat.le_refl _, fun i q hq => by simp at hq⟩
theorem ss_own {w : World} {B : Nat} {v : Value} {n : Nat} {l : List ByteArray} (h : w.ownsRow B 9 1 v n (l.map Value.string)) : SS w v l := by
  have hl := h.1
  rw [List.length_map, Nat.mul_one] at hl
  subst hl
  rcases h.2 with ⟨rfl, h0⟩ | ⟨g, cap, cur, rfl, hbase, hb, h1, h2, h3, h4⟩
  · have : l = [] := List.length_eq_zero_iff.1 h0
    subst this
    exact ⟨none, 0, rfl, Nat.le_refl _, fun i q hq => by simp at hq⟩
  · refine ⟨_, cap, rfl, h1, fun i q hq => ⟨g, 0, rfl, ?_⟩⟩
    have hi : i < l.length := (List.getElem?_eq_some_iff.1 hq).1
    have e : (l.map Value.string)[i]? = some (.string q) := by rw [List.getElem?_map, hq]; rfl
    rw [← h4, List.getElem?_take_of_lt (by omega), Array.getElem?_toList] at e
    rw [Nat.zero_add]
    simp only [World.cell?, hb]
    simpa using e
theorem index_sl (b off len cap i : Nat) (h : i < len) (W : World) : (Instr.indexAt 22 (.slice (some ⟨b, off, none⟩) len cap) (.int .i64 (i : Int))).run Try.prog W = .ok (.pointer (some ⟨b, off + i, none⟩)) W := by
  obtain ⟨i0, hi, hs⟩ := Option.map_eq_some_iff.1 (show (Try.prog.info? 9).map (·.size) = some 1 by kernel_rfl)
  simp [Instr.indexAt, asIntOf, run_underlying Try.underlying22, sizeOf, typeInfo, hi, hs, h, Addr.add_mid]
set_option maxRecDepth 100000 in
set_option maxHeartbeats 1600000 in
theorem seq_any (w : World) (u v : Value) (l m : List ByteArray) (h : SS w u l) (k : SS w v m) (hl : l.length ≤ 140737488351232) (hm : m.length ≤ 140737488351232) :
    Calls Try.prog 49 #[u, v] w fun e w' => e = .returned (.bool (decide (l = m))) ∧ Below w.heap.size w w' := by
  obtain ⟨a1, c1, rfl, hc1, h1⟩ := h
  obtain ⟨a2, c2, rfl, hc2, h2⟩ := k
  clear hc1 hc2
  by_cases hn : l.length = m.length
  · have H1 := Lib.hid h1
    have H2 := Lib.hid h2
    have HN := Lib.hid hn
    have HE := Lib.hid (fun i (h : l.take i = m.take i) (hi : l.length ≤ i) => show decide (l = m) = true by
      rw [decide_eq_true_iff]; rw [List.take_of_length_le hi, List.take_of_length_le (by omega)] at h; exact h)
    rw [← hn]
    clear h1 h2 hn hm
    have hlI : (l.length : Int) ≤ 140737488351232 := by omega
    obtain ⟨n, hnn⟩ : ∃ n, l.length = n := ⟨_, rfl⟩
    rw [hnn] at hlI HE ⊢
    have HNN := Lib.hid hnn
    clear hl hnn
    go_enter Try.func49, Try.ntmps49
    go_wp2_with fail
    go_loopw [5, 13] (fun _ v13 wr => ∃ i : Nat, i ≤ n ∧ v13 = .int .i64 (i : Int) ∧ l.take i = m.take i ∧ Below w.heap.size w wr) (fun _ v _ => n - (intOf v).toNat)
    case atStart => exact ⟨0, by omega, rfl, by simp, Below.refl _ _⟩
    case round =>
      obtain ⟨i, hi, rfl, ht, hB⟩ := hrel
      by_cases hlt : i < n
      · obtain ⟨p, hp⟩ : ∃ p, l[i]? = some p := ⟨_, List.getElem?_eq_getElem (by have := HNN.out; omega)⟩
        obtain ⟨q, hq⟩ : ∃ q, m[i]? = some q := ⟨_, List.getElem?_eq_getElem (by have := HNN.out; have := HN.out; omega)⟩
        obtain ⟨b1, o1, rfl, g1⟩ := H1.out i p hp
        obtain ⟨b2, o2, rfl, g2⟩ := H2.out i q hq
        have hix1 := index_sl b1 o1 n c1 i hlt
        have hix2 := index_sl b2 o2 n c2 i hlt
        have g1' := (hB.cell (p := ⟨b1, o1 + i, none⟩) (block_lt_of_cell g1)).trans g1
        have g2' := (hB.cell (p := ⟨b2, o2 + i, none⟩) (block_lt_of_cell g2)).trans g2
        have HT := Lib.hid (show p = q → l.take (i + 1) = m.take (i + 1) by
          intro e; rw [List.take_add_one, List.take_add_one, hp, hq, ht, e])
        have HF := Lib.hid (show p ≠ q → decide (l = m) = false by
          intro e; rw [decide_eq_false_iff_not]; intro e2; rw [e2, hq] at hp; cases hp; exact e rfl)
        have HB := Lib.hid hB
        have HLT := Lib.hid hlt
        have iI : (i : Int) < (n : Int) := by omega
        have i0 : (0 : Int) ≤ (i : Int) := by omega
        clear hi hlt ht hB hp hq g1 g2
        go_upto_region 6 with fail
        go_quiet (fail)
        by_cases hpq : p = q
        · have HT2 := Lib.hid (HT.out hpq)
          have e1 : (p.toList == q.toList) = true := by rw [hpq]; simp
          rw [e1]
          clear HT HF hpq e1
          go_wp2_with fail
          go_roundw
          case rel => exact ⟨i + 1, by have := HLT.out; omega, by go_num, HT2.out, ybelow_drewN HB.out nq⟩
          case measure => simp [intOf]; have := HLT.out; omega
        · have HF2 := Lib.hid (HF.out hpq)
          have e1 : (p.toList == q.toList) = false := by rw [str_beq, decide_eq_false hpq]
          rw [e1]
          clear HT HF hpq e1
          go_wp2_with fail
          go_ret
          exact ⟨congrArg (fun b => Ending.returned (.bool b)) HF2.out.symm, ybelow_drewN HB.out nq⟩
      · obtain rfl : i = n := by omega
        have HT := Lib.hid (HE.out i ht (Nat.le_refl _))
        have HB := Lib.hid hB
        clear hi hlt ht hB HE
        go_wp2_with fail
        go_ret
        exact ⟨congrArg (fun b => Ending.returned (.bool b)) HT.out.symm, HB.out⟩
  · have HF := Lib.hid (show decide (l = m) = false by rw [decide_eq_false_iff_not]; intro e; exact hn (by rw [e]))
    have hnb : ((l.length : Int) == (m.length : Int)) = false := by simp; omega
    have hlI : (l.length : Int) ≤ 140737488351232 := by omega
    have hmI : (m.length : Int) ≤ 140737488351232 := by omega
    clear h1 h2 hn hl hm
    go_enter Try.func49, Try.ntmps49
    go_wp2_with fail
    go_ret
    exact ⟨congrArg (fun b => Ending.returned (.bool b)) HF.out.symm, Below.refl _ _⟩
set_option maxRecDepth 100000 in
set_option maxHeartbeats 1600000 in
theorem rtexts_any (w : World) (u v : Value) (l m : List ByteArray) (h : SS w u l) (k : SS w v m) (hl : l.length ≤ 140737488351232) (hm : m.length ≤ 140737488351232) :
    Calls Try.prog 51 #[u, v] w fun e w' => e = .returned (.bool (decide (l = m))) ∧ Below w.heap.size w w' := by
  obtain ⟨a1, c1, rfl, hc1, h1⟩ := h
  obtain ⟨a2, c2, rfl, hc2, h2⟩ := k
  clear hc1 hc2
  by_cases hn : l.length = m.length
  · have H1 := Lib.hid h1
    have H2 := Lib.hid h2
    have HN := Lib.hid hn
    have HE := Lib.hid (fun i (h : l.take i = m.take i) (hi : l.length ≤ i) => show decide (l = m) = true by
      rw [decide_eq_true_iff]; rw [List.take_of_length_le hi, List.take_of_length_le (by omega)] at h; exact h)
    rw [← hn]
    clear h1 h2 hn hm
    have hlI : (l.length : Int) ≤ 140737488351232 := by omega
    obtain ⟨n, hnn⟩ : ∃ n, l.length = n := ⟨_, rfl⟩
    rw [hnn] at hlI HE ⊢
    have HNN := Lib.hid hnn
    clear hl hnn
    go_enter Try.func51, Try.ntmps51
    go_wp2_with fail
    go_loopw [5, 13] (fun _ v13 wr => ∃ i : Nat, i ≤ n ∧ v13 = .int .i64 (i : Int) ∧ l.take i = m.take i ∧ Below w.heap.size w wr) (fun _ v _ => n - (intOf v).toNat)
    case atStart => exact ⟨0, by omega, rfl, by simp, Below.refl _ _⟩
    case round =>
      obtain ⟨i, hi, rfl, ht, hB⟩ := hrel
      by_cases hlt : i < n
      · obtain ⟨p, hp⟩ : ∃ p, l[i]? = some p := ⟨_, List.getElem?_eq_getElem (by have := HNN.out; omega)⟩
        obtain ⟨q, hq⟩ : ∃ q, m[i]? = some q := ⟨_, List.getElem?_eq_getElem (by have := HNN.out; have := HN.out; omega)⟩
        obtain ⟨b1, o1, rfl, g1⟩ := H1.out i p hp
        obtain ⟨b2, o2, rfl, g2⟩ := H2.out i q hq
        have hix1 := index_sl b1 o1 n c1 i hlt
        have hix2 := index_sl b2 o2 n c2 i hlt
        have g1' := (hB.cell (p := ⟨b1, o1 + i, none⟩) (block_lt_of_cell g1)).trans g1
        have g2' := (hB.cell (p := ⟨b2, o2 + i, none⟩) (block_lt_of_cell g2)).trans g2
        have HT := Lib.hid (show p = q → l.take (i + 1) = m.take (i + 1) by
          intro e; rw [List.take_add_one, List.take_add_one, hp, hq, ht, e])
        have HF := Lib.hid (show p ≠ q → decide (l = m) = false by
          intro e; rw [decide_eq_false_iff_not]; intro e2; rw [e2, hq] at hp; cases hp; exact e rfl)
        have HB := Lib.hid hB
        have HLT := Lib.hid hlt
        have iI : (i : Int) < (n : Int) := by omega
        have i0 : (0 : Int) ≤ (i : Int) := by omega
        clear hi hlt ht hB hp hq g1 g2
        go_upto_region 6 with fail
        go_quiet (fail)
        by_cases hpq : p = q
        · have HT2 := Lib.hid (HT.out hpq)
          have e1 : (p.toList == q.toList) = true := by rw [hpq]; simp
          rw [e1]
          clear HT HF hpq e1
          go_wp2_with fail
          go_roundw
          case rel => exact ⟨i + 1, by have := HLT.out; omega, by go_num, HT2.out, ybelow_drewN HB.out nq⟩
          case measure => simp [intOf]; have := HLT.out; omega
        · have HF2 := Lib.hid (HF.out hpq)
          have e1 : (p.toList == q.toList) = false := by rw [str_beq, decide_eq_false hpq]
          rw [e1]
          clear HT HF hpq e1
          go_wp2_with fail
          go_ret
          exact ⟨congrArg (fun b => Ending.returned (.bool b)) HF2.out.symm, ybelow_drewN HB.out nq⟩
      · obtain rfl : i = n := by omega
        have HT := Lib.hid (HE.out i ht (Nat.le_refl _))
        have HB := Lib.hid hB
        clear hi hlt ht hB HE
        go_wp2_with fail
        go_ret
        exact ⟨congrArg (fun b => Ending.returned (.bool b)) HT.out.symm, HB.out⟩
  · have HF := Lib.hid (show decide (l = m) = false by rw [decide_eq_false_iff_not]; intro e; exact hn (by rw [e]))
    have hnb : ((l.length : Int) == (m.length : Int)) = false := by simp; omega
    have hlI : (l.length : Int) ≤ 140737488351232 := by omega
    have hmI : (m.length : Int) ≤ 140737488351232 := by omega
    clear h1 h2 hn hl hm
    go_enter Try.func51, Try.ntmps51
    go_wp2_with fail
    go_ret
    exact ⟨congrArg (fun b => Ending.returned (.bool b)) HF.out.symm, Below.refl _ _⟩
end Go.Proofs.Ytcgddhainmnebaa
