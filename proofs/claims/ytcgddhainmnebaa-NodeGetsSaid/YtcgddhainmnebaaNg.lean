/-
  The reference's Find of layer 9.
-/
import Derived.Test.YtcgddhainmnebaaNl
namespace Go.Proofs.Ytcgddhainmnebaa
set_option maxRecDepth 4000
set_option linter.unusedVariables false
open Go.ChangeShapes Go.WideShapes Go.ChangeAt Go.RowKit

def goesB (lf : Bool) (key x : ByteArray) : Bool := lo x key || (decide (x = key) && !lf)
theorem count_rising (lf : Bool) (key : ByteArray) : ∀ (l : List ByteArray), Rising l → l.countP (goesB lf key) = rankK l key + (if (hasK l key && !lf) = true then 1 else 0)
  | [], _ => by simp [rankK, hasK]
  | a :: l, hr => by
    have h1 : Rising l := (List.pairwise_cons.1 hr).2
    have h2 := (List.pairwise_cons.1 hr).1
    have ih := count_rising lf key l h1
    have e1 : rankK (a :: l) key = rankK l key + (if lo a key = true then 1 else 0) := by unfold rankK; rw [List.countP_cons]
    have e2 : hasK (a :: l) key = (decide (a = key) || hasK l key) := rfl
    rw [List.countP_cons, ih, e1, e2]
    rcases lo_tri a key with h | h | h
    · have hne : decide (a = key) = false := by rw [decide_eq_false_iff_not]; intro e; rw [e, lo_irr] at h; cases h
      unfold goesB
      rw [h, hne]
      simp
      omega
    · subst h
      have n1 : ∀ t ∈ l, lo t a = false := fun t ht => lo_asymm (h2 t ht)
      have n2 : hasK l a = false := by
        rw [← Bool.not_eq_true, hasK_iff]
        intro hm
        have := h2 a hm
        rw [lo_irr] at this
        cases this
      unfold goesB
      rw [lo_irr, n2]
      cases lf <;> simp
    · have hne : decide (a = key) = false := by rw [decide_eq_false_iff_not]; intro e; rw [e, lo_irr] at h; cases h
      unfold goesB
      rw [lo_asymm h, hne]
      simp
theorem goes_step (l : List ByteArray) (f : ByteArray → Bool) (i : Nat) (x : ByteArray) (h : l[i]? = some x) : (l.take (i + 1)).countP f = (l.take i).countP f + (if f x = true then 1 else 0) := by
  rw [List.take_add_one, h, List.countP_append]
  simp [List.countP_cons]
set_option maxRecDepth 100000 in
set_option maxHeartbeats 3200000 in
theorem rfind_any (k v p : Value) (n : NodeV) (key : ByteArray) (w : World) (h : NR w k v p n) (hn : NB n) (hr : Rising n.ks) :
    Calls Try.prog 26 #[.agg #[.bool n.lf, k, v, p], .string key] w fun e w' => e = .returned (.tuple #[.int .i64 (findA n key).1, .bool (findA n key).2]) ∧ Below w.heap.size w w' := by
  have hb1 := (Below.refl w.heap.size w).alloc (Nat.le_refl _) (.cells #[.bool n.lf, k, v, p] 25)
  obtain ⟨ak, ck, rfl, _, hk⟩ := h.ks
  obtain ⟨c0, c1, _, _⟩ := node_at (heap_alloc_new w (.cells #[.bool n.lf, .slice ak n.ks.length ck, v, p] 25))
  have HK := Lib.hid hk
  have HE := Lib.hid (show findA n key = (((n.ks.countP (goesB n.lf key) : Nat) : Int), n.ks.any (fun x => decide (x = key))) by
    rw [count_rising n.lf key n.ks hr]
    unfold findA hasK
    congr 1
    split <;> simp)
  rw [HE.out]
  have hkl := hn.kl
  obtain ⟨lf, hlf⟩ : ∃ lf, n.lf = lf := ⟨_, rfl⟩
  obtain ⟨l, hl⟩ : ∃ l, n.ks = l := ⟨_, rfl⟩
  rw [hlf, hl] at hb1 c0 c1 ⊢
  rw [hl] at hkl HK
  obtain ⟨N, hN⟩ : ∃ N, l.length = N := ⟨_, rfl⟩
  have HN := Lib.hid hN
  rw [hN] at hb1 c0 c1 hkl ⊢
  have NI : (N : Int) ≤ 140737488351232 := by omega
  have N0 : (0 : Int) ≤ (N : Int) := by omega
  generalize hw1 : w.alloc (.cells #[.bool lf, .slice ak N ck, v, p] 25) = w1 at *
  have HB1 := Lib.hid hb1
  have HCT := Lib.hid (show ∀ i, i ≤ N → (l.take i).countP (goesB lf key) ≤ N from fun i hi => Nat.le_trans List.countP_le_length (by rw [List.length_take]; omega))
  have HT := Lib.hid (show l.take N = l from by rw [← hN, List.take_length])
  clear h hk hn hr hb1 HE hlf hl hN hkl
  go_enter Try.func26, Try.ntmps26
  go_upto_region 1 with fail
  try rw [hw1]
  clear hw1
  go_wp2_with fail
  go_loopw [6, 7, 9, 13] (fun v6 v7 _ v13 wr => ∃ i : Nat, i ≤ N ∧ v13 = .int .i64 (i : Int) ∧ v6 = .int .i64 (((l.take i).countP (goesB lf key) : Nat) : Int) ∧ v7 = .bool ((l.take i).any (fun x => decide (x = key))) ∧ wr = w1) (fun _ _ _ v _ => N - (intOf v).toNat)
  case atStart => exact ⟨0, by omega, rfl, rfl, rfl, rfl⟩
  case round =>
    obtain ⟨i, hi, rfl, rfl, rfl, hwr⟩ := hrel
    have hwr' := hwr.symm
    subst hwr'
    clear hwr
    by_cases hlt : i < N
    · obtain ⟨x, hx⟩ : ∃ x, l[i]? = some x := ⟨_, List.getElem?_eq_getElem (by have := HN.out; omega)⟩
      obtain ⟨b1, o1, rfl, g1⟩ := HK.out i x hx
      have hix := index_sl b1 o1 N ck i hlt
      have g1' := (HB1.out.cell (p := ⟨b1, o1 + i, none⟩) (block_lt_of_cell g1)).trans g1
      have HNX := Lib.hid (show (l.take (i + 1)).any (fun x => decide (x = key)) = ((l.take i).any (fun x => decide (x = key)) || decide (x = key)) by
        rw [List.take_add_one, hx, List.any_append]; simp)
      have HST := Lib.hid (goes_step l (goesB lf key) i x hx)
      have ctI : (((l.take i).countP (goesB lf key) : Nat) : Int) ≤ (N : Int) := by have := HCT.out i hi; omega
      have ct0 : (0 : Int) ≤ (((l.take i).countP (goesB lf key) : Nat) : Int) := by omega
      have HLT := Lib.hid hlt
      have iI : (i : Int) < (N : Int) := by omega
      have i0 : (0 : Int) ≤ (i : Int) := by omega
      clear hi hlt hx g1
      generalize (l.take i).countP (goesB lf key) = C at *
      generalize (l.take i).any (fun x => decide (x = key)) = bj at *
      rcases lo_tri x key with hq | hq | hq
      · have q1 : Op.bytesLess x.toList key.toList = true := hq
        have hne : decide (x = key) = false := by rw [decide_eq_false_iff_not]; intro e; rw [e, lo_irr] at hq; cases hq
        have q2 : (x.toList == key.toList) = false := by rw [str_beq, hne]
        have HG := Lib.hid (show goesB lf key x = true by unfold goesB; rw [hq]; rfl)
        have HNE := Lib.hid hne
        clear hq hne
        cases bj <;>
        · go_wp2_with fail
          go_roundw
          case rel => exact ⟨i + 1, by have := HLT.out; omega, by go_num, by rw [HST.out, HG.out, if_pos rfl]; go_num, by rw [HNX.out, HNE.out]; rfl, by trivial⟩
          case measure => simp [intOf]; have := HLT.out; omega
      · have q1 : Op.bytesLess x.toList key.toList = false := by rw [hq]; exact lo_irr _
        have hne : decide (x = key) = true := by rw [decide_eq_true_iff]; exact hq
        have q2 : (x.toList == key.toList) = true := by rw [str_beq, hne]
        have HG := Lib.hid (show goesB lf key x = !lf by unfold goesB; rw [hne, show lo x key = false from q1]; cases lf <;> rfl)
        have HNE := Lib.hid hne
        clear hq hne
        cases lf <;> cases bj <;>
        · go_wp2_with fail
          go_roundw
          case rel => exact ⟨i + 1, by have := HLT.out; omega, by go_num, by rw [HST.out, HG.out]; first | rfl | go_num, by rw [HNX.out, HNE.out]; rfl, by trivial⟩
          case measure => simp [intOf]; have := HLT.out; omega
      · have q1 : Op.bytesLess x.toList key.toList = false := lo_asymm hq
        have hne : decide (x = key) = false := by rw [decide_eq_false_iff_not]; intro e; rw [e, lo_irr] at hq; cases hq
        have q2 : (x.toList == key.toList) = false := by rw [str_beq, hne]
        have HG := Lib.hid (show goesB lf key x = false by unfold goesB; rw [hne, show lo x key = false from q1]; rfl)
        have HNE := Lib.hid hne
        clear hq hne
        cases bj <;>
        · go_wp2_with fail
          go_roundw
          case rel => exact ⟨i + 1, by have := HLT.out; omega, by go_num, by rw [HST.out, HG.out]; rfl, by rw [HNX.out, HNE.out]; rfl, by trivial⟩
          case measure => simp [intOf]; have := HLT.out; omega
    · obtain rfl : i = N := by omega
      rw [HT.out]
      clear hi hlt
      go_wp2_with fail
      go_ret2
      exact ⟨rfl, HB1.out⟩
end Go.Proofs.Ytcgddhainmnebaa
