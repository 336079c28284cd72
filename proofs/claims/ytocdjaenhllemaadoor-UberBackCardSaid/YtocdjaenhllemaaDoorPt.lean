/-
  The small functions of layer 8: Null, Check, Put, Get, of the program and of the document's answer.
-/
import Derived.Test.YtocdjaenhllemaaDoorPv
import Derived.Test.YtocdjaenhllemaaDoorCod0
namespace Go.Proofs.YtocdjaenhllemaaDoor
set_option maxRecDepth 4000
open Go.ChangeShapes Go.WideShapes Go.ChangeAt Go.RowKit

set_option maxHeartbeats 800000 in
theorem pnull_any (q : PtrV) (w : World) :
    Calls Tryd.prog 65 #[.agg (ptrRow q).toArray] w fun e w' => e = .returned (.bool (q.ad == 0)) ∧ Below w.heap.size w w' := by
  have hb := (Below.refl w.heap.size w).alloc (Nat.le_refl _) (.cells (ptrRow q).toArray 28)
  obtain ⟨c0, _, _⟩ := ptr_at (heap_alloc_new w (.cells (ptrRow q).toArray 28))
  have HB := Lib.hid hb
  clear hb
  obtain ⟨ad, bi, su, _, _, _⟩ := q
  dsimp only at c0 ⊢
  generalize (ptrRow _).toArray = AR at *
  go_enter Tryd.func65, Tryd.ntmps65
  go_wp2_with fail
  go_ret
  exact ⟨rfl, HB.out⟩
/-- Whether a pointer may be, on a device of so many sectors. -/
def mayB (q : PtrV) (n : Int) : Bool := if q.ad = 0 then decide (q = zeroPtr) else decide (2 ≤ q.ad) && decide (q.ad < n) && decide (q.bi ≠ 0)
def checkE (q : PtrV) (n : Int) : Int := if mayB q n then 0 else 4
set_option maxRecDepth 100000 in
set_option maxHeartbeats 1600000 in
theorem pmay_any (q : PtrV) (n : Int) (w : World) :
    Calls Tryd.prog 43 #[.agg (ptrRow q).toArray, .int .i64 n] w fun e w' => e = .returned (.bool (mayB q n)) ∧ Below w.heap.size w w' := by
  have hb := (Below.refl w.heap.size w).alloc (Nat.le_refl _) (.cells (ptrRow q).toArray 28)
  have hA := heap_alloc_new w (.cells (ptrRow q).toArray 28)
  obtain ⟨c0, c1, _⟩ := ptr_at hA
  have HB := Lib.hid hb
  have HA := Lib.hid hA
  have HN := Lib.hid (fun W => pnull_any q W)
  have heq := eq_zero q
  have SE := Lib.hid (size_ptrA q)
  have hq := q.a0
  have hm : mayB q n = if q.ad = 0 then decide (q = zeroPtr) else decide (2 ≤ q.ad) && decide (q.ad < n) && decide (q.bi ≠ 0) := rfl
  generalize mayB q n = mb at *
  generalize hD : decide (q = zeroPtr) = dz at *
  clear hb hA hD
  generalize (ptrRow q).toArray = AR at *
  generalize q.ad = ad at *
  generalize q.bi = bi at *
  have hw : IntKind.i64.wrap ad = ad := IntWalk.i64_in _ (by omega)
  by_cases h0 : ad = 0
  · rw [if_pos h0] at hm
    subst hm
    have HE : (ad == 0) = true := by simpa using h0
    clear h0 c0 c1 hq hw
    go_enter Tryd.func43, Tryd.ntmps43
    go_wp2_with (first
      | (with_reducible refine wpList_load_row (o := ⟨some 5, _, _, _, _, _⟩) rfl 28 _ rfl w.heap.size rfl 28 AR (0, 0) _ HA.out Tryd.underlying28 rfl SE.out ?_))
    refine (HN.out _).mono ?_
    rintro e w2 ⟨rfl, hb2⟩
    rw [HE]
    have HB2 := Lib.hid (HB.out.trans (hb2.mono (by simp)))
    have HA2 := Lib.hid ((hb2.block w.heap.size (by simp)).trans HA.out)
    clear hb2
    go_wp2_with (first
      | (with_reducible refine wpList_load_row (o := ⟨some 7, _, _, _, _, _⟩) rfl 28 _ rfl w.heap.size rfl 28 AR (0, 0) _ HA2.out Tryd.underlying28 rfl SE.out ?_))
    go_ret
    exact ⟨rfl, HB2.out⟩
  · rw [if_neg h0] at hm
    have HE : (ad == 0) = false := by simpa using h0
    clear h0 heq
    go_enter Tryd.func43, Tryd.ntmps43
    go_wp2_with (first
      | (with_reducible refine wpList_load_row (o := ⟨some 5, _, _, _, _, _⟩) rfl 28 _ rfl w.heap.size rfl 28 AR (0, 0) _ HA.out Tryd.underlying28 rfl SE.out ?_))
    refine (HN.out _).mono ?_
    rintro e w2 ⟨rfl, hb2⟩
    rw [HE]
    have c02 : w2.cell? ⟨w.heap.size, 0, none⟩ = some (.int .u32 ad) := (hb2.cell (by simp)).trans c0
    have c12 : w2.cell? ⟨w.heap.size, 1, none⟩ = some (.int .u64 bi) := (hb2.cell (by simp)).trans c1
    have HB2 := Lib.hid (HB.out.trans (hb2.mono (by simp)))
    have HM := Lib.hid hm
    clear hb2 hq c0 c1 hm HA
    go_wp2_with fail
    all_goals (go_ret; refine ⟨congrArg (fun b => Ending.returned (Value.bool b)) ?_, HB2.out⟩; rw [HM.out, Bool.eq_iff_iff]; simp; omega)
set_option maxRecDepth 100000 in
set_option maxHeartbeats 1600000 in
theorem pcheck_any (q : PtrV) (n : Int) (w : World) :
    Calls Tryd.prog 27 #[.agg (ptrRow q).toArray, .int .i64 n] w fun e w' => e = .returned (.int .i64 (checkE q n)) ∧ Below w.heap.size w w' := by
  have hb := (Below.refl w.heap.size w).alloc (Nat.le_refl _) (.cells (ptrRow q).toArray 28)
  have hA := heap_alloc_new w (.cells (ptrRow q).toArray 28)
  have HB := Lib.hid hb
  have HA := Lib.hid hA
  have HN := Lib.hid (fun W => pmay_any q n W)
  have SE := Lib.hid (size_ptrA q)
  have HC := Lib.hid (show checkE q n = if mayB q n then 0 else 4 from rfl)
  generalize checkE q n = ce at *
  generalize mayB q n = mb at *
  clear hb hA
  generalize (ptrRow q).toArray = AR at *
  go_enter Tryd.func27, Tryd.ntmps27
  go_wp2_with (first
    | (with_reducible refine wpList_load_row (o := ⟨some 5, _, _, _, _, _⟩) rfl 28 _ rfl w.heap.size rfl 28 AR (0, 0) _ HA.out Tryd.underlying28 rfl SE.out ?_))
  refine (HN.out _).mono ?_
  rintro e w2 ⟨rfl, hb2⟩
  have HB2 := Lib.hid (HB.out.trans (hb2.mono (by simp)))
  clear hb2 HA HB SE HN
  cases mb with
  | true =>
    have HC2 := Lib.hid (show ce = 0 from HC.out)
    clear HC
    go_wp2_with fail
    go_ret
    exact ⟨by rw [HC2.out]; rfl, HB2.out⟩
  | false =>
    have HC2 := Lib.hid (show ce = 4 from HC.out)
    clear HC
    go_wp2_with fail
    go_ret
    exact ⟨by rw [HC2.out]; rfl, HB2.out⟩
set_option maxRecDepth 100000 in
set_option maxHeartbeats 1600000 in
theorem rcheck_any (q : PtrV) (n : Int) (h63 : n ≤ 9223372036854775807) (w : World) :
    Calls Tryd.prog 28 #[.agg (ptrRow q).toArray, .int .i64 n] w fun e w' => e = .returned (.int .i64 (checkE q n)) ∧ Below w.heap.size w w' := by
  have hb := (Below.refl w.heap.size w).alloc (Nat.le_refl _) (.cells (ptrRow q).toArray 28)
  have hA := heap_alloc_new w (.cells (ptrRow q).toArray 28)
  obtain ⟨c0, c1, _⟩ := ptr_at hA
  have HB := Lib.hid hb
  have HA := Lib.hid hA
  have heq := eq_zero q
  have SE := Lib.hid (size_ptrA q)
  have hq := q.a0
  have hm : checkE q n = if q.ad = 0 then (if decide (q = zeroPtr) = true then 0 else 4) else if decide (2 ≤ q.ad) && decide (q.ad < n) && decide (q.bi ≠ 0) then 0 else 4 := by
    unfold checkE mayB
    by_cases h : q.ad = 0
    · rw [if_pos h, if_pos h]
    · rw [if_neg h, if_neg h]
  generalize checkE q n = ce at *
  generalize hD : decide (q = zeroPtr) = dz at *
  clear hb hA hD
  generalize (ptrRow q).toArray = AR at *
  generalize q.ad = ad at *
  generalize q.bi = bi at *
  have hw : IntKind.u64.wrap ad = ad := IntWalk.u64_in _ (by omega)
  by_cases h0 : ad = 0
  · rw [if_pos h0] at hm
    have HM := Lib.hid hm
    have HE : (ad == 0) = true := by simpa using h0
    subst h0
    clear c1 hq hw hm HE
    go_enter Tryd.func28, Tryd.ntmps28
    go_wp2_with (first
      | (with_reducible refine wpList_load_row (o := ⟨some 8, _, _, _, _, _⟩) rfl 28 _ rfl w.heap.size rfl 28 AR (0, 0) _ HA.out Tryd.underlying28 rfl SE.out ?_))
    all_goals (go_ret; refine ⟨?_, HB.out⟩; rw [HM.out]; simp [*])
  · rw [if_neg h0] at hm
    have HM := Lib.hid hm
    have HE : (ad == 0) = false := by simpa using h0
    have hbz : decide (ad = 0) = false := by simpa using h0
    clear h0 heq hm
    by_cases hn : n < 0
    · clear hw hq
      go_enter Tryd.func28, Tryd.ntmps28
      go_wp2_with fail
      all_goals (go_ret; refine ⟨?_, HB.out⟩; rw [HM.out]; clear HM HB HA SE c0 c1 HE hbz; split <;> first | rfl | (exfalso; simp_all; done) | (exfalso; simp_all; omega))
    · have hwn : IntKind.u64.wrap n = n := IntWalk.u64_in _ (by omega)
      clear hq
      go_enter Tryd.func28, Tryd.ntmps28
      go_wp2_with fail
      all_goals (go_ret; refine ⟨?_, HB.out⟩; rw [HM.out]; clear HM HB HA SE c0 c1 HE hbz; split <;> first | rfl | (exfalso; simp_all; done) | (exfalso; simp_all; omega))

/-! ### as bytes -/
def ptrB (q : PtrV) : List Int := putI q.ad 4 ++ (putI q.bi 8 ++ q.su)
theorem ptrB_length (q : PtrV) : (ptrB q).length = 44 := by simp [ptrB, putI_length, q.s0.1]
theorem ptrB_byt (q : PtrV) : Byt (ptrB q) := by
  intro z hz
  unfold ptrB at hz
  simp only [List.mem_append] at hz
  rcases hz with hz | hz | hz
  · exact putI_byt _ _ z hz
  · exact putI_byt _ _ z hz
  · exact q.s0.2 z hz
theorem numW_fit (z : Int) (k : Nat) (hk : k ≤ 8) (h1 : z < 2 ^ (8 * k)) : numW z (k : Int) = (putI z k, 0) := by
  unfold numW
  rw [if_neg (by simp; omega)]
  simp
theorem WStep.same {w w' : World} {P B k : Nat} {v : Value} {l : List Int} (s : WStep w w' P B v l) (hk : k < w.heap.size) (h1 : k ≠ P) (h2 : v.ownBlock ≠ some k) : w'.heap[k]? = w.heap[k]? := by
  obtain ⟨_, _, t, _⟩ := s
  refine t.block k hk ?_
  simp only [List.mem_cons, Option.mem_toList]
  rintro (e | e)
  · exact h1 e
  · exact h2 e
theorem own_small {w : World} {B n k : Nat} {e : TypeId} {v : Value} {xs : List Value} (h : w.ownsRow B e k v n xs) : v.ownBlock ≠ some w.heap.size := by
  intro e
  have := (h.lt _ e).2
  omega
set_option maxRecDepth 100000 in
set_option maxHeartbeats 1600000 in
theorem pput_any (P B : Nat) (v : Value) (l : List Int) (q : PtrV) (w : World) (h : WO w P B v l) (h63 : l.length ≤ 140737488100000) (hB : B ≤ w.heap.size) :
    Calls Tryd.prog 35 #[.pointer (some ⟨P, 0, none⟩), .agg (ptrRow q).toArray] w fun e w' => e = .returned (.int .i64 0) ∧ WStep w w' P B v (l ++ ptrB q) := by
  have hb := (Below.refl w.heap.size w).alloc (Nat.le_refl _) (.cells (ptrRow q).toArray 28)
  have hA := heap_alloc_new w (.cells (ptrRow q).toArray 28)
  have hT : w.heap.size < (w.alloc (.cells (ptrRow q).toArray 28)).heap.size := by simp
  have hv := own_small h.own
  have hP : w.heap.size ≠ P := by have := h.lt; omega
  have h1 := h.below hb
  have hB1 := Nat.le_trans hB hb.size
  have ha := q.a0
  have hbi := q.b0
  have HN1 := Lib.hid (wnum_any P B v l q.ad 4 _ h1 ha.1 (by omega) hB1)
  rw [show numW q.ad 4 = (putI q.ad 4, 0) from numW_fit q.ad 4 (by decide) (by omega)] at HN1
  have HX := Lib.hid (show ∀ w2, WStep (w.alloc (.cells (ptrRow q).toArray 28)) w2 P B v (l ++ putI q.ad 4) → w2.heap[w.heap.size]? = some (.cells (ptrRow q).toArray 28 (0, 0)) ∧ (w.alloc (.cells (ptrRow q).toArray 28)).heap.size ≤ w2.heap.size from
    fun w2 s => ⟨(s.same hT hP hv).trans hA, by obtain ⟨_, _, t, _⟩ := s; exact t.size⟩)
  have SH := Lib.hid (show (Tryd.prog.info? 26).map (·.size) = some (q.su.map (Value.int .u8)).length by rw [show (Tryd.prog.info? 26).map (·.size) = some 32 by kernel_rfl, List.length_map, q.s0.1])
  have HB := Lib.hid hb
  have HVP := Lib.hid (And.intro hP (And.intro hv (And.intro hT (And.intro h63 hB1))))
  obtain ⟨c0, _, _⟩ := ptr_at hA
  have hw : IntKind.u64.wrap q.ad = q.ad := IntWalk.u64_in _ (by omega)
  have HQ := Lib.hid (And.intro hbi q.s0)
  have HE := Lib.hid (show ptrB q = putI q.ad 4 ++ (putI q.bi 8 ++ q.su) from rfl)
  have HAT := Lib.hid (fun (W : World) (t : Nat) (h : W.heap[w.heap.size]? = some (.cells (ptrRow q).toArray t (0, 0))) => ptr_at h)
  clear h hA hT hv hP h1 hB1 hbi hb h63 hB
  generalize ptrB q = PB at *
  generalize (ptrRow q).toArray = AR at *
  generalize q.ad = ad at *
  generalize q.bi = bi at *
  generalize q.su = su at *
  clear ha
  go_enter Tryd.func35, Tryd.ntmps35
  go_wp2_with fail
  refine HN1.out.mono ?_
  rintro e w2 ⟨rfl, s1⟩
  obtain ⟨g2, hs2⟩ := HX.out w2 s1
  obtain ⟨v1, o1, t1, n1⟩ := s1
  have HN2 := Lib.hid (wnum_any P B v1 _ bi 8 w2 o1 HQ.out.1.1 (by rw [List.length_append, putI_length]; have := HVP.out.2.2.2.1; omega) (Nat.le_trans HVP.out.2.2.2.2 hs2))
  rw [show numW bi 8 = (putI bi 8, 0) from numW_fit bi 8 (by decide) (by have := HQ.out.1.2; omega)] at HN2
  have hv1 : v1.ownBlock ≠ some w.heap.size := by
    rcases n1 with e | ⟨g, e, hg⟩
    · rw [e]; exact HVP.out.2.1
    · rw [e]; intro e2; have := HVP.out.2.2.1; simp only [Option.some.injEq] at e2; omega
  have G2 := Lib.hid g2
  obtain ⟨_, c1, _⟩ := HAT.out w2 _ g2
  have S1 := Lib.hid (And.intro t1 (And.intro n1 hv1))
  have SZ2 := Lib.hid hs2
  clear g2 hs2 o1 t1 n1 hv1 HN1 HX c0 hw
  go_wp2_with fail
  refine HN2.out.mono ?_
  rintro e w3 ⟨rfl, s2⟩
  have g3 := (s2.same (Nat.lt_of_lt_of_le HVP.out.2.2.1 SZ2.out) HVP.out.1 S1.out.2.2).trans G2.out
  obtain ⟨v2, o2, t2, n2⟩ := s2
  have HN3 := Lib.hid (whash_any P B v2 _ su w3 o2 HQ.out.2.1 HQ.out.2.2 (by rw [List.length_append, List.length_append, putI_length, putI_length]; have := HVP.out.2.2.2.1; omega) (Nat.le_trans HVP.out.2.2.2.2 (Nat.le_trans SZ2.out t2.size)))
  have HRG := Lib.hid (HAT.out w3 _ g3).2.2
  have S2 := Lib.hid (And.intro t2 n2)
  clear g3 o2 t2 n2 c1 HN2 G2 HAT
  go_wp2_with (first
    | (with_reducible refine wpList_load_mid (op := ⟨some 18, _, _, _, _, _⟩) rfl 26 _ rfl w.heap.size 2 rfl (su.map (Value.int .u8)) _ HRG.out Tryd.underlying26 rfl SH.out ?_))
  have HN3' := HN3.out
  unfold i8s at HN3'
  refine HN3'.mono ?_
  rintro e w4 ⟨rfl, s3⟩
  have HS := Lib.hid ((wstep_trans S1.out.1 S1.out.2.1 (wstep_trans S2.out.1 S2.out.2 s3)).of_below HB.out)
  clear s3 HN3 HRG HN3'
  go_wp2_with fail
  go_ret
  refine ⟨rfl, ?_⟩
  rw [HE.out, ← List.append_assoc, ← List.append_assoc]
  exact HS.out
theorem wl_ptr (w0 w : World) (P : Nat) (l : List Int) (q : PtrV) (h : WL w0 w P l) (h63 : l.length ≤ 140737488100000) :
    Calls Tryd.prog 35 #[.pointer (some ⟨P, 0, none⟩), .agg (ptrRow q).toArray] w fun e w' => e = .returned (.int .i64 0) ∧ WL w0 w' P (l ++ ptrB q) := by
  obtain ⟨v, h, hP, hb⟩ := h
  exact (pput_any P _ v l q w h h63 hb.size).mono fun e w' ⟨he, hs⟩ => ⟨he, wl_step h hP hb hs⟩
theorem pput_nil (q : PtrV) (w : World) :
    Calls Tryd.prog 35 #[.pointer none, .agg (ptrRow q).toArray] w fun e w' => e = .returned (.int .i64 1) ∧ Below w.heap.size w w' := by
  have HB := Lib.hid ((Below.refl w.heap.size w).alloc (Nat.le_refl _) (.cells (ptrRow q).toArray 28))
  generalize (ptrRow q).toArray = AR at *
  go_enter Tryd.func35, Tryd.ntmps35
  go_wp2_with fail
  go_ret
  exact ⟨rfl, HB.out⟩
end Go.Proofs.YtocdjaenhllemaaDoor
